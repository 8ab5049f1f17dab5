import PyProof.Rows.All
import Wide.All
import OpenK.AllK
import Wide.FinOn
import Lean
import PyProof.EqAt
import PyProof.EqKinds
import PyProof.TupleCall
import PyProof.DictIter
import PyProof.EnumMake
import KE.KSortTup
import KE.KDictLaws
import KE.KDictSum
import PyProof.StrLawsTight
import KE.KIntText
import PyProof.MinMaxWalk
import PyProof.WalkInts
import KE.KIsAll
import PyProof.ExcInit
import PyProof.NsDelKeeps
import PyProof.ExcBaseAll.ValueError
import OpenK.KOwn
import PyProof.ExcAttrAll.ValueError
import PyProof.InstStoreFacts
import PyProof.NoPylong
import PySem.Challenge.RW_shearfloor_k29_floors_that_meet
set_option Elab.async false
set_option linter.all false
set_option maxRecDepth 100000
set_option maxHeartbeats 4000000
set_option genSizeOf false
noncomputable section
section
local macro_rules|`(command|def $n:declId $s:optDeclSig $v:declVal)=>`(theorem $n:declId $(⟨Lean.mkNode ``Lean.Parser.Command.declSig #[s.raw[0],s.raw[1][0]]⟩):declSig $v:declVal)
local macro_rules|`(command|abbrev $n:declId $s:optDeclSig $v:declVal)=>`(noncomputable def $n:declId $s:optDeclSig $v:declVal)
local macro_rules|`(⋯)=>`(by first|lia|omega)
local macro_rules|`(∅)=>`(by decide)
local macro_rules|`(tactic|lk)=>`(tactic|first|lia|omega)
abbrev Zx:=@List.length_map
abbrev Zy:=@List.getElem?_eq_getElem
abbrev Zz:=@List.getElem?_eq_some_iff
abbrev ZA:=@Nat.le_refl
abbrev ZC:=@Bool.false_ne_true
abbrev ZD:=@PySem.Heap.get?_push_of_some
abbrev ZE:=@List.mem_cons_of_mem
abbrev ZF:=@List.mem_of_getElem?
abbrev ZG:=@List.getD_eq_getElem?_getD
abbrev ZH:=@List.length_append
abbrev ZI:=@List.getElem?_set_self
abbrev ZJ:=@List.getElem?_set_ne
abbrev ZK:=@List.mem_cons_self
abbrev ZL:=@List.mem_map
abbrev ZM:=@List.size_toArray
abbrev ZN:=@Option.some.inj
abbrev ZO:=@List.getElem?_map
abbrev ZP:=@Int.toNat_natCast
abbrev ZQ:=@List.getElem?_append_left
abbrev ZR:=@PySem.Heap.lt_size
abbrev ZS:=@List.map_append
abbrev ZT:=@List.map_cons
abbrev ZU:=@List.mem_singleton
abbrev ZV:=@Bool.and_eq_true
abbrev ZW:=@List.getElem?_append_right
abbrev ZX:=@PySem.Heap.get?_push_size
abbrev ZY:=@List.mem_cons
abbrev ZZ:=@PySem.Heap.get?_update_other
abbrev Z0:=@Int.toNat_of_nonneg
abbrev Z1:=@List.map_map
abbrev Z2:=@List.length_cons
abbrev Z3:=@Nat.le_trans
abbrev Z4:=@Option.map_eq_some_iff
abbrev Z5:=@Nat.lt_of_lt_of_le
abbrev Z6:=@List.mem_append
abbrev Z7:=@List.mem_append_right
abbrev Z8:=@Nat.ne_of_lt
abbrev Z9:=@List.take_succ_eq_append_getElem
abbrev Zaa:=@Nat.zero_le
abbrev Zab:=@List.getD_cons_succ
abbrev Zac:=@List.getD_cons_zero
abbrev Zad:=@List.append_nil
abbrev Zae:=@List.length_set
abbrev Zaf:=@Nat.not_lt_zero
abbrev Zag:=@List.map_nil
abbrev Zah:=@Bool.false_eq_true
abbrev Zai:=@List.mem_range
abbrev Zaj:=@List.map_congr_left
abbrev Zak:=@PySem.Heap.get?_update_self
abbrev Zal:=@Option.bind_eq_some_iff
abbrev Zam:=@List.getElem?_eq_none_iff
abbrev Zan:=@List.replicate_succ
abbrev Zao:=@Array.getElem?_toList
abbrev Zap:=@List.contains_iff_mem
abbrev Zaq:=@Array.getD_eq_getD_getElem?
abbrev Zar:=@List.length_take
abbrev Zas:=@List.getElem_mem
abbrev Zat:=@Nat.lt_succ_self
abbrev Zau:=@List.nodup_cons
abbrev Zav:=@Nat.lt_of_le_of_lt
abbrev Zaw:=@List.lookup_cons
abbrev Zax:=@List.any_cons
abbrev Zay:=@List.getElem?_of_mem
abbrev Zaz:=@List.foldl_append
abbrev ZaA:=@List.find?_cons
abbrev ZaB:=@Int.emod_nonneg
abbrev ZaC:=@Array.length_toList
abbrev ZaD:=@Array.getElem?_eq_some_iff
abbrev ZaE:=@Option.bind_some
abbrev ZaF:=@List.all_eq_true
abbrev ZaG:=@List.getElem?_eq_none
abbrev ZaH:=@Int.emod_lt_of_pos
abbrev ZaI:=@List.pairwise_iff_getElem
abbrev ZaJ:=@Nat.le_succ
abbrev ZaK:=@Nat.le_of_lt
abbrev ZaL:=@List.mem_append_left
abbrev ZaM:=@Nat.sub_self
abbrev ZaN:=@List.length_range
abbrev ZaO:=@List.getElem_of_mem
abbrev ZaP:=@PySem.Heap.size_push
abbrev ZaQ:=@List.getElem_map
abbrev ZaR:=@List.mem_reverse
abbrev ZaS:=@List.take_length
abbrev ZaT:=@List.map_id
abbrev ZaU:=@Int.zero_add
abbrev ZaV:=@List.length_singleton
abbrev ZaW:=@List.flatten_cons
abbrev ZaX:=@List.pairwise_map
abbrev ZaY:=@List.drop_eq_getElem_cons
abbrev ZaZ:=@List.mem_erase_of_ne
abbrev Za0:=@List.findIdx?_eq_some_iff_getElem
abbrev Za1:=@Option.isSome_iff_exists
abbrev Za2:=@List.not_mem_nil
abbrev Za3:=@List.getElem?_range
abbrev Za4:=@List.getElem?_replicate
abbrev Za5:=@Nat.lt_irrefl
abbrev Za6:=@List.mem_filter
abbrev Za7:=@Bool.eq_iff_iff
abbrev Za8:=@List.length_nil
abbrev Za9:=@Array.append_empty
abbrev Zba:=@List.append_assoc
abbrev Zbb:=@List.reverse_cons
abbrev Zbc:=@List.length_replicate
abbrev Zbd:=@Nat.lt_or_ge
abbrev Zbe:=@List.Perm.refl
abbrev Zbf:=@Nat.zero_add
abbrev Zbg:=@List.idxOf_lt_length_of_mem
abbrev Zbh:=@List.prefix_refl
abbrev Zbi:=@List.length_reverse
abbrev Zbj:=@Bool.or_eq_true
abbrev Zbk:=@List.contains_cons
abbrev Zbl:=@List.Pairwise.imp_of_mem
abbrev Zbm:=@List.pairwise_cons
abbrev Zbn:=@List.nodup_append
abbrev Zbo:=@List.drop_of_length_le
abbrev Zbp:=@List.pairwise_lt_range
abbrev Zbq:=@Nat.le_of_not_lt
abbrev Zbr:=@Nat.le_of_ble_eq_true
abbrev Zbu:=@Nat.ne_of_gt
abbrev Zbv:=@List.perm_cons_erase
abbrev Zbx:=@List.filterMap_cons
abbrev Zby:=@List.length_pos_iff
abbrev Zbz:=@List.mergeSort_perm
abbrev ZbA:=@List.drop_zero
abbrev ZbB:=@List.getElem_range
abbrev ZbC:=@List.getElem_idxOf
abbrev ZbD:=@List.prefix_append
abbrev ZbF:=@Bool.xor_self
@[reducible]def Zfr:=PySem.W.Frag
namespace L2
open PySem PySem.Spec PyProof.Rows
@[reducible]def Key:=Sum Int Str
abbrev nX:Key->Value->Bool
 |.inl k,v=>Value.isInt k v
 |.inr x,v=>Value.isStrOf x v
abbrev Jv(w:World):Key->Int
 |.inl k=>hashInt k
 |.inr x=>hashStr w x
def vz:∀{k:Key} {v:Value},nX k v=true->(∃i t,k=Sum.inl i/\v=Value.int i t)\/(∃x t,k=Sum.inr x/\v=Value.str x t)
 |.inl i,v,h=>by
  obtain⟨t,e⟩:=Value.isInt_shape (k:=i) (v:=v) h;exact .inl ⟨i,t,rfl,e⟩
 |.inr x,v,h=>by
  obtain⟨t,e⟩:=Value.isStrOf_shape (x:=x) (v:=v) h;exact .inr ⟨x,t,rfl,e⟩
def Rc(i:Int)(t:Tok):nX (.inl i) (.int i t)=true:=by simp[nX,Value.isInt]
def Rf(x:Str)(t:Tok):nX (.inr x) (.str x t)=true:=by simp[nX,Value.isStrOf]
def yi(a b:Int):decide ((Sum.inl a:Key)=Sum.inl b)=(a == b):=by by_cases e:a=b;subst e;simp;have h:¬(Sum.inl a:Key)=Sum.inl b:=λq=>e (Sum.inl.inj q);rw[decide_eq_false h];exact(beq_eq_false_iff_ne.mpr e).symm
def yj(a b:Str):decide ((Sum.inr a:Key)=Sum.inr b)=decide (a=b):=by by_cases e:a=b;subst e;simp;have h:¬(Sum.inr a:Key)=Sum.inr b:=λq=>e (Sum.inr.inj q);rw[decide_eq_false h,decide_eq_false e]
def yk(a:Int)(b:Str):decide ((Sum.inl a:Key)=Sum.inr b)=false:=decide_eq_false (λq=>nomatch q)
def yl(a:Str)(b:Int):decide ((Sum.inr a:Key)=Sum.inl b)=false:=decide_eq_false (λq=>nomatch q)
abbrev cO(prog:Program)(w:World):PySem.KeyKind prog w Key where
 is:=nX
 hash:=Jv w
 inj:=λv a b ha hb=>by
  rcases vz ha with⟨i,t,rfl,rfl⟩|⟨x,t,rfl,rfl⟩
  rcases vz hb with⟨j,u,rfl,e⟩|⟨y,u,rfl,e⟩
  injection e with e1 _;rw[e1];exact nomatch e;rcases vz hb with⟨j,u,rfl,e⟩|⟨y,u,rfl,e⟩
  exact nomatch e;injection e with e1 _;rw[e1]
 byValue:=λk v h=>by
  rcases vz h with⟨i,t,rfl,rfl⟩|⟨x,t,rfl,rfl⟩<;>rfl
 pyHash:=λhv h=>by
  rcases vz hv with⟨i,t,rfl,rfl⟩|⟨x,t,rfl,rfl⟩
  exact wpAny_pyHash_int h;exact wpAny_pyHash_str h
 eqBool:=λhu hv h=>by
  rcases vz hu with⟨i,t,rfl,rfl⟩|⟨x,t,rfl,rfl⟩
  rcases vz hv with⟨j,u,rfl,rfl⟩|⟨y,u,rfl,rfl⟩
  rw[yi]at h;exact wpAny_eqBool_int h;rw[yk]at h;exact SeqAt.EqAt.int_str i t y u _ _ _ _ h;rcases vz hv with⟨j,u,rfl,rfl⟩|⟨y,u,rfl,rfl⟩
  rw[yl]at h;exact SeqAt.EqAt.str_int x t j u _ _ _ _ h;rw[yj]at h;exact wpAny_eqBool_str h
 «strs»:=λk x t v h=>by
  rcases vz h with⟨i,u,rfl,e⟩|⟨y,u,rfl,e⟩
  exact nomatch e;injection e with e1 _;subst e1;cases v<;>rfl
def Rg(prog:Program)(w:World)(i:Int)(t:Tok):(cO prog w).is (.inl i) (.int i t)=true:=Rc i t
def Rh(prog:Program)(w:World)(x:Str)(t:Tok):(cO prog w).is (.inr x) (.str x t)=true:=Rf x t
inductive V where
 |non|bl (b:Bool)|int (i:Int)|str (x:Str)|sR (b:Array UInt8)|pN (b:UInt64)|ref (a:Addr)|ty (n:String)
 deriving DecidableEq
abbrev RelV:V->Value->Prop
 |.non,u=>u=Value.none
 |.bl b,u=>u=Value.bool b
 |.int i,u=>∃t,u=Value.int i t
 |.str x,u=>∃t,u=Value.str x t
 |.sR b,u=>∃t,u=Value.bytes b t
 |.pN b,u=>∃t,u=Value.float b t
 |.ref a,u=>u=Value.ref a
 |.ty n,u=>u=Value.type n
@[reducible]def Vals:List V->List Value->Prop:=Paired RelV
def Vals.length{xs:List V}{us:List Value}(r:Vals xs us):xs.length=us.length:=Paired.length r
def Vals.get:∀{xs:List V} {us:List Value} {i:Nat} {x:V},Vals xs us->xs[i]?=some x->∃u,us[i]?=some u/\RelV x u
 |_,_,_,_,.nil,e=>by simp at e
 |_,_,0,_,.cons r _,e=>by simp at e;subst e;exact⟨_,rfl,r⟩
 |_,_,i+1,x,.cons _ t,e=>by
  obtain⟨u,h1,h2⟩:=Vals.get (i:=i) (x:=x) t (by simpa using e);exact⟨u,by simpa using h1,h2⟩
def Vals.set{x:V}{u:Value}(r:RelV x u):∀{xs:List V} {us:List Value} (i:Nat),Vals xs us->Vals (xs.set i x) (us.set i u)
 |_,_,_,.nil=>.nil
 |_,_,0,.cons _ t=>.cons r t
 |_,_,i+1,.cons q t=>.cons q (Vals.set r i t)
def Vals.append:∀{xs ys:List V} {us ws:List Value},Vals xs us->Vals ys ws->Vals (xs ++ ys) (us ++ ws)
 |_,_,_,_,.nil,s=>s
 |_,_,_,_,.cons r t,s=>.cons r (Vals.append t s)
def Vals.take:∀{xs:List V} {us:List Value} (n:Nat),Vals xs us->Vals (xs.take n) (us.take n)
 |_,_,0,_=>.nil
 |_,_,_+1,.nil=>.nil
 |_,_,n+1,.cons r t=>.cons r (Vals.take n t)
def Vals.drop:∀{xs:List V} {us:List Value} (n:Nat),Vals xs us->Vals (xs.drop n) (us.drop n)
 |_,_,0,r=>r
 |_,_,_+1,.nil=>.nil
 |_,_,n+1,.cons _ t=>Vals.drop n t
abbrev mX:Option V->Option Value->Prop
 |some v,some u=>RelV v u
 |none,none=>True
 |_,_=>False
abbrev KV{κ:Type}:List (κ×V)->List (κ×Value)->Prop:=Paired λ(p:κ×V) (q:κ×Value)=>p.1=q.1/\RelV p.2 q.2
abbrev kV:Key->V
 |.inl i=>.int i
 |.inr x=>.str x
set_option genInjectivity false in
inductive HO where
 /-- a list -/
 |lst (xs:List V)
 /-- a tuple (never changes) -/
 |tup (xs:List V)
 /-- a dict whose keys are ints and texts;one whose keys are tuples of ints and texts (the empty one is both) -/
 |dK (kvs:List (Key×V))|dT (kvs:List (List Key×V))
 /-- a set of ints: its members,its size -/
 |set (S:Int->Bool) (n:Nat)
 /-- an instance of the class at C,its dict at dx,its attributes -/
 |ins (C dx:Addr) (fs:List (Str×V))
 /-- the dict of the instance at x -/
 |own (x:Addr)
 /-- the dict of an exception -/
 |xd (fs:List (Str×V))
 /-- a bound method,f of x -/
 |met (f x:Addr)
 /-- a range object lo,lo+1,.. below hi -/
 |iE (lo hi:Int)
 /-- a thing that is known to the object (the script;a dict while a loop walks it): read,never written while it is so -/
 |mJ (o:Obj) (u:HO)
 /-- a code Cy table -/
 |wO (ps:Array Value)
 /-- any other thing,by what is true of its one object (a def of Mw own: Ri a S n:=HO.ext λh=>..) -/
 |ext (φ:Heap->Prop)
@[reducible]def Hp:=Addr->Option HO
abbrev upd(H:Hp)(a:Addr)(o:HO):Hp:=λb=>if b=a then some o else H b
def mK{H:Hp}{a:Addr}{o:HO}:upd H a o a=some o:=by unfold upd;rw[if_pos rfl]
def dO{H:Hp}{a b:Addr}{o:HO}(h:b≠a):upd H a o b=H b:=by unfold upd;rw[if_neg h]
def Rj{H:Hp}{a:Addr}{o u:HO}:upd (upd H a o) a u=upd H a u:=by funext b;unfold upd;split<;>rfl
def Jw{H:Hp}{a b:Addr}{o u:HO}(h:H a=some o)(h':H b=some u)(d:o≠u):a≠b:=by intro e;subst e;rw[h]at h';exact d (ZN h')
def ym{H:Hp}{a b:Addr}{o:HO}(h:H a=some o)(h':H b=none):a≠b:=by intro e;subst e;rw[h]at h';cases h'
abbrev oB(h:Heap)(a:Addr)(its:Array Value):Prop:=∃o,h.get? a=some o/\o.cls=.type "tuple" /\ o.dict=none/\∃n,o.data=.seq its n
def oB.tup{h:Heap}{a:Addr}{its:Array Value}(x:oB h a its):IsTup h a its:=let ⟨o,e,c,_,n,d⟩:=x;⟨o,e,c,n,d⟩
def oB.new(h:Heap)(its:Array Value):oB (h.push { cls:=.type "tuple",data:=.seq its }) h.objs.size its:=⟨_,ZX _ rfl,rfl,rfl,_,rfl⟩
section
variable (P:Program)(w:World)
abbrev bD(H:Hp)(h:Heap)(a:Addr):HO->Prop
 |.lst xs=>xs.length<=sizeLine/\∃(its:List Value) (n:Nat),Vals xs its/\h.get? a=some { cls:=.type "list",data:=.seq its.toArray n }
 |.tup xs=>xs.length<=sizeLine/\∃its:List Value,Vals xs its/\oB h a its.toArray
 |.dK kvs=>kvs.length<=sizeLine/\(a == sysModules)=false/\∃vs,KV kvs vs/\h.DictOf (cO P w) a vs
 | .dT kvs=>kvs.length<=sizeLine/\(a == sysModules)=false/\∃ xs:List (List Key×Addr×Value),
   Paired (λ(p:List Key×V) (q:List Key×Addr×Value)=>p.1=q.1/\H q.2.1=some (.tup (p.1.map kV))/\RelV p.2 q.2.2) kvs xs /\
   ∃o es ep,h.get? a=some o/\o.ExactDict/\o.data=.dict es ep/\es.toList=xs.map (entryOfKey (tupleKind (cO P w)))/\(xs.map (·.1)).Nodup
 |.set S n=>h.SetOf (intKind P w) a S n
 | .ins C dx fs=>H dx=some (.own a)/\fs.length<=1000/\dx≠a/\h.get? a=some (PySem.W.instObj C dx) /\
   ∃mA,h.Ns1 dx mA/\(∀f,mX (fs.lookup f) (mA f))/\PySem.Within mA (fs.map (·.1))
 |.own _=>∃o,h.get? a=some o
 |.xd fs=>∃mA,h.Ns1 a mA/\∀f,mX (fs.lookup f) (mA f)
 |.iE lo hi=>∃t u v,h.get? a=some { cls:=.type "range",data:=.fields #[.int lo t,.int hi u,.int 1 v] }
 |.mJ o u=>h.get? a=some o/\bD H h a u
 |.wO ps=>h.get? a=some { cls:=.none,data:=.fields ps }
 |.met f x=>h.get? a=some (PySem.W.methodObj (.ref f) (.ref x))
 |.ext φ=>φ h/\(∃o,h.get? a=some o)/\∀h1 h2:Heap,φ h1->(∀o,h1.get? a=some o->h2.get? a=some o)->φ h2
abbrev jN(H:Hp)(h:Heap):Prop:=∀a o,H a=some o->bD P w H h a o
end
section
variable {P:Program}{w:World}{H H':Hp}{h h':Heap}{a:Addr}{o:HO}
def bD.lt(x:bD P w H h a o):a<h.objs.size:=by
 cases o with
 |lst xs=>obtain⟨_,_,_,_,e⟩:=x;exact ZR e
 |tup xs=>obtain⟨_,_,_,_,e,_⟩:=x;exact ZR e
 |dK kvs=>obtain⟨_,_,_,_,o,_,_,e,_⟩:=x;exact ZR e
 |dT kvs=>obtain⟨_,_,_,_,o,_,_,e,_⟩:=x;exact ZR e
 |set S n=>obtain⟨o,_,_,_,e,_⟩:=x;exact ZR e
 |ins C dx fs=>obtain⟨_,_,_,e,_⟩:=x;exact ZR e
 |own y=>obtain⟨_,e⟩:=x;exact ZR e
 |xd fs=>obtain⟨_,⟨_,_,_,e,_⟩,_⟩:=x;exact ZR e
 |iE lo hi=>obtain⟨_,_,_,e⟩:=x;exact ZR e
 |mJ ob u=>obtain⟨e,_⟩:=x;exact ZR e
 |wO ps=>exact ZR (show h.get? a=some _ from x)
 |met f y=>exact ZR (show h.get? a=some _ from x)
 |ext φ=>obtain⟨_,⟨_,e⟩,_⟩:=x;exact ZR e
def Paired.yo{α β:Type}{F G:α->β->Prop}:∀{l₁:List α} {l₂:List β},Paired F l₁ l₂->(∀a b,F a b->G a b)->Paired G l₁ l₂
 |_,_,.nil,_=>.nil
 |_,_,.cons r t,f=>.cons (f _ _ r) (Paired.yo t f)
def bD.stay(x:bD P w H h a o)(k:∀b u,(b=a\/H b=some (.own a))->h.get? b=some u->h'.get? b=some u)
  (ho:∀b,H b=some (.own a)->H' b=some (.own a)) (ht:∀b xs,H b=some (.tup xs)->H' b=some (.tup xs)):bD P w H' h' a o:=by
 induction o with
 |lst xs=>obtain⟨z,its,n,r,e⟩:=x;exact⟨z,its,n,r,k _ _ (.inl rfl) e⟩
 |tup xs=>obtain⟨z,its,r,ob,e,c⟩:=x;exact⟨z,its,r,ob,k _ _ (.inl rfl) e,c⟩
 |dK kvs=>obtain⟨z,y,vs,r,ob,es,ep,e,c⟩:=x;exact⟨z,y,vs,r,ob,es,ep,k _ _ (.inl rfl) e,c⟩
 |dT kvs =>
  obtain⟨z,y,xs,r,ob,es,ep,e,c⟩:=x;exact⟨z,y,xs,Paired.yo r λp q z=>⟨z.1,ht _ _ z.2.1,z.2.2⟩,ob,es,ep,k _ _ (.inl rfl) e,c⟩
 |set S n=>obtain⟨ob,es,ep,t,e,c⟩:=x;exact⟨ob,es,ep,t,k _ _ (.inl rfl) e,c⟩
 |ins C dx fs =>
  obtain⟨d,z,ne,e,mA,⟨od,es,ep,e2,c⟩,r⟩:=x;exact⟨ho _ d,z,ne,k _ _ (.inl rfl) e,mA,⟨od,es,ep,k _ _ (.inr d) e2,c⟩,r⟩
 |own y=>obtain⟨ob,e⟩:=x;exact⟨ob,k _ _ (.inl rfl) e⟩
 |xd fs=>obtain⟨mA,⟨od,es,ep,e,c⟩,r⟩:=x;exact⟨mA,⟨od,es,ep,k _ _ (.inl rfl) e,c⟩,r⟩
 |iE lo hi=>obtain⟨t,u,v,e⟩:=x;exact⟨t,u,v,k _ _ (.inl rfl) e⟩
 |mJ ob u ih=>obtain⟨e,q⟩:=x;exact⟨k _ _ (.inl rfl) e,ih q⟩
 |wO ps =>
  have e:h.get? a=some { cls:=.none,data:=.fields ps }:=x;show h'.get? a=some { cls:=.none,data:=.fields ps };exact k a _ (.inl rfl) e
 |met f y =>
  have e:h.get? a=some (PySem.W.methodObj (.ref f) (.ref y)):=x;show h'.get? a=some (PySem.W.methodObj (.ref f) (.ref y));exact k a _ (.inl rfl) e
 |ext φ=>obtain⟨p,⟨o,e⟩,st⟩:=x;exact⟨st _ _ p λo q=>k _ _ (.inl rfl) q,⟨o,k _ _ (.inl rfl) e⟩,st⟩
def jN.lt(x:jN P w H h)(e:H a=some o):a<h.objs.size:=(x a o e).lt
def jN.fresh(x:jN P w H h)(e:h.objs.size<=a):H a=none:=by
 cases q:H a with
 |none=>rfl
 |some u=>exact absurd (Z5 (x.lt q) e) (Za5 _)
def jN.kept(x:jN P w H h)(k:∀b u,h.get? b=some u->h'.get? b=some u):jN P w H h':=λa o e =>
 (x a o e).stay (λb u _ q=>k b u q) (λ_ q=>q) λ_ _ q=>q
def jN.laid(x:jN P w H h)(k:∀b u,h.get? b=some u->h'.get? b=some u)(hp:h.objs.size<=a)(new:bD P w (upd H a o) h' a o):jN P w (upd H a o) h':=λb u e=>by
 have hn:=x.fresh hp;by_cases hb:b=a;subst hb;rw[mK]at e;cases e;exact new;rw[dO hb]at e;exact(x b u e).stay (λc v _ q=>k c v q) (λc q=>by rw[dO (ym q hn)];exact q) λc xs q=>by rw[dO (ym q hn)];exact q
end
abbrev Rd(H:Hp)(a:Addr)(u:HO):Prop:=H a=some u\/∃o,H a=some (.mJ o u)
def Rd.ok{P:Program}{w:World}{H:Hp}{h:Heap}{a:Addr}{u:HO}(r:Rd H a u)(x:jN P w H h):bD P w H h a u:=by
 rcases r with r|⟨o,r⟩
 exact x a u r;obtain⟨_,q⟩:=x a _ r;exact q
abbrev Cz:Option HO->Prop
 |some (.lst _)=>True
 |some (.dK _)=>True
 |some (.dT _)=>True
 |some (.set _ _)=>True
 |some (.ins _ _ _)=>True
 |some (.ext _)=>True
 |_=>False
section
variable {P:Program}{w:World}{H:Hp}{h h':Heap}{x e:Addr}{o':HO}
def jN.write(ok:jN P w H h)(mu:Cz (H x))(he:e=x\/H e=some (.own x))(k:∀b u,b≠e->h.get? b=some u->h'.get? b=some u)(BB:∃u,h'.get? e=some u)
  (new:bD P w (upd H x o') h' x o'):jN P w (upd H x o') h':=λb u q=>by
 have CA:∀c y,H c=some (.own y)->c≠x:=λc y r z=>by subst z;rw[r]at mu;exact mu
 have Jx:∀c xs,H c=some (.tup xs)->c≠x:=λc xs r z=>by subst z;rw[r]at mu;exact mu
 by_cases hb:b=x;subst hb;rw[mK]at q;cases q;exact new;rw[dO hb]at q;by_cases yp:b=e;have q':H b=some (.own x):=by
  rcases he with z|z
  exact absurd (yp.trans z) hb;rw[yp];exact z
 rw[q]at q';cases q';obtain⟨v,hv⟩:=BB;exact⟨v,by rw[yp];exact hv⟩;refine(ok b u q).stay (λc v hc r=>k c v ?_ r) (λc r=>by rw[dO (CA c b r)];exact r) λc xs r=>by rw[dO (Jx c xs r)];exact r
 rcases hc with rfl|hc
 exact yp;rintro rfl;rcases he with z|z
 exact CA c b hc z;rw[hc]at z;cases z;exact hb rfl
end
structure Un(fs ex:List Addr)(H H':Hp)(h h':Heap):Prop where
 keep:∀b o,h.get? b=some o->H b=none->b ∉ fs->b ∉ ex->h'.get? b=some o
 slot:∀b o,h.get? b=some o->H b=none->b∈fs->b ∉ ex->∃sl,h'.get? b=some { o with slots:=sl }
 free:∀b o,h.get? b=some o->H b=none->b ∉ ex->H' b=none
 there:∀b o,h.get? b=some o->b ∉ ex->∃o',h'.get? b=some o'
 tups:∀b xs,H b=some (.tup xs)->H' b=some (.tup xs)
 nI:∀b o u,H b=some (.mJ o u)->H' b=some (.mJ o u)
 oE:∀b ps,H b=some (.wO ps)->∃more,H' b=some (.wO (ps ++ more))
section
variable {fs fs' ex ex':List Addr}{H H1 H2:Hp}{h h1 h2 h':Heap}{a x e:Addr}{o:HO}
def Un.any(u:Un fs ex H H1 h h1){b:Addr}{ob:Obj}(q:h.get? b=some ob)(n:H b=none)(hx:b ∉ ex):∃sl,h1.get? b=some { ob with slots:=sl }:=by by_cases hb:b∈fs;exact u.slot b ob q n hb hx;exact⟨ob.slots,u.keep b ob q n hb hx⟩
def Un.kept(k:∀b u,h.get? b=some u->h'.get? b=some u):Un fs ex H H h h' :=
 ⟨λb ob q _ _ _=>k b ob q,λb ob q _ _ _=>⟨ob.slots,k b ob q⟩,λ_ _ _ n _=>n,λb ob q _=>⟨ob,k b ob q⟩,λ_ _ q=>q,λ_ _ _ q=>q,λ_ ps q=>⟨#[],by rw[q];simp⟩⟩
def Un.refl:Un fs ex H H h h:=Un.kept λ_ _ q=>q
def Un.laid(k:∀b u,h.get? b=some u->h'.get? b=some u)(hp:h.objs.size<=a)(hn:H a=none):Un fs ex H (upd H a o) h h' where
 keep:=λb u q _ _ _=>k b u q
 slot:=λb u q _ _ _=>⟨u.slots,k b u q⟩
 free:=λb u q n _=>by rw[dO (Z8 (Z5 (ZR q) hp))];exact n
 there:=λb u q _=>⟨u,k b u q⟩
 tups:=λb xs q=>by rw[dO (ym q hn)];exact q
 nI:=λb u xs q=>by rw[dO (ym q hn)];exact q
 oE:=λb ps q=>⟨#[],by rw[dO (ym q hn),q];simp⟩
def Un.write(mu:Cz (H x))(he:e=x\/H e=some (.own x))(k:∀b u,b≠e->h.get? b=some u->h'.get? b=some u)(BB:∃u,h'.get? e=some u):Un fs ex H (upd H x o) h h':=by
 have hx:∀b,H b=none->b≠x:=λb n z=>by subst z;rw[n]at mu;exact mu
 have hb:∀b,H b=none->b≠e:=λb n z=>by
  subst z;rcases he with r|r
  exact hx b n r;rw[n]at r;cases r
 have hm:∀b u,H b=some u->¬Cz (some u)->b≠x:=λb u q nm z=>by subst z;rw[q]at mu;exact nm mu
 refine⟨λb u q n _ _=>k b u (hb b n) q,λb u q n _ _=>⟨u.slots,k b u (hb b n) q⟩,λb u q n _=>by rw[dO (hx b n)];exact n,λb u q _=>?_,
  λb xs q=>by rw[dO (hm b _ q λz=>z)];exact q,λb u xs q=>by rw[dO (hm b _ q λz=>z)];exact q,λb ps q=>⟨#[],by rw[dO (hm b _ q λz=>z),q];simp⟩⟩
 by_cases yp:b=e;subst yp;exact BB;exact⟨u,k b u yp q⟩
end
abbrev GK(h:Heap)(H:Hp):List Addr:=(List.range h.objs.size).filter λa=>(H a).isSome
abbrev oG(h:Heap)(H:Hp):Heap:=PySem.W.hideAll h (GK h H)
def Rm(h:Heap)(H:Hp):(oG h H).objs.size=h.objs.size:=PySem.W.hideAll_size _ _
def Rn{h:Heap}{H:Hp}{b:Addr}{o:Obj}(e:h.get? b=some o)(n:H b=none):(oG h H).get? b=some o :=
 PySem.W.hideAll_get _ e λhm=>by
  have q:(H b).isSome=true:=(Za6.mp hm).2;rw[n]at q;simp at q
def Rq{h:Heap}{H:Hp}{b:Addr}{o:Obj}(e:(oG h H).get? b=some o):h.get? b=some o/\H b=none:=by
 have e':h.get? b=some o:=PySem.W.of_hideAll (GK h H) e;refine⟨e',?_⟩;cases q:H b with
 |none=>rfl
 |some x =>
  have hm:b∈GK h H:=Za6.mpr ⟨Zai.mpr (ZR e'),by simp[q]⟩;have z:(oG h H).get? b=none:=PySem.W.hideAll_none (GK h H) hm;rw[z]at e;cases e
abbrev vA(g h:Heap)(L:Addr):List (Addr×Obj):=(List.range h.objs.size).filterMap λa=>if a=L\/(g.get? a).isSome=true then none else(h.get? a).map λo=>(a,o)
abbrev rest(g h:Heap)(L d:Addr):List (Addr×Obj):=(vA g h L).filter λp=>decide (p.1≠d)
structure Mod(K:Zfr)(mg:Str->Option Value)(base:Heap):Prop where
 BD:K.In base
 glob:base.Ns mainGlobals mg
 blt:∃mb,base.Ns builtinsNs mb/\∀x:Str,x≠"__name__" -> mb x=bootBuiltins x
 nolimit:base.NoLimit
set_option genInjectivity false in
structure Cx where
 prog:Program
 w:World
 K:Zfr
 mg:Str->Option Value
 base:Heap
 A:Around
 N:List Str
 s₀:Shared
 H₀:Hp
 env:Env
 outer:List Env
 stack:List Env
 ex:List Addr
 fn:Str->Bool
 calm:Bool
 pn:List (Addr×Obj)
 xe:Value->Shared->Prop
abbrev frs(l:List Env):List Addr:=l.filterMap (·.frame)
@[reducible]def Cx.fs(X:Cx):List Addr:=frs X.outer
abbrev Jy(sc:Scope)(x:Str):Prop:=sc.names.lookup x=some .local\/sc.names.lookup x=some .cell\/sc.names.lookup x=some .free
abbrev Loc(sc:Scope)(x:Str):Prop:=sc.names.lookup x=some .local\/sc.names.lookup x=some .cell
abbrev Look(env:Env)(h:Heap)(m:Str->Option Value)(x:Str)(u:Value):Prop :=
 (env.kindOf x=some .local/\m x=some u)\/((env.kindOf x=some .cell\/env.kindOf x=some .free)/\∃c,env.cells.lookup x=some c/\h.IsCell c (some u))
structure Cx.Ok(X:Cx):Prop where
 mod:Mod X.K X.mg X.base
 kind:X.env.scope.kind=.function
 glob:X.env.globals=mainGlobals
 blt:X.env.builtins=builtinsNs
 above:X.s₀.heap.objs.size<=X.env.locals
 inj:∀x y c,X.env.cells.lookup x=some c->X.env.cells.lookup y=some c->x=y
 has:∀x,(X.env.kindOf x=some .cell\/X.env.kindOf x=some .free)->∃c,X.env.cells.lookup x=some c
 wQ:∀x c,X.fn x=true->X.env.cells.lookup x=some c->X.s₀.heap.objs.size<=c
 hd:X.calm=true->X.A.handled=none
 frames:X.A.frames=some X.stack
 stk:X.stack=X.outer\/(X.stack=X.env :: X.outer/\X.env.frame=some X.env.locals)
 CB:∀b∈X.ex,b≠X.env.locals/\∀x c,X.env.cells.lookup x=some c->c≠b
 bs:∀b o,X.base.get? b=some o->X.s₀.heap.get? b=some o/\X.H₀ b=none
 sS:X.base.objs.size<=X.s₀.heap.objs.size
 pO:∀b o,X.base.get? b=some o->b ∉ X.ex
 qB:∀b∈X.ex,b ∉ X.fs
 kQ:X.s₀.heap.FunFrames X.base X.outer
 uR:∀b∈X.fs,X.H₀ b=none
structure Inv(X:Cx)(pins:List (Addr×Obj))(σ:List (Option V))(H:Hp)(s:Shared):Prop where
 ok:X.Ok
 os:s.os=X.s₀.os
 bare:AllBare s.gens
 base:Un X.fs X.ex X.H₀ H X.s₀.heap s.heap
 loc:∃m,s.heap.Ns X.env.locals m/\∀(i:Nat) (x:Str) (v:V),X.N[i]?=some x->σ[i]?=some (some v)->Jy X.env.scope x->∃u,RelV v u/\Look X.env s.heap m x u
 cell:∀x c,X.env.cells.lookup x=some c->∃v,s.heap.IsCell c v
 free:H X.env.locals=none
 fX:∀x c,X.env.cells.lookup x=some c->H c=none
 pin:∀p∈X.pn ++ pins,s.heap.get? p.1=some p.2/\H p.1=none/\p.1≠X.env.locals/\p.1 ∉ X.fs/\∀v,p.2.data≠.cell v
 hok:jN X.prog X.w H s.heap
 len:σ.length=X.N.length
section
variable {X:Cx}{pins:List (Addr×Obj)}{σ:List (Option V)}{H H':Hp}{s:Shared}{h':Heap}
def Cx.Ok.Jz(ok:X.Ok){b:Addr}{o:Obj}(e:X.base.get? b=some o):b ∉ X.fs:=λhb=>by
 have:=(ok.kQ.mem hb).1;rw[e]at this;cases this
def Inv.bs(I:Inv X pins σ H s):∀b o,X.base.get? b=some o->s.heap.get? b=some o/\H b=none:=λb o e =>
 ⟨I.base.keep b o (I.ok.bs b o e).1 (I.ok.bs b o e).2 (I.ok.Jz e) (I.ok.pO b o e),I.base.free b o (I.ok.bs b o e).1 (I.ok.bs b o e).2 (I.ok.pO b o e)⟩
def Inv.bk(I:Inv X pins σ H s):∀b o,X.base.get? b=some o->s.heap.get? b=some o:=λb o e=>(I.bs b o e).1
def Inv.mod(I:Inv X pins σ H s):Mod X.K X.mg X.base:=I.ok.mod
def Inv.oH(I:Inv X pins σ H s):X.K.In s.heap:=I.ok.mod.BD.keeps I.bk
def Inv.lt(I:Inv X pins σ H s):X.env.locals<s.heap.objs.size:=let ⟨_,hn,_⟩:=I.loc;hn.lt
def Inv.sz(I:Inv X pins σ H s):X.s₀.heap.objs.size<=s.heap.objs.size:=Z3 I.ok.above (ZaK I.lt)
def Inv.CC(I:Inv X pins σ H s){a:Addr}(h:s.heap.objs.size<=a):a ∉ X.fs:=λhb=>by
 obtain⟨_,o,ho,_⟩:=I.ok.kQ.mem hb;exact absurd (Z5 (ZR ho) (Z3 I.sz h)) (Za5 _)
def Inv.tq(I:Inv X pins σ H s):∀x c,X.env.cells.lookup x=some c->c≠X.env.locals:=λx c e z=>by
 obtain⟨v,o,ho,hd⟩:=I.cell x c e;obtain⟨m,⟨o',es,ep,ho',hd',_⟩,_⟩:=I.loc;rw[z,ho']at ho;cases ho;rw[hd']at hd;cases hd
def Inv.kQ(I:Inv X pins σ H s):s.heap.FunFrames X.base X.outer:=by
 have all:∀(l:List Env),(∀b∈frs l,b∈X.fs)->X.s₀.heap.FunFrames X.base l->s.heap.FunFrames X.base l:=by
  intro l
  induction l with
  |nil=>intro _ _;trivial
  |cons env r ih =>
   intro hs hl;obtain⟨hk,⟨L,o,hf,hn,ho,hd⟩,hr⟩:=hl;have hL:L∈X.fs:=hs L (by unfold frs;rw[Zbx,hf];exact ZK);obtain⟨sl,e⟩:=I.base.slot L o ho (I.ok.uR L hL) hL λz=>I.ok.qB L z hL;exact⟨hk,⟨L,_,hf,hn,e,hd⟩,ih (λb hb=>hs b (by unfold frs;rw[Zbx,hf];exact ZE _ hb)) hr⟩
 exact all X.outer (λ_ hb=>hb) I.ok.kQ
def Inv.stack(I:Inv X pins σ H s):s.heap.FunFrames X.base X.stack:=by
 rcases I.ok.stk with e|⟨e,hf⟩
 rw[e];exact I.kQ;rw[e];obtain⟨m,hn,_⟩:=I.loc;refine .cons (by rw[I.ok.kind];decide) hf hn ?_ I.kQ;exact Heap.get?_none_of_le (Z3 I.ok.sS I.ok.above)
def Inv.mY(I:Inv X pins σ H s):∀b∈frs X.stack,b∈X.env.locals :: X.fs:=λb hb=>by
 rcases I.ok.stk with e|⟨e,hf⟩
 rw[e]at hb;exact ZE _ hb;rw[e]at hb;unfold frs at hb;rw[Zbx,hf]at hb;exact hb
def Inv.oJ(I:Inv X pins σ H s):∀b∈frs X.stack,H b=none:=λb hb=>by
 rcases ZY.mp (I.mY b hb)with e|hb
 rw[e];exact I.free;obtain⟨_,o,ho,_⟩:=I.ok.kQ.mem hb;exact I.base.free b o ho (I.ok.uR b hb) λz=>I.ok.qB b z hb
def Inv.step{g':Array GenState}{t':Nat}{d':Drawn}{ch:List Addr}(I:Inv X pins σ H s)
  (hch:∀b∈ch,(b∈X.ex\/X.s₀.heap.objs.size<=b)/\b≠X.env.locals/\(∀x c,X.env.cells.lookup x=some c->c≠b)/\∀p∈X.pn ++ pins,p.1≠b)
  (keep:∀b o,b≠X.env.locals->b ∉ X.fs->b ∉ ch->s.heap.get? b=some o->H b=none->h'.get? b=some o)
  (slot:∀b o,b≠X.env.locals->b∈X.fs->b ∉ ch->s.heap.get? b=some o->H b=none->∃sl,h'.get? b=some { o with slots:=sl }) (free:∀b o,b ∉ ch->s.heap.get? b=some o->H b=none->H' b=none)
  (there:∀b o,b ∉ ch->s.heap.get? b=some o->∃o',h'.get? b=some o')
  (tups:∀b xs,H b=some (.tup xs)->H' b=some (.tup xs)) (nI:∀b o u,H b=some (.mJ o u)->H' b=some (.mJ o u)) (oE:∀b ps,H b=some (.wO ps)->∃more,H' b=some (.wO (ps ++ more)))
  (ns:∀m,s.heap.Ns X.env.locals m->h'.Ns X.env.locals m) (hok:jN X.prog X.w H' h') (hg:AllBare g') :
  Inv X pins σ H' { s with heap:=h',gens:=g',drawn:=d',toks:=t' }:=by
 have yq:∀b o,X.s₀.heap.get? b=some o->b≠X.env.locals:=λb o e=>Z8 (Z5 (ZR e) I.ok.above);have GL:∀b o,X.s₀.heap.get? b=some o->b ∉ X.ex->b ∉ ch:=λb o e hx hb=>by
  rcases(hch b hb).1 with z|z
  exact hx z;exact absurd (Z5 (ZR e) z) (Za5 _)
 have cellK:∀x c,X.env.cells.lookup x=some c->∀v,s.heap.IsCell c v->h'.IsCell c v:=λx c e v ⟨o,ho,hd⟩=>by
  have CD:c ∉ ch:=λz=>(hch c z).2.2.1 x c e rfl;by_cases hc:c∈X.fs;obtain⟨sl,q⟩:=slot c o (I.tq x c e) hc CD ho (I.fX x c e);exact⟨_,q,hd⟩;exact⟨o,keep c o (I.tq x c e) hc CD ho (I.fX x c e),hd⟩
 refine⟨I.ok,I.os,hg,⟨λb o e n hb hx=>?_,λb o e n hb hx=>?_,λb o e n hx=>?_,λb o e hx=>?_,λb xs e=>tups b xs (I.base.tups b xs e),λb o xs e=>nI b o xs (I.base.nI b o xs e),λb ps e=>?_⟩,?_,λx c e=>?_,?_,λx c e=>?_,λp hp=>?_,hok,I.len⟩;exact keep b o (yq b o e) hb (GL b o e hx) (I.base.keep b o e n hb hx) (I.base.free b o e n hx);obtain⟨sl,e1⟩:=I.base.slot b o e n hb hx;obtain⟨Rr,e2⟩:=slot b _ (yq b o e) hb (GL b o e hx) e1 (I.base.free b o e n hx);exact⟨Rr,e2⟩;obtain⟨o',e1⟩:=I.base.there b o e hx;exact free b o' (GL b o e hx) e1 (I.base.free b o e n hx);obtain⟨o',e1⟩:=I.base.there b o e hx;exact there b o' (GL b o e hx) e1;obtain⟨m1,e1⟩:=I.base.oE b ps e;obtain⟨m2,e2⟩:=oE b _ e1;exact⟨m1 ++ m2,by rw[e2,Array.append_assoc]⟩;obtain⟨m,hn,hl⟩:=I.loc;refine⟨m,ns m hn,λi x v e1 e2 e3=>?_⟩;obtain⟨u,r,l⟩:=hl i x v e1 e2 e3;refine⟨u,r,?_⟩;rcases l with l|⟨k,c,e,z⟩
 exact .inl l;exact .inr ⟨k,c,e,cellK x c e _ z⟩;obtain⟨v,z⟩:=I.cell x c e;exact⟨v,cellK x c e v z⟩;obtain⟨m,⟨o,_,_,ho,_⟩,_⟩:=I.loc;exact free _ o (λz=>(hch _ z).2.1 rfl) ho I.free;obtain⟨v,o,ho,hd⟩:=I.cell x c e;exact free c o (λz=>(hch c z).2.2.1 x c e rfl) ho (I.fX x c e);obtain⟨e,n,ne,nf,d⟩:=I.pin p hp;have CD:p.1 ∉ ch:=λz=>(hch p.1 z).2.2.2 p hp rfl;exact⟨keep p.1 p.2 ne nf CD e n,free p.1 p.2 CD e n,ne,nf,d⟩
def Inv.un{t':Nat}(I:Inv X pins σ H s)(u:Un X.fs [] H H' s.heap h')(hok:jN X.prog X.w H' h'):Inv X pins σ H' { s with heap:=h',toks:=t' }:=by
 obtain⟨m,⟨o,es,ep,ho,r⟩,_⟩:=id I.loc;obtain⟨sl,hL⟩:=u.any ho I.free (by simp)
 exact I.step (g':=s.gens) (d':=s.drawn) (ch:=[]) (λ_ z=>nomatch z) (λb o _ hb _ e n=>u.keep b o e n hb (by simp)) (λb o _ hb _ e n=>u.slot b o e n hb (by simp)) (λb o _ e n=>u.free b o e n (by simp)) (λb o _ e=>u.there b o e (by simp)) u.tups u.nI u.oE (λm' hm=>by
  obtain⟨o',es',JA,ho',r'⟩:=hm;rw[ho]at ho';cases ho'
  exact⟨_,es',JA,hL,r'⟩) hok I.bare
def Inv.call{g':Array GenState}{t':Nat}{d':Drawn}{ch:List Addr}(I:Inv X pins σ H s)(u:Un (frs X.stack) ch H H' s.heap h')(hok:jN X.prog X.w H' h')(hg:AllBare g')
  (hch:∀b∈ch,(b∈X.ex\/X.s₀.heap.objs.size<=b)/\b≠X.env.locals/\(∀x c,X.env.cells.lookup x=some c->c≠b)/\∀p∈X.pn ++ pins,p.1≠b) :
  Inv X pins σ H' { s with heap:=h',gens:=g',drawn:=d',toks:=t' }:=by
 obtain⟨m,⟨o,es,ep,ho,r⟩,_⟩:=id I.loc;obtain⟨sl,hL⟩:=u.any ho I.free λz=>(hch _ z).2.1 rfl
 exact I.step (ch:=ch) hch (λb o hL hb hc e n=>u.keep b o e n (λz=>(ZY.mp (I.mY b z)).elim hL hb) hc) (λb o _ _ hc e n=>u.any e n hc) (λb o hc e n=>u.free b o e n hc) (λb o hc e=>u.there b o e hc) u.tups u.nI u.oE (λm' hm=>by
  obtain⟨o',es',JA,ho',r'⟩:=hm;rw[ho]at ho';cases ho'
  exact⟨_,es',JA,hL,r'⟩) hok hg
def Inv.turned{t':Nat}{it:Addr}(I:Inv X pins σ H s)(k:∀b o,b≠it->s.heap.get? b=some o->h'.get? b=some o)(hn:H it=none)(hL:it≠X.env.locals)
  (h1:it∈X.ex\/X.s₀.heap.objs.size<=it) (h2:∀x c,X.env.cells.lookup x=some c->c≠it) (h3:∀p∈X.pn ++ pins,p.1≠it):Inv X pins σ H { s with heap:=h',toks:=t' }:=by
 have CF:∀b u,H b=some u->b≠it:=λb u e z=>by rw[z,hn]at e;cases e
 refine I.step (g':=s.gens) (d':=s.drawn) (ch:=[it]) (λb hb=>?_) (λb o _ _ hc e _=>k b o (λz=>hc (by simp[z])) e) (λb o _ _ hc e _=>⟨o.slots,k b o (λz=>hc (by simp[z])) e⟩) (λ_ _ _ _ n=>n)
  (λb o hc e=>⟨o,k b o (λz=>hc (by simp[z])) e⟩) (λ_ _ e=>e) (λ_ _ _ e=>e) (λb ps e=>⟨#[],by rw[e];simp⟩) (λm hm=>?_) (λb u e=>?_) I.bare
 have e:b=it:=by simpa using hb
 subst e;exact⟨h1,hL,h2,h3⟩;obtain⟨o,es,ep,ho,r⟩:=hm;exact⟨o,es,ep,k _ o (Ne.symm hL) ho,r⟩;refine(I.hok b u e).stay (λc v hc q=>k c v ?_ q) (λ_ q=>q) λ_ _ q=>q;rcases hc with z|z
 rw[z];exact CF b u e;exact CF c _ z
def Inv.tok(I:Inv X pins σ H s)(t:Nat):Inv X pins σ H { s with toks:=t }:=I.un (h':=s.heap) (t':=t) Un.refl I.hok
def Inv.kept{t':Nat}(I:Inv X pins σ H s)(k:∀b u,s.heap.get? b=some u->h'.get? b=some u):Inv X pins σ H { s with heap:=h',toks:=t' }:=I.un (Un.kept k) (I.hok.kept k)
def Inv.laid{a:Addr}{o:HO}{t':Nat}(I:Inv X pins σ H s)(k:∀b u,s.heap.get? b=some u->h'.get? b=some u)(hp:s.heap.objs.size<=a)(new:bD X.prog X.w (upd H a o) h' a o):
  Inv X pins σ (upd H a o) { s with heap:=h',toks:=t' }:=I.un (Un.laid k hp (I.hok.fresh hp)) (I.hok.laid k hp new)
def Inv.write{x e:Addr}{o:HO}{t':Nat}(I:Inv X pins σ H s)(mu:Cz (H x))(he:e=x\/H e=some (.own x))(k:∀b u,b≠e->s.heap.get? b=some u->h'.get? b=some u)(BB:∃u,h'.get? e=some u)
  (new:bD X.prog X.w (upd H x o) h' x o):Inv X pins σ (upd H x o) { s with heap:=h',toks:=t' }:=I.un (Un.write mu he k BB) (I.hok.write mu he k BB new)
def Inv.mL{kK:List (Addr×Obj)}(I:Inv X pins σ H s)(h:∀p∈kK,s.heap.get? p.1=some p.2/\H p.1=none/\p.1≠X.env.locals/\p.1 ∉ X.fs/\∀v,p.2.data≠.cell v):Inv X kK σ H s :=
 ⟨I.ok,I.os,I.bare,I.base,I.loc,I.cell,I.free,I.fX,λp hp=>(Z6.mp hp).elim (λz=>I.pin p (ZaL _ z)) (h p),I.hok,I.len⟩
def JB{N:List Str}(hN:N.Nodup){i j:Nat}{x:Str}(a:N[i]?=some x)(b:N[j]?=some x):i=j:=by obtain⟨h1,e1⟩:=Zz.mp a;obtain⟨h2,e2⟩:=Zz.mp b;exact(List.getElem_inj hN).mp (e1.trans e2.symm)
def Mx{M:Model}{A:Around}{E:Value->Shared->Prop}{i:Nat}{x:Str}{v:V}{u:Value}{Q:Unit->Shared->Prop}(I:Inv X pins σ H s)(hN:X.N.Nodup)(hi:X.N[i]?=some x)(hx:Loc X.env.scope x)(r:RelV v u)
  (h:∀s',Inv X pins (σ.set i (some v)) H s'->(∃a,Heap.SameBut a s.heap s'.heap/\(a=X.env.locals\/X.env.cells.lookup x=some a))->Q () s') (hf:X.fn x=true\/X.env.scope.names.lookup x=some .local:=by first|exact .inl rfl|exact .inr rfl|assumption):wpAny M A (storeName X.env x u) Q E s:=by
 obtain⟨m,hn,hl⟩:=id I.loc;have hcls:(X.env.scope.kind == .class || (X.env.scope.kind == .module && X.env.locals != X.env.globals))=false:=by rw[I.ok.kind];rfl
 have hiσ:i<σ.length:=by rw[I.len];exact(Zz.mp hi).1
 have tq:=I.tq;have tracked:∀{a:Addr} {h':Heap},(∃o,s.heap.get? a=some o/\H a=none)->Heap.SameBut a s.heap h'->jN X.prog X.w H h':=λ{a h'} ha hs b ob e=>by
  obtain⟨_,_,hfree⟩:=ha;refine(I.hok b ob e).stay (λc w' hc q=>(hs.2 c ?_).trans q) (λ_ q=>q) λ_ _ q=>q;rintro rfl;rcases hc with rfl|hc
  rw[hfree]at e;cases e;rw[hfree]at hc;cases hc
 rcases hx with hk|hk
 refine wpAny_storeName_local hk hn (λh' hn' hs=>?_) hcls;obtain⟨oL,_,_,yr,_⟩:=id hn;refine h _ ⟨I.ok,I.os,I.bare,⟨λb o e n hb hx=>?_,λb o e n hb hx=>?_,I.base.free,λb o e hx=>?_,I.base.tups,I.base.nI,I.base.oE⟩,⟨_,hn',λj y v' e1 e2 e3=>?_⟩,λy c e=>?_,I.free,I.fX,λp hp=>?_,tracked ⟨oL,yr,I.free⟩ hs,by simpa using I.len⟩ ⟨_,hs,.inl rfl⟩;exact(hs.2 b (Z8 (Z5 (ZR e) I.ok.above))).trans (I.base.keep b o e n hb hx);obtain⟨sl,e1⟩:=I.base.slot b o e n hb hx;exact⟨sl,(hs.2 b (Z8 (Z5 (ZR e) I.ok.above))).trans e1⟩;obtain⟨o',e1⟩:=I.base.there b o e hx;exact⟨o',(hs.2 b (Z8 (Z5 (ZR e) I.ok.above))).trans e1⟩;by_cases hj:j=i;subst hj;rw[hi]at e1;cases e1;rw[ZI hiσ]at e2;cases e2;exact⟨u,r,.inl ⟨hk,by simp⟩⟩;rw[ZJ (Ne.symm hj)]at e2;obtain⟨u',r',q⟩:=hl j y v' e1 e2 e3;refine⟨u',r',?_⟩;rcases q with⟨k,e⟩|⟨k,c,e,z⟩
 refine .inl ⟨k,?_⟩
 have:y≠x:=λe=>hj (JB hN e1 (e ▸ hi));simp[this,e]
 exact .inr ⟨k,c,e,z.sameBut hs (tq y c e)⟩;obtain⟨w',z⟩:=I.cell y c e;exact⟨w',z.sameBut hs (tq y c e)⟩;obtain⟨e,n,ne,nf,d⟩:=I.pin p hp;exact⟨(hs.2 p.1 ne).trans e,n,ne,nf,d⟩;have hfn:X.fn x=true:=by
  rcases hf with z|z
  exact z;rw[z]at hk;cases hk
 obtain⟨c,hc⟩:=I.ok.has x (.inl hk);obtain⟨w',z⟩:=I.cell x c hc;refine wpAny_storeName_cell I.ok.kind hk hc z (λh' hc' hs=>?_);obtain⟨oc,hoc,JC⟩:=id z;refine h { s with heap:=h' } ⟨I.ok,I.os,I.bare,⟨λb o e n hb hx=>?_,λb o e n hb hx=>?_,I.base.free,λb o e hx=>?_,I.base.tups,I.base.nI,I.base.oE⟩,⟨m,hn.sameBut hs (Ne.symm (tq x c hc)),λj y v' e1 e2 e3=>?_⟩,λy c' e=>?_,I.free,I.fX,λp hp=>?_,tracked ⟨oc,hoc,I.fX x c hc⟩ hs,by simpa using I.len⟩ ⟨c,hs,.inr hc⟩;exact(hs.2 b (Z8 (Z5 (ZR e) (I.ok.wQ x c hfn hc)))).trans (I.base.keep b o e n hb hx);obtain⟨sl,e1⟩:=I.base.slot b o e n hb hx;exact⟨sl,(hs.2 b (Z8 (Z5 (ZR e) (I.ok.wQ x c hfn hc)))).trans e1⟩;obtain⟨o',e1⟩:=I.base.there b o e hx;exact⟨o',(hs.2 b (Z8 (Z5 (ZR e) (I.ok.wQ x c hfn hc)))).trans e1⟩;by_cases hj:j=i;subst hj;rw[hi]at e1;cases e1;rw[ZI hiσ]at e2;cases e2;exact⟨u,r,.inr ⟨.inl hk,c,hc,hc'⟩⟩;rw[ZJ (Ne.symm hj)]at e2;obtain⟨u',r',q⟩:=hl j y v' e1 e2 e3;refine⟨u',r',?_⟩;rcases q with q|⟨k,c',e,z'⟩
 exact .inl q;refine .inr ⟨k,c',e,z'.sameBut hs ?_⟩;rintro rfl;exact hj (JB hN e1 (I.ok.inj _ _ _ e hc ▸ hi));by_cases hcc:c'=c;subst hcc;exact⟨_,hc'⟩;obtain⟨w2,z2⟩:=I.cell y c' e;exact⟨w2,z2.sameBut hs hcc⟩;obtain⟨e,n,ne,nf,d⟩:=I.pin p hp;refine⟨(hs.2 p.1 ?_).trans e,n,ne,nf,d⟩;intro q;rw[q,hoc]at e;have q':oc=p.2:=ZN e;exact d w' (by rw[<- q'];exact JC)
def CG{M:Model}{A:Around}{E:Value->Shared->Prop}{i:Nat}{x:Str}{v:V}{u:Value}{Q:Unit->Shared->Prop}(I:Inv X pins σ H s)(hN:X.N.Nodup)(hi:X.N[i]?=some x)(hx:Loc X.env.scope x)(r:RelV v u)
  (h:∀s',Inv X pins (σ.set i (some v)) H s'->Q () s') (hf:X.fn x=true\/X.env.scope.names.lookup x=some .local:=by first|exact .inl rfl|exact .inr rfl|assumption):wpAny M A (storeName X.env x u) Q E s :=
 Mx I hN hi hx r (λs' I' _=>h s' I') hf
def Inv.rg{s':Shared}{ch:List Addr}(I:Inv X pins σ H s)(ho:s'.os=s.os)(u:Un (frs X.stack) ch H H' s.heap s'.heap)(hok:jN X.prog X.w H' s'.heap)(hg:AllBare s'.gens)
  (hch:∀b∈ch,(b∈X.ex\/X.s₀.heap.objs.size<=b)/\b≠X.env.locals/\(∀x c,X.env.cells.lookup x=some c->c≠b)/\∀p∈X.pn ++ pins,p.1≠b):Inv X pins σ H' s':=by
 obtain⟨h',g',d',t',o'⟩:=s';have e:o'=s.os:=ho;subst e;exact I.call (g':=g') (t':=t') (d':=d') u hok hg hch
end
@[reducible]def XK:=Value->Option Addr->Hp->Prop
@[reducible]def St:=List (Option V)
@[reducible]def VK:=V->Hp->Prop
@[reducible]def TE:=St->Hp->VK->Prop
@[reducible]def TT:=St->Hp->(Bool->Hp->Prop)->Prop
@[reducible]def TA:=St->Hp->(List V->Hp->Prop)->Prop
set_option genInjectivity false in
structure Ends where
 nx:St->Hp->Prop
 rt:VK
 bk:St->Hp->Prop:=λ_ _=>False
 ct:St->Hp->Prop:=λ_ _=>False
@[reducible]def TS:=Ends->St->Hp->Prop
abbrev EP(X:Cx)(pins:List (Addr×Obj))(σ:St)(Q:VK)(u:Value)(s':Shared):Prop:=∃v H',Inv X pins σ H' s'/\RelV v u/\Q v H'
abbrev TP(X:Cx)(pins:List (Addr×Obj))(σ:St)(Q:Bool->Hp->Prop)(b:Bool)(s':Shared):Prop:=∃H',Inv X pins σ H' s'/\Q b H'
abbrev AP(X:Cx)(pins:List (Addr×Obj))(σ:St)(Q:List V->Hp->Prop)(us:List Value)(s':Shared):Prop:=∃vs H',Inv X pins σ H' s'/\Vals vs us/\Q vs H'
abbrev SP(X:Cx)(pins:List (Addr×Obj))(D:Ends)(f:Flow)(s':Shared):Prop :=
 match f with
 |.next=>∃σ' H',Inv X pins σ' H' s'/\D.nx σ' H'
 |.brk=>∃σ' H',Inv X pins σ' H' s'/\D.bk σ' H'
 |.cont=>∃σ' H',Inv X pins σ' H' s'/\D.ct σ' H'
 |.ret u=>∃v σ' H',Inv X pins σ' H' s'/\RelV v u/\D.rt v H'
abbrev PE(X:Cx)(e:Expr)(t:TE):Prop :=
 ∀(pins:List (Addr×Obj)) (s:Shared) (σ:St) (H:Hp) (Q:VK),Inv X pins σ H s->t σ H Q->wpAny (model X.prog X.w) X.A (eval e X.env) (EP X pins σ Q) X.xe s
abbrev PT(X:Cx)(e:Expr)(t:TT):Prop :=
 ∀(pins:List (Addr×Obj)) (s:Shared) (σ:St) (H:Hp) (Q:Bool->Hp->Prop),Inv X pins σ H s->t σ H Q->wpAny (model X.prog X.w) X.A (isTrue e X.env (eval e X.env)) (TP X pins σ Q) X.xe s
abbrev PW(X:Cx)(e:Expr)(t:TT):Prop :=
 ∀(whole:Sem Value) (pins:List (Addr×Obj)) (s:Shared) (σ:St) (H:Hp) (Q:Bool->Hp->Prop),Inv X pins σ H s->t σ H Q->wpAny (model X.prog X.w) X.A (isTrue e X.env whole) (TP X pins σ Q) X.xe s
def PW.pt{X:Cx}{e:Expr}{t:TT}(h:PW X e t):PT X e t:=h _
abbrev PA(X:Cx)(es:List Expr)(t:TA):Prop :=
 ∀(pos:Pos) (pins:List (Addr×Obj)) (s:Shared) (σ:St) (H:Hp) (Q:List V->Hp->Prop),Inv X pins σ H s->t σ H Q->wpAny (model X.prog X.w) X.A (spliced (backTo pos (starEach es X.env))) (AP X pins σ Q) X.xe s
abbrev PS(X:Cx)(st:Stmt)(t:TS):Prop :=
 ∀(pins:List (Addr×Obj)) (s:Shared) (σ:St) (H:Hp) (D:Ends),Inv X pins σ H s->t D σ H->wpAny (model X.prog X.w) X.A (exec st X.env) (SP X pins D) X.xe s
abbrev qu(X:Cx)(st:List Stmt)(t:TS):Prop :=
 ∀(pins:List (Addr×Obj)) (s:Shared) (σ:St) (H:Hp) (D:Ends),Inv X pins σ H s->t D σ H->wpAny (model X.prog X.w) X.A (execs st X.env) (SP X pins D) X.xe s
def cf{α:Type}{t:Sem α}{Q Q':α->Shared->Prop}{M:Model}{A:Around}{E:Value->Shared->Prop}{s:Shared}(h:wpAny M A t Q E s)(hQ:∀a s,Q a s->Q' a s):wpAny M A t Q' E s:=wpAny_mono h hQ λ_ _ x=>x
section
variable {X:Cx}
abbrev tu(i:Nat):TE:=λσ H Q=>∃v,σ[i]?=some (some v)/\Q v H
abbrev tC(v:V):TE:=λ_ H Q=>Q v H
def yt{i:Nat}{x:Str}{pos:Pos}(hN:X.N[i]?=some x)(hv:Jy X.env.scope x)(hd:(x == ("__debug__" : Str))=false:=by decide)(hcd:(x == ("__classdict__" : Str))=false:=by decide):PE X (.Name x pos) (tu i):=by
 intro pins s σ H Q I h;obtain⟨v,e,h⟩:=h;obtain⟨m,hn,hl⟩:=I.loc;obtain⟨u,r,l⟩:=hl i x v hN e hv;have fin:EP X pins σ Q u s:=⟨v,H,I,r,h⟩;rcases l with⟨hk,hm⟩|⟨hk,c,hc,hcell⟩
 exact wpAny_Name (wpAny_loadName_local I.ok.kind hk hn hm fin) hd;rcases hk with hk|hk
 exact wpAny_Name (wpAny_loadName_cell I.ok.kind hk hc hcell fin) hd;exact wpAny_Name (wpAny_loadName_free I.ok.kind hk hc hcell fin hcd) hd
def aO{i j pos}:PE X (.Constant (.int i) j pos) (tC (.int i)):=λ_ _ _ H _ I h=>wpAny_Constant_int ⟨.int i,H,I.tok _,⟨_,rfl⟩,h⟩
def sT{b j pos}:PE X (.Constant (.bool b) j pos) (tC (.bl b)):=λ_ _ _ H _ I h=>Constant_bool ⟨.bl b,H,I,rfl,h⟩
def BE{j pos}:PE X (.Constant .none j pos) (tC .non):=λ_ _ _ H _ I h=>Constant_none ⟨.non,H,I,rfl,h⟩
def nY{x j pos}:PE X (.Constant (.str x) j pos) (tC (.str x)):=λ_ _ _ H _ I h=>Calls.Constant_str ⟨.str x,H,I.tok _,⟨_,rfl⟩,h⟩
abbrev Gl(X:Cx)(x:Str):Prop:=X.env.kindOf x=some .globalImplicit
def BF{E:Value->Shared->Prop}{pins:List (Addr×Obj)}{s:Shared}{σ:St}{H:Hp}{x:Str}{u:Value}{pos:Pos}{Q:Value->Shared->Prop}(I:Inv X pins σ H s)(hg:Gl X x)(hm:X.mg x=some u)(h:Q u s)
  (hd:(x == ("__debug__" : Str))=false:=by decide):wpAny (model X.prog X.w) X.A (eval (.Name x pos) X.env) Q E s :=
 Calls.Name_function_global I.ok.kind hg (Calls.loadGlobal_global (by rw[I.ok.glob];exact I.mod.glob.keeps I.bk) hm h) hd
def BG{E:Value->Shared->Prop}{pins:List (Addr×Obj)}{s:Shared}{σ:St}{H:Hp}{x:Str}{u:Value}{pos:Pos}{Q:Value->Shared->Prop}(I:Inv X pins σ H s)(hg:Gl X x)(hm:X.mg x=none)(hv:bootBuiltins x=some u)(h:Q u s)
  (hn:x≠"__name__" := by decide) (hd:(x == ("__debug__" : Str))=false:=by decide):wpAny (model X.prog X.w) X.A (eval (.Name x pos) X.env) Q E s:=by
 obtain⟨mb,h1,h2⟩:=I.mod.blt;exact Calls.Name_function_global I.ok.kind hg (Calls.loadGlobal_builtin (by rw[I.ok.glob];exact I.mod.glob.keeps I.bk) hm (by rw[I.ok.blt];exact h1.keeps I.bk) ((h2 x hn).trans hv) h) hd
def Rt{x:Str}{v:V}{u:Value}{pos:Pos}(hg:Gl X x)(hm:X.mg x=some u)(r:RelV v u)(hd:(x == ("__debug__" : Str))=false:=by decide):PE X (.Name x pos) (tC v) :=
 λ_ _ _ H _ I h=>BF I hg hm ⟨v,H,I,r,h⟩ hd
def yu{x:Str}{v:V}{u:Value}{pos:Pos}(hg:Gl X x)(hm:X.mg x=none)(hv:bootBuiltins x=some u)(r:RelV v u)(hn:x≠"__name__" := by decide)(hd:(x == ("__debug__" : Str))=false:=by decide):PE X (.Name x pos) (tC v) :=
 λ_ _ _ H _ I h=>BG I hg hm hv ⟨v,H,I,r,h⟩ hn hd
variable {a b:Expr}{ta tb:TE}{pos:Pos}
abbrev PC(X:Cx)(op:CmpOp)(a b:Expr)(t:TE):Prop :=
 ∀(pins:List (Addr×Obj)) (s:Shared) (σ:St) (H:Hp) (Q:VK),Inv X pins σ H s->t σ H Q ->
  wpAny (model X.prog X.w) X.A (eval a X.env) (λv s₁=>wpAny (model X.prog X.w) X.A (eval b X.env) (λu s₂=>wpAny (model X.prog X.w) X.A (compareOp op v u) (EP X pins σ Q) X.xe s₂) X.xe s₁) X.xe s
def tw(b:Expr){op:CmpOp}(h:op≠.In)(h2:op≠.NotIn):behindInMarks op b=false:=by
 have e1:(op == CmpOp.In)=false:=by cases op<;>first|rfl|exact absurd rfl h
 have e2:(op == CmpOp.NotIn)=false:=by cases op<;>first|rfl|exact absurd rfl h2
 cases b<;>simp[behindInMarks,e1,e2]
abbrev tB(t:TE):TT:=λσ H Q=>t σ H λx H1=>∃c,x=.bl c/\Q c H1
def yw{op:CmpOp}{t:TE}(h:PC X op a b t)(h1:behindInMarks op b=false:=by first|exact tw _ ∅ ∅|rfl):PT X (.Compare a [op] [b] pos) (tB t):=by intro pins s σ H Q I hw;refine wpAny_isTrue_Compare1 (cf (h pins s σ H _ I hw) λv s1 h1=>cf h1 λu s2 h2=>cf h2 λc s3 ⟨x,H1,I1,r1,q1⟩=>?_) h1;obtain⟨d,rfl,q⟩:=q1;cases r1;exact wpAny_truthy_bool ⟨H1,I1,q⟩
def vB{e:Expr}{t:TE}(h:PE X e t)(he:∀whole,isTrue e X.env whole=(do let v <- whole;standAt e.pos;holding [v] (truthy v)):=by intro _;rfl):PT X e (tB t):=by intro pins s σ H Q I hw;refine isTrue_plain (cf (h pins s σ H _ I hw) λv s1 ⟨x,H1,I1,r1,q1⟩=>?_) (he _);obtain⟨d,rfl,q⟩:=q1;cases r1;exact wpAny_truthy_bool ⟨H1,I1,q⟩
variable {tA GN:TT}{rest:List Expr}
abbrev CH(t u:TT):TT:=λσ H Q=>t σ H λc H1=>if c=true then u σ H1 Q else Q false H1
abbrev Mz(t u:TT):TT:=λσ H Q=>t σ H λc H1=>if c=true then Q true H1 else u σ H1 Q
abbrev CI(t:TT):TT:=λσ H Q=>t σ H λc H1=>Q (!c) H1
def GO(ha:PT X a tA):PW X (.BoolOp .And [a] pos) tA:=by
 intro wh pins s σ H Q I h;refine isTrue_and (cf (ha pins s σ H Q I h) λc s1 e=>?_);cases c with
 |true=>exact isTrue_and_nil e
 |false=>exact e
def CJ(ha:PT X a tA):PW X (.BoolOp .Or [a] pos) tA:=by
 intro wh pins s σ H Q I h;refine isTrue_or (cf (ha pins s σ H Q I h) λc s1 e=>?_);cases c with
 |false=>exact isTrue_or_nil e
 |true=>exact e
def GP(ha:PT X a tA)(hb:PW X (.BoolOp .And (b :: rest) pos) GN):PW X (.BoolOp .And (a :: b :: rest) pos) (CH tA GN):=by
 intro wh pins s σ H Q I h;refine isTrue_and (cf (ha pins s σ H _ I h) λc s1 ⟨H1,I1,q1⟩=>?_);cases c with
 |true=>exact hb wh pins s1 σ H1 Q I1 q1
 |false=>exact⟨H1,I1,q1⟩
def uS(ha:PT X a tA)(hb:PW X (.BoolOp .Or (b :: rest) pos) GN):PW X (.BoolOp .Or (a :: b :: rest) pos) (Mz tA GN):=by
 intro wh pins s σ H Q I h;refine isTrue_or (cf (ha pins s σ H _ I h) λc s1 ⟨H1,I1,q1⟩=>?_);cases c with
 |true=>exact⟨H1,I1,q1⟩
 |false=>exact hb wh pins s1 σ H1 Q I1 q1
def vC(ha:PT X a tA):PT X (.UnaryOp .Not a pos) (CI tA):=by intro pins s σ H Q I h;exact isTrue_not (ha pins s σ H (λc H1=>Q (!c) H1) I h)
abbrev wR(ta tb:TE):TE:=λσ H Q=>ta σ H λx H1=>∃c,x=.bl c/\if c=true then tb σ H1 Q else Q (.bl false) H1
abbrev wU(ta:TE):TE:=λσ H Q=>ta σ H λx H1=>∃c,x=.bl c/\Q (.bl (!c)) H1
def MA{op}{t:TE}(h:PE X a t):PE X (.BoolOp op [a] pos) t:=λpins s σ H Q I hw=>BoolOp_one (h pins s σ H Q I hw)
def yx(ha:PE X a ta)(hb:PE X (.BoolOp .And (b :: rest) pos) tb):PE X (.BoolOp .And (a :: b :: rest) pos) (wR ta tb):=by
 intro pins s σ H Q I h;refine BoolOp_and (cf (ha pins s σ H _ I h) λv s1 ⟨x,H1,I1,r1,q1⟩=>?_);obtain⟨c,rfl,q1⟩:=q1;cases r1;refine wpAny_truthy_bool ?_;cases c with
 |true=>exact hb pins s1 σ H1 Q I1 q1
 |false=>exact⟨.bl false,H1,I1,rfl,q1⟩
def yy(ha:PE X a ta):PE X (.UnaryOp .Not a pos) (wU ta):=by intro pins s σ H Q I h;refine UnaryOp_ (cf (ha pins s σ H _ I h) λv s1 ⟨x,H1,I1,r1,q1⟩=>?_);obtain⟨c,rfl,q1⟩:=q1;cases r1;exact not_of (wpAny_truthy_bool ⟨.bl (!c),H1,I1,rfl,q1⟩)
end
abbrev jM(K:Zfr)(H:Hp)(a:Addr)(xs:List V):Prop :=
 Rd H a (.lst xs) \/
  ∃(o:Obj) (its:Array Value) (n:Nat),K.lookup a=some o/\o.cls=.type "list" /\ o.dict=none/\o.data=.seq its n/\its.size<=sizeLine/\Vals xs its.toList
abbrev d9(K:Zfr)(H:Hp)(a:Addr)(xs:List V):Prop :=
 Rd H a (.tup xs) \/
  ∃(o:Obj) (its:Array Value) (n:Nat),K.lookup a=some o/\o.cls=.type "tuple" /\ o.dict=none/\o.data=.seq its n/\its.size<=sizeLine/\Vals xs its.toList
abbrev JD:Value->Option V
 |.none=>some .non
 |.bool b=>some (.bl b)
 |.int i _=>some (.int i)
 |.str x _=>some (.str x)
 |.bytes b _=>some (.sR b)
 |.float b _=>some (.pN b)
 |.ref a=>some (.ref a)
 |.type n=>some (.ty n)
 |_=>none
def RelV.abs{x:V}{u:Value}(r:RelV x u):JD u=some x:=by
 cases x with
 |non=>cases r;rfl
 |bl _=>cases r;rfl
 |int _=>obtain⟨t,rfl⟩:=r;rfl
 |str _=>obtain⟨t,rfl⟩:=r;rfl
 |sR _=>obtain⟨t,rfl⟩:=r;rfl
 |pN _=>obtain⟨t,rfl⟩:=r;rfl
 |ref _=>cases r;rfl
 |ty _=>cases r;rfl
def RelV.inj{x y:V}{u:Value}(r:RelV x u)(q:RelV y u):x=y:=ZN (r.abs.symm.trans q.abs)
def Vals.inj:∀{xs ys:List V} {us:List Value},Vals xs us->Vals ys us->xs=ys
 |_,_,_,.nil,.nil=>rfl
 |_,_,_,.cons r t,.cons r' t'=>by rw[r.inj r',Vals.inj t t']
section
variable {X:Cx}{pins:List (Addr×Obj)}{σ:St}{H:Hp}{s:Shared}{a:Addr}{xs ys:List V}
def d9.of{K:Zfr}(h:H a=some (.tup xs)):d9 K H a xs:=.inl (.inl h)
def Inv.list(I:Inv X pins σ H s)(h:jM X.K H a xs):∃its:List Value,Vals xs its/\PlainL s.heap a its.toArray/\xs.length<=sizeLine:=by
 rcases h with h|⟨o,its,n,hk,hc,hd,hs,hz,r⟩
 obtain⟨z,its,n,r,e⟩:=h.ok I.hok;exact⟨its,r,⟨_,n,e,rfl,rfl,rfl⟩,z⟩;refine⟨its.toList,r,⟨o,n,I.oH a o hk,hc,hd,by simpa using hs⟩,?_⟩;have e:=r.length;simp only[ZaC]at e;lk
def Inv.oK(I:Inv X pins σ H s)(h:d9 X.K H a xs):∃its:List Value,Vals xs its/\oB s.heap a its.toArray/\xs.length<=sizeLine:=by
 rcases h with h|⟨o,its,n,hk,hc,hd0,hs,hz,r⟩
 obtain⟨z,its,r,p⟩:=h.ok I.hok;exact⟨its,r,p,z⟩;refine⟨its.toList,r,⟨o,I.oH a o hk,hc,hd0,n,by simpa using hs⟩,?_⟩;have e:=r.length;simp only[ZaC]at e;lk
def Inv.tuple(I:Inv X pins σ H s)(h:d9 X.K H a xs):∃its:List Value,Vals xs its/\IsTup s.heap a its.toArray/\xs.length<=sizeLine :=
 let ⟨its,r,p,z⟩:=I.oK h
 ⟨its,r,p.tup,z⟩
def Inv.tG(I:Inv X pins σ H s)(h:jM X.K H a xs)(h':jM X.K H a ys):xs=ys:=by
 obtain⟨its,r,⟨o,n,e,_,_,d⟩,_⟩:=I.list h;obtain⟨its',r',⟨o',n',e',_,_,d'⟩,_⟩:=I.list h';rw[e]at e';cases e';rw[d]at d';injection d' with d1 _;have:its=its':=by simpa using congrArg Array.toList d1
 subst this;exact r.inj r'
def Inv.nZ(I:Inv X pins σ H s)(h:d9 X.K H a xs)(h':d9 X.K H a ys):xs=ys:=by
 obtain⟨its,r,⟨o,e,_,n,d⟩,_⟩:=I.tuple h;obtain⟨its',r',⟨o',e',_,n',d'⟩,_⟩:=I.tuple h';rw[e]at e';cases e';rw[d]at d';injection d' with d1 _;have:its=its':=by simpa using congrArg Array.toList d1
 subst this;exact r.inj r'
end
@[reducible]def Cx.wish(X:Cx)(E:Value->Shared->Prop):Cx:={ X with xe:=E }
@[reducible]def Cx.oM(X:Cx):Cx:=X.wish λ_ _=>False
def Cx.Ok.wish{X:Cx}(ok:X.Ok)(E:Value->Shared->Prop):(X.wish E).Ok :=
 ⟨ok.mod,ok.kind,ok.glob,ok.blt,ok.above,ok.inj,ok.has,ok.wQ,ok.hd,ok.frames,ok.stk,ok.CB,ok.bs,ok.sS,ok.pO,ok.qB,ok.kQ,ok.uR⟩
def Cx.Ok.jP{X:Cx}{E:Value->Shared->Prop}(ok:(X.wish E).Ok):X.Ok :=
 ⟨ok.mod,ok.kind,ok.glob,ok.blt,ok.above,ok.inj,ok.has,ok.wQ,ok.hd,ok.frames,ok.stk,ok.CB,ok.bs,ok.sS,ok.pO,ok.qB,ok.kQ,ok.uR⟩
section
variable {X:Cx}{pins:List (Addr×Obj)}{σ:St}{H:Hp}{s:Shared}{E:Value->Shared->Prop}
def Inv.wish(I:Inv X pins σ H s)(E:Value->Shared->Prop):Inv (X.wish E) pins σ H s:=⟨I.ok.wish E,I.os,I.bare,I.base,I.loc,I.cell,I.free,I.fX,I.pin,I.hok,I.len⟩
def Inv.jP(I:Inv (X.wish E) pins σ H s):Inv X pins σ H s:=⟨I.ok.jP,I.os,I.bare,I.base,I.loc,I.cell,I.free,I.fX,I.pin,I.hok,I.len⟩
def SP.jP{D:Ends}{f:Flow}{s':Shared}(h:SP (X.wish E) pins D f s'):SP X pins D f s':=by
 cases f with
 |next=>obtain⟨σ',H',I,q⟩:=h;exact⟨σ',H',I.jP,q⟩
 |brk=>obtain⟨σ',H',I,q⟩:=h;exact⟨σ',H',I.jP,q⟩
 |cont=>obtain⟨σ',H',I,q⟩:=h;exact⟨σ',H',I.jP,q⟩
 |ret u=>obtain⟨v,σ',H',I,r,q⟩:=h;exact⟨v,σ',H',I.jP,r,q⟩
def qu.oM{st:List Stmt}{t:TS}(h:qu X.oM st t):qu X st t:=λpins s σ H D I hw =>
 wpAny_mono (h pins s σ H D (I.wish _) hw) (λ_ _ q=>q.jP) λ_ _ z=>False.elim z
end
section
variable {X:Cx}{st:Stmt}{rest:List Stmt}{t u:TS}{e:Expr}{te:TE}{pos:Pos}
abbrev wV:TS:=λD σ H=>D.nx σ H
abbrev yz(t u:TS):TS:=λD σ H=>t { D with nx:=u D } σ H
def iT:qu X [] wV:=λ_ _ σ H _ I h=>wpAny_execs_nil ⟨σ,H,I,h⟩
def Rv(h1:PS X st t)(h2:qu X rest u):qu X (st :: rest) (yz t u):=by
 intro pins s σ H D I h;refine wpAny_execs_cons (cf (h1 pins s σ H { D with nx:=u D } I h) λf s1 q=>?_);cases f with
 |next =>
  obtain⟨σ',H',I',q⟩:=q;exact h2 pins s1 σ' H' D I' q
 |ret v=>exact q
 |brk=>exact q
 |cont=>exact q
def MB(h1:PS X st t):qu X [st] t:=by
 intro pins s σ H D I h;refine wpAny_execs_cons (cf (h1 pins s σ H D I h) λf s1 q=>?_);cases f with
 |next=>exact wpAny_execs_nil q
 |ret v=>exact q
 |brk=>exact q
 |cont=>exact q
def Inv.quiet{pins:List (Addr×Obj)}{σ:St}{H:Hp}{s:Shared}(I:Inv X pins σ H s):interactive X.env=false:=by simp[interactive,I.ok.kind]
abbrev wW(te:TE):TS:=λD σ H=>te σ H λ_ H1=>D.nx σ H1
def pB(he:PE X e te)(hs:swapsWith e none pos.line X.env=pure false:=by rfl):PS X (.Expr e pos) (wW te):=by intro pins s σ H D I h;exact wpAny_Expr_any (cf (he pins s σ H _ I h) λv s1 ⟨x,H1,I1,r1,q1⟩=>⟨σ,H1,I1,q1⟩) I.quiet hs
abbrev CK(te:TE):TS:=λD σ H=>te σ H D.rt
def dP(he:PE X e te):PS X (.Return (some e) pos) (CK te):=by intro pins s σ H D I h;exact wpAny_Return_some (cf (he pins s σ H _ I h) λv s1 ⟨x,H1,I1,r1,q1⟩=>⟨x,σ,H1,I1,r1,q1⟩)
abbrev vD(c:TT)(t u:TS):TS:=λD σ H=>c σ H λb H1=>if b=true then t D σ H1 else u D σ H1
def CL{c:Expr}{a b:List Stmt}{tc:TT}(hc:PT X c tc)(ha:qu X a t)(hb:qu X b u):PS X (.If c a b pos) (vD tc t u):=by
 intro pins s σ H D I h;refine wpAny_If (cf (hc pins s σ H _ I h) λd s1 ⟨H1,I1,q1⟩=>?_);cases d with
 |true=>exact ha pins s1 σ H1 D I1 q1
 |false=>exact hb pins s1 σ H1 D I1 q1
end
@[reducible]def TG:=V->St->Hp->(St->Hp->Prop)->Prop
@[reducible]def uT:=List V->St->Hp->(St->Hp->Prop)->Prop
abbrev PG(X:Cx)(target:Expr)(t:TG):Prop :=
 ∀(pins:List (Addr×Obj)) (s:Shared) (σ:St) (H:Hp) (v:V) (u:Value) (Q:St->Hp->Prop),Inv X pins σ H s->RelV v u->t v σ H Q ->
  wpAny (model X.prog X.w) X.A (assign target X.env u) (λ_ s'=>∃σ' H',Inv X pins σ' H' s'/\Q σ' H') X.xe s
abbrev GQ(X:Cx)(ts:List Expr)(t:uT):Prop :=
 ∀(pins:List (Addr×Obj)) (s:Shared) (σ:St) (H:Hp) (vs:List V) (us:List Value) (Q:St->Hp->Prop),Inv X pins σ H s->Vals vs us->t vs σ H Q ->
  wpAny (model X.prog X.w) X.A (assignInOrder ((assignEach ts X.env).map (·.2)) us) (λ_ s'=>∃σ' H',Inv X pins σ' H' s'/\Q σ' H') X.xe s
@[reducible]def yA:=V->V->V->Hp->(Hp->Prop)->Prop
abbrev CM(X:Cx)(t:yA):Prop :=
 ∀(pins:List (Addr×Obj)) (s:Shared) (σ:St) (H:Hp) (o i v:V) (ov iv u:Value) (Q:Hp->Prop),Inv X pins σ H s->RelV o ov->RelV i iv->RelV v u->t o i v H Q ->
  wpAny (model X.prog X.w) X.A (setItem ov iv u) (λ_ s'=>∃H',Inv X pins σ H' s'/\Q H') X.xe s
section
variable {X:Cx}{pos:Pos}
abbrev ml(i:Nat):TG:=λv σ H Q=>Q (σ.set i (some v)) H
def dX{i:Nat}{x:Str}(hN:X.N.Nodup)(hi:X.N[i]?=some x)(hx:Loc X.env.scope x)(hf:X.fn x=true\/X.env.scope.names.lookup x=some .local:=by first|exact .inl rfl|exact .inr rfl|assumption):PG X (.Name x pos) (ml i):=by intro pins s σ H v u Q I r h;exact wpAny_assign_Name (CG I hN hi hx r (λs' I'=>⟨_,H,I',h⟩) hf)
abbrev CN:uT:=λvs σ H Q=>vs=[]/\Q σ H
abbrev wX(t:TG)(u:uT):uT:=λvs σ H Q=>∃v r,vs=v :: r/\t v σ H λσ' H'=>u r σ' H' Q
def wY:GQ X [] CN:=by intro pins s σ H vs us Q I r h;obtain⟨e,h⟩:=h;subst e;cases r;exact assignInOrder_nil ⟨σ,H,I,h⟩
def n4{e:Expr}{es:List Expr}{t:TG}{u:uT}(h1:PG X e t)(h2:GQ X es u)
  (hs:(assignEach (e :: es) X.env).map (·.2)=assign e X.env :: (assignEach es X.env).map (·.2):=by rfl):GQ X (e :: es) (wX t u):=by
 intro pins s σ H vs us Q I r h;obtain⟨v,vr,e1,h⟩:=h;subst e1;cases r with
 |cons r rr =>
  rw[hs];refine assignInOrder_cons (cf (h1 pins s σ H _ _ _ I r h) λ_ s1 ⟨σ1,H1,I1,q1⟩=>?_);exact h2 pins s1 σ1 H1 _ _ Q I1 rr q1
abbrev CO(K:Zfr)(n:Nat)(t:uT):TG:=λv σ H Q=>∃a xs,v=.ref a/\d9 K H a xs/\xs.length=n/\t xs σ H Q
def wZ{es:List Expr}{k:Nat}{t:uT}{n:Nat}(hc:X.calm=true)(h:GQ X es t)
  (hn:(assignEach es X.env).length=n:=by rfl) (hst:(assignEach es X.env).findIdx? (·.1)=none:=by rfl):PG X (.Tuple es k pos) (CO X.K n t):=by
 intro pins s σ H v u Q I r hw;obtain⟨a,xs,e1,hq,hl,hw⟩:=hw;subst e1;cases r;obtain⟨its,rv,ht,hz⟩:=I.tuple hq;refine assign_Tuple_tuple (I.ok.hd hc) ht (by simp[hn,<- hl,rv.length]) hst λh' hx=>?_;have I1:Inv X pins σ H { s with heap:=h' }:=I.kept (t':=s.toks) λb o e=>hx b o (Z8 (ZR e)) e;exact h pins _ σ H xs _ Q I1 (by simpa using rv) hw
abbrev mz(to ti:TE)(t:yA):TG:=λv σ H Q=>to σ H λo H1=>ti σ H1 λi H2=>t o i v H2 λH3=>Q σ H3
def BH{o i:Expr}{to ti:TE}{t:yA}(ho:PE X o to)(hi:PE X i ti)(hs:CM X t)
  (ha:∀v,assign (.Subscript o i pos) X.env v=(do
   let ov <- holding [v] (eval o X.env)
   let iv <- holding [v,ov] (eval i X.env)
   standAt pos
   holding [v,ov,iv] (setItem ov iv v)
   release [v,ov,iv] []):=by intro _;rfl):PG X (.Subscript o i pos) (mz to ti t):=by
 intro pins s σ H v u Q I r h;rw[ha];refine wpAny_bind (wpAny_holding (cf (ho pins s σ H _ I h) λov s1 ⟨x,H1,I1,r1,q1⟩=>?_));refine wpAny_bind (wpAny_holding (cf (hi pins s1 σ H1 _ I1 q1) λiv s2 ⟨y,H2,I2,r2,q2⟩=>?_));refine wpAny_bind (wpAny_standAt (wpAny_bind (wpAny_holding (cf (hs pins s2 σ H2 x y v ov iv u _ I2 r1 r2 r q2) λ_ s3 ⟨H3,I3,q3⟩=>?_))));exact wpAny_release ⟨σ,H3,I3,q3⟩
abbrev qC(te:TE)(g:TG):TS:=λD σ H=>te σ H λx H1=>g x σ H1 D.nx
def w6{tg e:Expr}{te:TE}{g:TG}(he:PE X e te)(hg:PG X tg g)(hs:swapsWithSole [tg] e pos.line X.env=pure false:=by rfl)(hw:swappedStores [tg] e X.env=pure none:=by rfl)
  (h1:(assignEach [tg] X.env).map (·.2)=[assign tg X.env]:=by rfl):PS X (.Assign [tg] e pos) (qC te g):=by
 intro pins s σ H D I h;refine wpAny_Assign_stores (cf (he pins s σ H _ I h) λv s1 ⟨x,H1,I1,r1,q1⟩=>?_) hs hw;rw[h1];exact cf (hg pins s1 σ H1 x v _ I1 r1 q1) λ_ s2 q=>q
def yB{i:Nat}{x:Str}{e:Expr}{te:TE}{pos':Pos}(hN:X.N.Nodup)(hi:X.N[i]?=some x)(hx:Loc X.env.scope x)(he:PE X e te)(hs:swapsWith e (some (.Name x pos')) pos.line X.env=pure false:=by rfl)(hf:X.fn x=true\/X.env.scope.names.lookup x=some .local:=by first | exact .inl rfl | exact .inr rfl | assumption):
  PS X (.Assign [.Name x pos'] e pos) (qC te (ml i)):=by
 intro pins s σ H D I h;refine wpAny_Assign_Name (cf (he pins s σ H _ I h) λv s1 ⟨y,H1,I1,r1,q1⟩=>?_) hs;exact CG I1 hN hi hx r1 (λs2 I2=>⟨_,H1,I2,q1⟩) hf
abbrev CP(i j:Nat)(ta:TA):TS:=λD σ H=>ta σ H λvs H1=>∃v w,vs=[v,w]/\D.nx ((σ.set i (some v)).set j (some w)) H1
def MC{i j:Nat}{x y:Str}{a b:Expr}{ta:TA}{px py pt:Pos}{kt k2 JE}(hc:X.calm=true)(hN:X.N.Nodup)(hi:X.N[i]?=some x)(hj:X.N[j]?=some y)(hij:i≠j)
  (hx:X.env.scope.names.lookup x=some .local) (hy:X.env.scope.names.lookup y=some .local) (ha:PA X [a,b] ta)
  (hw:swappedStores [.Tuple [.Name x px,.Name y py] kt pt] (.Tuple [a,b] k2 JE) X.env=pure (some [x,y]))
  (hs:swapsWithSole [.Tuple [.Name x px,.Name y py] kt pt] (.Tuple [a,b] k2 JE) pos.line X.env=pure false:=by rfl) :
  PS X (.Assign [.Tuple [.Name x px,.Name y py] kt pt] (.Tuple [a,b] k2 JE) pos) (CP i j ta):=by
 intro pins s σ H D I h;rw[exec_Assign_arm];refine wpAny_bind (wpAny_standAt ?_);rw[hs];refine wpAny_bind (wpAny_pure ?_);rw[if_neg ∅];refine wpAny_bind (Tuple_ (cf (ha _ pins s σ H _ I h) λus s1 ⟨vs,H1,I1,r1,q1⟩=>?_));obtain⟨v,w,e1,q1⟩:=q1;subst e1;obtain⟨u1,u2,rfl,rv,rw'⟩:∃u1 u2,us=[u1,u2]/\RelV v u1/\RelV w u2:=by
  cases r1 with
  |cons p q =>
   cases q with
   |cons p' q' =>
    cases q';exact⟨_,_,rfl,p,p'⟩
 refine wpAny_newObj_type ?_ (by show 2<=sizeLine;decide);have I2:Inv X pins σ H1 { s1 with heap:=s1.heap.push { cls:=.type "tuple",data:=.seq [u1,u2].toArray } }:=I1.kept (t':=s1.toks) λb o e=>ZD _ e;rw[hw];refine wpAny_bind (wpAny_pure ?_);show wpAny (model X.prog X.w) X.A (do rule "assign.swapped-stores";let items <- unpackItems (.ref s1.heap.objs.size) 2 none;assignInOrder [λv=>bindName X.env y v,λv=>bindName X.env x v] items.reverse;pure Flow.next) _ _ _;refine wpAny_bind (wpAny_rule (wpAny_bind (unpackItems_tuple (items:=#[u1,u2]) (I.ok.hd hc) (IsTup.new s1.heap _) λh' hx'=>?_)));have I3:=I2.kept (h':=h') (t':=s1.toks) λb o e=>hx' b o (Z8 (ZR e)) e;show wpAny _ _ (assignInOrder [λv=>bindName X.env y v,λv=>bindName X.env x v] [u2,u1] >>= λ_=>pure Flow.next) _ _ _;refine wpAny_bind (assignInOrder_cons (wpAny_bindName (CG I3 hN hj (.inl hy) rw' (λs2 I4=>?_) (.inr hy))));refine assignInOrder_cons (wpAny_bindName (CG I4 hN hi (.inl hx) rv (λs3 I5=>assignInOrder_nil (wpAny_pure ?_)) (.inr hx)));rw[List.set_comm _ _ (Ne.symm hij)]at I5;exact⟨_,H1,I5,q1⟩
end
section
variable {X:Cx}{pos:Pos}
abbrev qD(c:TT)(tb:TS):TS:=λD σ H=>∃W:Nat->St->Hp->Prop,(∃m,W m σ H)/\∀m σ H,W m σ H ->
 c σ H λb H1=>if b=true then∃N:St->Hp->Prop,(∀σ' H',N σ' H'->∃m',m' < m/\W m' σ' H')/\tb { D with nx:=N,ct:=N,bk:=D.nx } σ H1 else D.nx σ H1
def BJ{c:Expr}{body:List Stmt}{tc:TT}{tb:TS}(hp:PassesOwn (model X.prog X.w) X.A X.env X.xe)(hc:PT X c tc)(hb:qu X body tb):PS X (.While c body [] pos) (qD tc tb):=by
 intro pins s σ H D I h;obtain⟨W,⟨m0,w0⟩,turn⟩:=h;refine wpAny_While (codeAny_whileLoop (λn s'=>∃σ' H',Inv X pins σ' H' s'/\W n σ' H') ?_ m0 ⟨σ,H,I,w0⟩);rintro n s1 ⟨σ1,H1,I1,w1⟩;refine wpAny_passesOwn hp (cf (hc pins s1 σ1 H1 _ I1 (turn n σ1 H1 w1)) λb s2 ⟨H2,I2,q2⟩=>?_);cases b with
 |true =>
  obtain⟨N,hN,q2⟩:=q2;rw[if_pos rfl];refine wpAny_passesOwn hp (cf (hb pins s2 σ1 H2 _ I2 q2) λf s3 q3=>?_);cases f with
  |next =>
   obtain⟨σ3,H3,I3,n3⟩:=q3;obtain⟨m',hm,w3⟩:=hN σ3 H3 n3;exact⟨m',hm,σ3,H3,I3,w3⟩
  |cont =>
   obtain⟨σ3,H3,I3,n3⟩:=q3;obtain⟨m',hm,w3⟩:=hN σ3 H3 n3;exact⟨m',hm,σ3,H3,I3,w3⟩
  |brk=>exact q3
  |ret v=>exact q3
 |false =>
  rw[if_neg ZC];exact wpAny_execs_nil ⟨σ1,H2,I2,q2⟩
end
set_option genInjectivity false in
structure It where
 go:Nat->Hp->Prop
 vE:Nat->Hp->V->Hp->Prop
 stop:Nat->Hp->Prop
abbrev lV(X:Cx)(pins:List (Addr×Obj))(H:Hp)(b:Addr):Prop :=
 H b=none/\b≠X.env.locals/\b ∉ X.fs/\(b∈X.ex\/X.s₀.heap.objs.size<=b)/\(∀x c,X.env.cells.lookup x=some c->c≠b)/\∀p∈X.pn ++ pins,p.1≠b
def Inv.sf{X:Cx}{pins:List (Addr×Obj)}{σ:St}{H H':Hp}{s:Shared}{b:Addr}(I:Inv X pins σ H s)(hb:s.heap.objs.size<=b)(hn:H' b=none):lV X pins H' b:=by refine⟨hn,Zbu (Z5 I.lt hb),I.CC hb,.inr (Z3 I.sz hb),λx c e z=>?_,λp hp z=>?_⟩;obtain⟨v,q⟩:=I.cell x c e;exact absurd (Z5 q.lt (by rw[z];exact hb)) (Za5 _);exact absurd (Z5 (ZR (I.pin p hp).1) (by rw[z];exact hb)) (Za5 _)
structure Turn(P:Program)(w:World)(K:Zfr)(tg:Expr)(J:It)(fp:List Addr)(it:Addr)(tn:Nat->Heap->Prop):Prop where
 mem:it∈fp
 obj:∀i h,tn i h->∀b∈fp,∃o,h.get? b=some o/\∀v,o.data≠.cell v
 keep:∀i h h',tn i h->(∀b∈fp,∀o,h.get? b=some o->h'.get? b=some o)->tn i h'
 item:∀(X:Cx),X.prog=P->X.w=w->X.K=K->X.calm=true->∀(i:Nat) (pins:List (Addr×Obj)) (s:Shared) (σ:St) (H:Hp) (E:Value->Shared->Prop),Inv X pins σ H s->(∀b∈fp,lV X pins H b)->tn i s.heap->J.go i H ->
  wpAny (model P w) X.A (pyNext (.ref it)) (λr s1=>∃u,r=some u /\
   wpAny (model P w) X.A (letOwnedTupleGo tg (.ref it) u) (λ_ s2=>∃x H',Inv X pins σ H' s2/\RelV x u/\J.vE i H x H'/\tn (i+1) s2.heap/\∀b∈fp,H' b=none) E s1) E s
 done:∀(X:Cx),X.prog=P->X.w=w->X.K=K->X.calm=true->∀(i:Nat) (pins:List (Addr×Obj)) (s:Shared) (σ:St) (H:Hp) (E:Value->Shared->Prop),Inv X pins σ H s->(∀b∈fp,lV X pins H b)->tn i s.heap->J.stop i H ->
  wpAny (model P w) X.A (pyNext (.ref it)) (λr s1=>r=none/\Inv X pins σ H s1) E s
 self:∀(A:Around) (i:Nat) (s:Shared) (Q:Value->Shared->Prop) (E:Value->Shared->Prop),tn i s.heap->Q (.ref it) s->wpAny (model P w) A (pyIter (.ref it)) Q E s
@[reducible]def TI:=St->Hp->(It->Hp->Prop)->Prop
abbrev MD(X:Cx)(pins:List (Addr×Obj))(σ:St)(tg:Expr)(R:It->Hp->Prop)(itv:Value)(s2:Shared):Prop :=
 ∃(it:Addr) (fp:List Addr) (tn:Nat->Heap->Prop) (J:It) (H':Hp),itv=.ref it/\Inv X pins σ H' s2/\Turn X.prog X.w X.K tg J fp it tn/\tn 0 s2.heap/\(∀b∈fp,lV X pins H' b)/\R J H'
abbrev PI(X:Cx)(tg iter:Expr)(wi:TI):Prop :=
 ∀(pins:List (Addr×Obj)) (s:Shared) (σ:St) (H:Hp) (R:It->Hp->Prop),Inv X pins σ H s->wi σ H R ->
  wpAny (model X.prog X.w) X.A (eval iter X.env) (λv s1=>wpAny (model X.prog X.w) X.A (pyIter v) (MD X pins σ tg R) X.xe s1) X.xe s
def JF{M:Model}{A:Around}{E:Value->Shared->Prop}{s:Shared}{tg:Expr}{it:Addr}{u:Value}{o:Obj}{n:String}{vs:Array Value}{Q:Unit->Shared->Prop}(ho:s.heap.get? it=some o)(hc:o.cls=.type n)(hd:o.data=.fields vs)
  (hn:["enumerate","zip","dict_itemiterator","dict_reverseitemiterator","odict_iterator","itertools.zip_longest","itertools.pairwise"].contains n=false) (hQ:Q () s):wpAny M A (letOwnedTupleGo tg (.ref it) u) Q E s:=by
 unfold letOwnedTupleGo;cases tg<;>first
  |exact wpAny_pure hQ
  | (cases u <;> first
    |exact wpAny_pure hQ
    | (refine wpAny_bind (wpAny_load ho ?_)
       rw[hc,hd];show wpAny M A (if(["enumerate","zip","dict_itemiterator","dict_reverseitemiterator","odict_iterator","itertools.zip_longest","itertools.pairwise"].contains n && vs[0]? == some (rawInt _))=true then _ else _) Q E s;rw[if_neg (by intro h;rw[hn,Bool.false_and]at h;cases h)]
       exact wpAny_pure hQ))
abbrev ME(K:Zfr)(a:Addr):It :=
 ⟨λi H=>∃xs x,jM K H a xs/\xs[i]?=some x,λi H x H'=>H'=H/\∀xs,jM K H a xs->xs[i]?=some x,λi H=>∃xs,jM K H a xs/\xs.length<=i⟩
abbrev MF(K:Zfr)(a:Addr):It :=
 ⟨λi H=>∃xs x,d9 K H a xs/\xs[i]?=some x,λi H x H'=>H'=H/\∀xs,d9 K H a xs->xs[i]?=some x,λi H=>∃xs,d9 K H a xs/\xs.length<=i⟩
abbrev CQ(lo:Int)(n:Nat):It:=⟨λi _=>i<n,λi H x H'=>H'=H/\x=.int (lo+i),λi _=>n<=i⟩
def Rw{P:Program}{w:World}{K:Zfr}{tg:Expr}(a it:Addr):Turn P w K tg (ME K a) [it] it (λi h=>h.IsListIter it a i) where
 mem:=by simp
 obj:=λi h st b hb=>by
  have e:b=it:=by simpa using hb
  subst e;obtain⟨o,e,c,d⟩:=st;exact⟨o,e,λv z=>by rw[d]at z;cases z⟩
 keep:=λi h h' st k=>st.at λo e=>k it (by simp) o e
 item:=by
  intro X hP hw hK hc i pins s σ H E I hf st hg;subst hP hw hK;obtain⟨xs,x,hq,hx⟩:=hg;obtain⟨its,rv,p,hz⟩:=I.list hq;obtain⟨u,hu,ru⟩:=rv.get hx;obtain⟨f0,f1,f2,f3,f4,f5⟩:=hf it (by simp);refine wpAny_pyNext_list_item st p.isList (x:=u) (by simpa using hu) λh' st' sb=>?_;have I1:Inv X pins σ H { s with heap:=h' }:=I.turned (t':=s.toks) (λb o hb e=>(sb.2 b hb).trans e) f0 f1 f3 f4 f5;obtain⟨o,e,c,d⟩:=id st';exact⟨u,rfl,JF (s:={ s with heap:=h' }) e c d ∅ ⟨x,H,I1,ru,⟨rfl,λys hy=>by rw[I.tG hy hq];exact hx⟩,st',λb hb=>(hf b hb).1⟩⟩
 done:=by
  intro X hP hw hK hc i pins s σ H E I hf st hg;subst hP hw hK;obtain⟨xs,hq,hx⟩:=hg;obtain⟨its,rv,p,hz⟩:=I.list hq;obtain⟨f0,f1,f2,f3,f4,f5⟩:=hf it (by simp);have hl:=rv.length;exact wpAny_pyNext_list_end (I.ok.hd hc) st p.isList (by simp;lk) λh' eb=>⟨rfl,I.turned (t':=s.toks) (λb o hb e=>eb b o hb e) f0 f1 f3 f4 f5⟩
 self:=λ_ _ _ _ _ st h=>wpAny_pyIter_listiter st h
def Rx{P:Program}{w:World}{K:Zfr}{tg:Expr}(a it:Addr):Turn P w K tg (MF K a) [it] it (λi h=>h.IsTupleIter it a i) where
 mem:=by simp
 obj:=λi h st b hb=>by
  have e:b=it:=by simpa using hb
  subst e;obtain⟨o,e,c,d⟩:=st;exact⟨o,e,λv z=>by rw[d]at z;cases z⟩
 keep:=λi h h' st k=>st.at λo e=>k it (by simp) o e
 item:=by
  intro X hP hw hK hc i pins s σ H E I hf st hg;subst hP hw hK;obtain⟨xs,x,hq,hx⟩:=hg;obtain⟨its,rv,p,hz⟩:=I.tuple hq;obtain⟨u,hu,ru⟩:=rv.get hx;obtain⟨f0,f1,f2,f3,f4,f5⟩:=hf it (by simp);refine wpAny_pyNext_tuple_item st (show s.heap.IsTuple a its.toArray from p) (x:=u) (by simpa using hu) λh' st' sb=>?_;have I1:Inv X pins σ H { s with heap:=h' }:=I.turned (t':=s.toks) (λb o hb e=>(sb.2 b hb).trans e) f0 f1 f3 f4 f5;obtain⟨o,e,c,d⟩:=id st';exact⟨u,rfl,JF (s:={ s with heap:=h' }) e c d ∅ ⟨x,H,I1,ru,⟨rfl,λys hy=>by rw[I.nZ hy hq];exact hx⟩,st',λb hb=>(hf b hb).1⟩⟩
 done:=by
  intro X hP hw hK hc i pins s σ H E I hf st hg;subst hP hw hK;obtain⟨xs,hq,hx⟩:=hg;obtain⟨its,rv,p,hz⟩:=I.tuple hq;obtain⟨f0,f1,f2,f3,f4,f5⟩:=hf it (by simp);have hl:=rv.length;exact wpAny_pyNext_tuple_end (I.ok.hd hc) st (show s.heap.IsTuple a its.toArray from p) (by simp;lk) λh' eb=>⟨rfl,I.turned (t':=s.toks) (λb o hb e=>eb b o hb e) f0 f1 f3 f4 f5⟩
 self:=λ_ _ _ _ _ st h=>wpAny_pyIter_tupleiter st h
def Ry{P:Program}{w:World}{K:Zfr}{tg:Expr}(it:Addr)(lo:Int)(n:Nat):Turn P w K tg (CQ lo n) [it] it (λi h=>IsRangeIter h it (lo+(i:Nat)*1) ((n:Int)-(i:Nat)) 1) where
 mem:=by simp
 obj:=λi h st b hb=>by
  have e:b=it:=by simpa using hb
  subst e
  exact⟨_,st,λv z=>by
   have z':Data.fields _=Data.cell v:=z
   cases z'⟩
 keep:=λi h h' st k=>k it (by simp) _ st
 item:=by
  intro X hP hw hK hc i pins s σ H E I hf st hg;subst hP hw hK;obtain⟨f0,f1,f2,f3,f4,f5⟩:=hf it (by simp);have W:=Walks.range (prog:=X.prog) (w:=X.w) (I.ok.hd hc) it lo 1 n;refine W.item i s _ _ hg st λv h' tk hv st' kk=>?_;obtain⟨t,rfl⟩:=hv;have I1:Inv X pins σ H { s with heap:=h',toks:=tk }:=I.turned (λb o hb e=>kk b o (by simpa using hb) e) f0 f1 f3 f4 f5;refine⟨_,rfl,JF (s:={ s with heap:=h',toks:=tk }) (n:="range_iterator") st' rfl rfl ∅ ⟨.int (lo+i),H,I1,⟨t,?_⟩,⟨rfl,rfl⟩,st',λb hb=>(hf b hb).1⟩⟩;rw[Int.mul_one]
 done:=by
  intro X hP hw hK hc i pins s σ H E I hf st hg;subst hP hw hK;obtain⟨f0,f1,f2,f3,f4,f5⟩:=hf it (by simp);exact wpAny_pyNext_range_end (I.ok.hd hc) st (by have:n<=i:=hg;lk) λh' eb=>⟨rfl,I.turned (t':=s.toks) (λb o hb e=>eb b o hb e) f0 f1 f3 f4 f5⟩
 self:=λ_ _ _ _ _ st h=>wpAny_pyIter_rangeiter st h
section
variable {X:Cx}{tg:Expr}
abbrev tH(K:Zfr)(tl:TE):TI:=λσ H R=>tl σ H λx H1=>∃a,x=.ref a/\(∃xs,jM K H1 a xs)/\R (ME K a) H1
abbrev CT(K:Zfr)(tl:TE):TI:=λσ H R=>tl σ H λx H1=>∃a,x=.ref a/\(∃xs,d9 K H1 a xs)/\R (MF K a) H1
def CU{l:Expr}{tl:TE}(hl:PE X l tl):PI X tg l (tH X.K tl):=by
 intro pins s σ H R I h;refine cf (hl pins s σ H _ I h) λv s1 ⟨x,H1,I1,r1,q1⟩=>?_;obtain⟨a,e,⟨xs,hq⟩,q⟩:=q1;subst e;cases r1;obtain⟨its,rv,p,hz⟩:=I1.list hq;refine wpAny_pyIter_list p.isList ?_;refine⟨s1.heap.objs.size,[s1.heap.objs.size],_,_,H1,rfl,I1.kept (t':=s1.toks) λb o e=>ZD _ e,Rw a _,⟨_,ZX _ rfl,rfl,rfl⟩,λb hb=>?_,q⟩;have e:b=s1.heap.objs.size:=by simpa using hb
 subst e;exact I1.sf (ZA _) (I1.hok.fresh (ZA _))
def qv{l:Expr}{tl:TE}(hl:PE X l tl):PI X tg l (CT X.K tl):=by
 intro pins s σ H R I h;refine cf (hl pins s σ H _ I h) λv s1 ⟨x,H1,I1,r1,q1⟩=>?_;obtain⟨a,e,⟨xs,hq⟩,q⟩:=q1;subst e;cases r1;obtain⟨its,rv,p,hz⟩:=I1.tuple hq;refine wpAny_pyIter_tuple (show s1.heap.IsTuple a its.toArray from p) ?_;refine⟨s1.heap.objs.size,[s1.heap.objs.size],_,_,H1,rfl,I1.kept (t':=s1.toks) λb o e=>ZD _ e,Rx a _,⟨_,ZX _ rfl,rfl,rfl⟩,λb hb=>?_,q⟩;have e:b=s1.heap.objs.size:=by simpa using hb
 subst e;exact I1.sf (ZA _) (I1.hok.fresh (ZA _))
def MG{pins:List (Addr×Obj)}{σ:St}{H:Hp}{s:Shared}{R:It->Hp->Prop}{E:Value->Shared->Prop}{lo hi:Int}{t u v:Tok}{tk:Nat}(I:Inv X pins σ H s)(h1:-(2 ^ 62)<=lo)(h2:lo<2 ^ 62)(h3:-(2 ^ 62)<=hi)(h4:hi<2 ^ 62)
  (q:R (CQ lo (hi-lo).toNat) H):wpAny (model X.prog X.w) X.A (pyIter (.ref s.heap.objs.size)) (MD X pins σ tg R) E { s with heap:=s.heap.push { cls:=.type "range",data:=.fields #[.int lo t,.int hi u,.int 1 v] },toks:=tk }:=by
 refine wpAny_pyIter_range (IsRange.new ..) (small_one h1 h2 h3 h4) ?_;have I1:Inv X pins σ H { s with heap:=s.heap.push { cls:=.type "range",data:=.fields #[.int lo t,.int hi u,.int 1 v] },toks:=tk }:=I.kept λb o e=>ZD _ e
 refine⟨(s.heap.push { cls:=.type "range",data:=.fields #[.int lo t,.int hi u,.int 1 v] }).objs.size,[(s.heap.push { cls:=.type "range",data:=.fields #[.int lo t,.int hi u,.int 1 v] }).objs.size],_,_,H,rfl,
  I1.kept (t':=tk) λb o e=>ZD _ e,Ry _ lo (hi-lo).toNat,?_,λb hb=>?_,q⟩
 have e1:lo+((0:Nat):Int)*1=lo:=by simp
 have e2:(((hi-lo).toNat:Nat):Int)-((0:Nat):Int)=Builtin.Range.rangeSize lo hi 1:=by rw[rangeSize_one];split<;>lk
 show IsRangeIter _ _ (lo+((0:Nat):Int)*1) ((((hi-lo).toNat:Nat):Int)-((0:Nat):Int)) 1;rw[e1,e2];exact ZX _ rfl;have e:b=(s.heap.push { cls:=.type "range",data:=.fields #[.int lo t,.int hi u,.int 1 v] }).objs.size:=by simpa using hb
 subst e;exact I1.sf (ZA _) (I1.hok.fresh (ZA _))
abbrev w8(ta:TA):TI:=λσ H R=>ta σ H λvs H1=>∃j:Int,vs=[.int j]/\-(2 ^ 62)<=j/\j<2 ^ 62/\R (CQ 0 j.toNat) H1
abbrev xa(ta:TA):TI:=λσ H R=>ta σ H λvs H1=>∃i j:Int,vs=[.int i,.int j]/\(-(2 ^ 62)<=i/\i<2 ^ 62/\-(2 ^ 62)<=j/\j<2 ^ 62)/\R (CQ i (j-i).toNat) H1
def pP{a:Expr}{ta:TA}{p pos:Pos}(hg:Gl X "range")(hm:X.mg "range" = none)(ha:PA X [a] ta)(hs:starEach [a] X.env=[(false,eval a X.env)]:=by rfl):PI X tg (.Call (.Name "range" p) [a] [] pos) (w8 ta):=by
 intro pins s σ H R I h;refine Call_ (BG I hg hm boot_range (PyProof.Rows.callWith_type1 (cf (ha pos pins s σ H _ I h) λus s1 ⟨vs,H1,I1,r1,q1⟩=>?_) hs rfl));obtain⟨j,e,q1,q2,q⟩:=q1;subst e;cases r1 with
 |cons r rr =>
  cases rr;obtain⟨t,rfl⟩:=r;exact call_range_1 (MG I1 ⋯ ⋯ q1 q2 (by simpa using q))
def Rz{a b:Expr}{ta:TA}{p pos:Pos}(hg:Gl X "range")(hm:X.mg "range" = none)(ha:PA X [a,b] ta)(hs:starEach [a,b] X.env=[(false,eval a X.env),(false,eval b X.env)]:=by rfl)(hs2:starEach [b] X.env=[(false,eval b X.env)]:=by rfl):
  PI X tg (.Call (.Name "range" p) [a,b] [] pos) (xa ta):=by
 intro pins s σ H R I h;refine Call_ (BG I hg hm boot_range (PyProof.Rows.callWith_type1 (cf (ha pos pins s σ H _ I h) λus s1 ⟨vs,H1,I1,r1,q1⟩=>?_) (by rw[hs,hs2]) (by rw[hs2];rfl)));obtain⟨i,j,e,⟨q1,q2,q3,q4⟩,q⟩:=q1;subst e;cases r1 with
 |cons r rr =>
  cases rr with
  |cons r' rr =>
   cases rr;obtain⟨t,rfl⟩:=r;obtain⟨t',rfl⟩:=r';exact call_range_2 (MG I1 q1 q2 q3 q4 q)
abbrev CV(wi:TI)(g:TG)(tb:TS):TS:=λD σ H=>wi σ H λJ H1=>∃W:Nat->Nat->St->Hp->Prop,(∃m,W 0 m σ H1)/\∀i m σ H,W i m σ H ->
 (J.stop i H/\D.nx σ H)\/(J.go i H/\∃N:St->Hp->Prop,(∀σ' H',N σ' H'->∃m',m' < m/\W (i+1) m' σ' H')/\∀x H',J.vE i H x H'->g x σ H' λσ2 H2=>tb { D with nx:=N,ct:=N,bk:=D.nx } σ2 H2)
abbrev mZ(fp:List Addr)(h:Heap):List (Addr×Obj):=fp.filterMap λb=>(h.get? b).map λo=>(b,o)
def GS{fp:List Addr}{h:Heap}{b:Addr}{o:Obj}(hb:b∈fp)(e:h.get? b=some o):(b,o)∈mZ fp h:=List.mem_filterMap.mpr ⟨b,hb,by rw[e];rfl⟩
def RA{fp:List Addr}{h:Heap}{p:Addr×Obj}(hp:p∈mZ fp h):p.1∈fp/\h.get? p.1=some p.2:=by
 obtain⟨b,hb,e⟩:=List.mem_filterMap.mp hp;cases q:h.get? b with
 |none=>rw[q]at e;cases e
 |some o =>
  rw[q]at e;have e':(b,o)=p:=ZN e;subst e';exact⟨hb,q⟩
def Inv.pinned{pins:List (Addr×Obj)}{σ:St}{H:Hp}{s:Shared}{fp:List Addr}(I:Inv X pins σ H s)(hf:∀b∈fp,lV X pins H b)(ho:∀b∈fp,∃o,s.heap.get? b=some o/\∀v,o.data≠.cell v):Inv X (pins ++ mZ fp s.heap) σ H s :=
 I.mL λp hp=>(Z6.mp hp).elim (λz=>I.pin p (Z7 _ z)) λz=>by
  obtain⟨hb,e⟩:=RA z;obtain⟨f0,f1,f2,_⟩:=hf p.1 hb;obtain⟨o,e',d⟩:=ho p.1 hb;rw[e]at e';cases e';exact⟨e,f0,f1,f2,d⟩
def Inv.lD{pins pl:List (Addr×Obj)}{σ:St}{H:Hp}{s:Shared}(I:Inv X (pins ++ pl) σ H s):Inv X pins σ H s:=I.mL λp hp=>I.pin p (Z7 _ (ZaL _ hp))
def MH{iter:Expr}{body:List Stmt}{wi:TI}{g:TG}{tb:TS}{pos:Pos}(hp:PassesOwn (model X.prog X.w) X.A X.env X.xe)(hc:X.calm=true)(hi:PI X tg iter wi)(hg:PG X tg g)(hb:qu X body tb)
  (hs:∀x,foldedSetIterable iter X.env x=pure x:=by intro _;rfl):PS X (.For tg iter body [] pos) (CV wi g tb):=by
 intro pins s σ H D I h;refine wpAny_For (cf (hi pins s σ H _ I h) λv s1 h1=>cf h1 λitv s2 h2=>?_) hs;obtain⟨it,fp,tn,J,H2,e,I2,T,st2,f2,W,⟨m0,w0⟩,turn⟩:=h2;subst e;have stat:∀{H':Hp},(∀b∈fp,H' b=none)->∀b∈fp,lV X pins H' b:=λhn b hb=>⟨hn b hb,(f2 b hb).2⟩;refine codeAny_forLoop_any (λn s'=>∃i σ' H',Inv X pins σ' H' s'/\tn i s'.heap/\(∀b∈fp,H' b=none)/\W i n σ' H') ?_ m0 ⟨0,σ,H2,I2,st2,λb hb=>(f2 b hb).1,w0⟩;rintro n s3 ⟨i,σ3,H3,I3,st3,MI,w3⟩;rcases turn i n σ3 H3 w3 with⟨stop,qn⟩|⟨go,N,hN,step⟩
 ·refine wpAny_passesOwn hp (cf (T.done X rfl rfl rfl hc i pins s3 σ3 H3 X.xe I3 (stat MI) st3 stop) λr s4 ⟨hr,I4⟩=>?_)
  subst hr;exact wpAny_execs_nil ⟨σ3,H3,I4,qn⟩
 ·refine wpAny_passesOwn hp (cf (T.item X rfl rfl rfl hc i pins s3 σ3 H3 X.xe I3 (stat MI) st3 go) λr s4 ⟨u,hr,h4⟩=>?_)
  subst hr;refine wpAny_passesOwn hp (cf h4 λ_ s5 ⟨x,H5,I5,r5,y5,jQ,GU⟩=>?_);have RB:=I5.pinned (stat GU) (T.obj _ _ jQ);refine wpAny_passesOwn hp (cf (hg _ s5 σ3 H5 x u _ RB r5 (step x H5 y5)) λ_ s6 ⟨σ6,H6,I6,q6⟩=>?_);refine wpAny_passesOwn hp (cf (hb _ s6 σ6 H6 _ I6 q6) λf s7 q7=>?_);have again:∀{σ7:St} {H7:Hp},Inv X (pins ++ mZ fp s5.heap) σ7 H7 s7->N σ7 H7->∃m,m<n/\∃i σ' H',Inv X pins σ' H' s7/\tn i s7.heap/\(∀b∈fp,H' b=none)/\W i m σ' H':=λ{σ7 H7} I7 n7=>by
   obtain⟨m',hm,w7⟩:=hN σ7 H7 n7;refine⟨m',hm,i+1,σ7,H7,I7.lD,T.keep _ _ _ jQ λb hb o e=>(I7.pin (b,o) (Z7 _ (Z7 _ (GS hb e)))).1,λb hb=>?_,w7⟩;obtain⟨o,e,d⟩:=T.obj _ _ jQ b hb;exact(I7.pin (b,o) (Z7 _ (Z7 _ (GS hb e)))).2.1
  cases f with
  |next=>obtain⟨σ7,H7,I7,n7⟩:=q7;exact again I7 n7
  |cont=>obtain⟨σ7,H7,I7,n7⟩:=q7;exact again I7 n7
  |brk=>obtain⟨σ7,H7,I7,q7⟩:=q7;exact⟨σ7,H7,I7.lD,q7⟩
  |ret v=>obtain⟨x7,σ7,H7,I7,r7,q7⟩:=q7;exact⟨x7,σ7,H7,I7.lD,r7,q7⟩
end
@[reducible]def R2:=V->V->Hp->VK->Prop
abbrev kL(X:Cx)(f:Value->Value->Sem Value)(r:R2):Prop :=
 ∀(pins:List (Addr×Obj)) (s:Shared) (σ:St) (H:Hp) (x y:V) (v u:Value) (Q:VK),Inv X pins σ H s->RelV x v->RelV y u->r x y H Q ->
  wpAny (model X.prog X.w) X.A (f v u) (EP X pins σ Q) X.xe s
abbrev JG(X:Cx)(f:Value->Sem Value)(r:V->Hp->VK->Prop):Prop :=
 ∀(pins:List (Addr×Obj)) (s:Shared) (σ:St) (H:Hp) (x:V) (v:Value) (Q:VK),Inv X pins σ H s->RelV x v->r x H Q ->
  wpAny (model X.prog X.w) X.A (f v) (EP X pins σ Q) X.xe s
abbrev fe(X:Cx)(f:Value)(r:List V->Hp->VK->Prop):Prop :=
 ∀(pins:List (Addr×Obj)) (s:Shared) (σ:St) (H:Hp) (xs:List V) (us:List Value) (Q:VK),Inv X pins σ H s->Vals xs us->r xs H Q ->
  wpAny (model X.prog X.w) X.A (call f us) (EP X pins σ Q) X.xe s
abbrev CW(r:R2)(ta tb:TE):TE:=λσ H Q=>ta σ H λx H1=>tb σ H1 λy H2=>r x y H2 Q
abbrev MJ(r:V->Hp->VK->Prop)(ta:TE):TE:=λσ H Q=>ta σ H λx H1=>r x H1 Q
abbrev rI(C:Int->Int->Prop)(g:Int->Int->V):R2:=λx y H Q=>∃i j,x=.int i/\y=.int j/\C i j/\Q (g i j) H
abbrev si(g:Int->Int->V):R2:=λx y H Q=>∃i j,x=.int i/\y=.int j/\Q (g i j) H
abbrev rU(g:Int->V):V->Hp->VK->Prop:=λx H Q=>∃i,x=.int i/\Q (g i) H
section
variable {X:Cx}{a b c:Expr}{ta tb tc:TE}{pos:Pos}
def yC(ha:PE X a ta)(hb:PE X b tb){pins:List (Addr×Obj)}{s:Shared}{σ:St}{H:Hp}{R:V->V->Hp->Prop}(I:Inv X pins σ H s)
  (h:ta σ H λx H1=>tb σ H1 λy H2=>R x y H2) {Q:Value->Shared->Prop} {f:Value->Value->Sem Value}
  (hf:∀v u s2 x y H2,Inv X pins σ H2 s2->RelV x v->RelV y u->R x y H2->wpAny (model X.prog X.w) X.A (f v u) Q X.xe s2) :
  wpAny (model X.prog X.w) X.A (eval a X.env) (λv s₁=>wpAny (model X.prog X.w) X.A (eval b X.env) (λu s₂=>wpAny (model X.prog X.w) X.A (f v u) Q X.xe s₂) X.xe s₁) X.xe s:=by
 refine cf (ha pins s σ H _ I h) λv s1 ⟨x,H1,I1,r1,q1⟩=>?_;refine cf (hb pins s1 σ H1 _ I1 q1) λu s2 ⟨y,H2,I2,r2,q2⟩=>?_;exact hf v u s2 x y H2 I2 r1 r2 q2
def cT{op:Operator}{r:R2}(ho:kL X (binaryOp op) r)(ha:PE X a ta)(hb:PE X b tb):PE X (.BinOp a op b pos) (CW r ta tb):=by intro pins s σ H Q I h;exact wpAny_BinOp (yC ha hb I h λv u s2 x y H2 I2 rx ry q=>ho pins s2 σ H2 x y v u Q I2 rx ry q)
def yD{op:UnaryOp}{r:V->Hp->VK->Prop}(ho:JG X (unaryOp op) r)(ha:PE X a ta):PE X (.UnaryOp op a pos) (MJ r ta):=by intro pins s σ H Q I h;exact UnaryOp_ (cf (ha pins s σ H _ I h) λv s1 ⟨x,H1,I1,r1,q1⟩=>ho pins s1 σ H1 x v Q I1 r1 q1)
def GV{f:Value->Value->Sem Value}{C:Int->Int->Prop}{g:Int->Int->Int}
  (rule:∀(i j:Int) (t u:Tok) (s:Shared) (Q:Value->Shared->Prop) (E:Value->Shared->Prop),C i j->Q (.int (g i j) s.toks) { s with toks:=s.toks+1 }->wpAny (model X.prog X.w) X.A (f (.int i t) (.int j u)) Q E s) :
  kL X f (rI C λi j=>.int (g i j)):=by
 intro pins s σ H x y v u Q I rx ry h;obtain⟨i,j,rfl,rfl,hc,q⟩:=h;obtain⟨t,rfl⟩:=rx;obtain⟨t',rfl⟩:=ry;exact rule i j t t' s _ _ hc ⟨.int (g i j),H,I.tok _,⟨_,rfl⟩,q⟩
def CY{f:Value->Value->Sem Value}{g:Int->Int->Int}
  (rule:∀(i j:Int) (t u:Tok) (s:Shared) (Q:Value->Shared->Prop) (E:Value->Shared->Prop),Q (.int (g i j) s.toks) { s with toks:=s.toks+1 }->wpAny (model X.prog X.w) X.A (f (.int i t) (.int j u)) Q E s) :
  kL X f (si λi j=>.int (g i j)):=by
 intro pins s σ H x y v u Q I rx ry h;obtain⟨i,j,rfl,rfl,q⟩:=h;obtain⟨t,rfl⟩:=rx;obtain⟨t',rfl⟩:=ry;exact rule i j t t' s _ _ ⟨.int (g i j),H,I.tok _,⟨_,rfl⟩,q⟩
def yE{f:Value->Value->Sem Value}{g:Int->Int->Bool}
  (rule:∀(i j:Int) (t u:Tok) (s:Shared) (Q:Value->Shared->Prop) (E:Value->Shared->Prop),Q (.bool (g i j)) s->wpAny (model X.prog X.w) X.A (f (.int i t) (.int j u)) Q E s) :
  kL X f (si λi j=>.bl (g i j)):=by
 intro pins s σ H x y v u Q I rx ry h;obtain⟨i,j,rfl,rfl,q⟩:=h;obtain⟨t,rfl⟩:=rx;obtain⟨t',rfl⟩:=ry;exact rule i j t t' s _ _ ⟨.bl (g i j),H,I,rfl,q⟩
abbrev CZ(i j:Int):Prop:=0<j/\j<1073741824
abbrev C1(i j:Int):Prop:=0<=j/\j<=1000000/\i.natAbs<2 ^ 64
abbrev vF(i j:Int):Prop:=(-(2 ^ 64)<i/\i<2 ^ 64)\/(-(2 ^ 64)<j/\j<2 ^ 64)
def vF.ok{i j:Int}(h:vF i j):IntMulOk i j:=by
 rcases h with⟨h1,h2⟩|⟨h1,h2⟩
 exact .of_left (intBits_le_64 h1 h2);exact .of_right (intBits_le_64 h1 h2)
def nJ:kL X (binaryOp .Add) (si λi j=>.int (i+j)):=CY λ_ _ _ _ _ _ _ q=>add_int q
def BK:kL X (binaryOp .Sub) (si λi j=>.int (i-j)):=CY λ_ _ _ _ _ _ _ q=>sub_int q
def xb:kL X (binaryOp .Mult) (rI vF λi j=>.int (i*j)):=GV λ_ _ _ _ _ _ _ hc q=>mul_int q hc.ok
def JH:kL X (binaryOp .FloorDiv) (rI CZ λi j=>.int (i / j)):=GV λi j _ _ _ _ _ hc q=>by
 have h1:(0:Int)<j:=hc.1;have h2:j<1073741824:=hc.2;exact floordiv_int ⋯ (by rw[Int.fdiv_eq_ediv_of_nonneg i ⋯];exact q) (.inl (PyProof.noPylong_small ⋯))
def sj:kL X (binaryOp .Mod) (rI (λ_ j=>0<j) λi j=>.int (i % j)):=GV λi j _ _ _ _ _ hc q=>by
 have h1:(0:Int)<j:=hc;exact mod_int' ⋯ (by rw[Int.fmod_eq_emod_of_nonneg i ⋯];exact q)
def MK:kL X (binaryOp .Pow) (rI C1 λi j=>.int (i ^ j.toNat)):=GV λ_ _ _ _ _ _ _ hc q=>pow_int_small hc.1 hc.2.1 hc.2.2 q
def RC{f:Value->Sem Value}{g:Int->Int}
  (rule:∀(i:Int) (t:Tok) (s:Shared) (Q:Value->Shared->Prop) (E:Value->Shared->Prop),Q (.int (g i) s.toks) { s with toks:=s.toks+1 }->wpAny (model X.prog X.w) X.A (f (.int i t)) Q E s) :
  JG X f (rU λi=>.int (g i)):=by
 intro pins s σ H x v Q I rx h;obtain⟨i,rfl,q⟩:=h;obtain⟨t,rfl⟩:=rx;exact rule i t s _ _ ⟨.int (g i),H,I.tok _,⟨_,rfl⟩,q⟩
def yF:JG X (unaryOp .USub) (rU λi=>.int (-i)):=RC λ_ _ _ _ _ q=>neg_int q
end
abbrev qE:V->V->Bool
 |.non,.non=>true|.non,.int _=>true|.int _,.non=>true|.non,.bl _=>true|.bl _,.non=>true|.non,.str _=>true|.str _,.non=>true
 |.int _,.int _=>true|.bl _,.bl _=>true|.str _,.str _=>true|.sR _,.sR _=>true
 |.int _,.str _=>true|.str _,.int _=>true|.bl _,.str _=>true|.str _,.bl _=>true
 |_,_=>false
abbrev ML:R2:=λx y H Q=>qE x y=true/\Q (.bl (decide (x=y))) H
abbrev MN:R2:=λx y H Q=>qE x y=true/\Q (.bl (!decide (x=y))) H
def MO{i j:Int}:decide (V.int i=V.int j)=(i == j):=by rw[Za7];simp
def MP{i j:Bool}:decide (V.bl i=V.bl j)=(i == j):=by rw[Za7];simp
def MQ{i j:Str}:decide (V.str i=V.str j)=(i == j):=by rw[Za7];simp
def MR{i j:Array UInt8}:decide (V.sR i=V.sR j)=(i.toList == j.toList):=by rw[Za7];cases i;cases j;simp
section
variable {X:Cx}{a b c:Expr}{ta tb tc:TE}{pos:Pos}
def kM{pins:List (Addr×Obj)}{σ:St}{H:Hp}{s:Shared}{Q:VK}{k k':Bool}(I:Inv X pins σ H s)(q:Q (.bl k) H)(e:k=k'):EP X pins σ Q (.bool k') s:=by subst e;exact⟨.bl k,H,I,rfl,q⟩
def rh:kL X (compareOp .Eq) ML:=by
 intro pins s σ H x y v u Q I rx ry h;obtain⟨hs,q⟩:=h;cases x with
 |non =>
  cases rx;cases y with
  |non=>cases ry;exact PySem.EqNone.eq_none_none (kM I q (by simp))
  |bl j=>cases ry;exact PySem.EqNone.eq_none_bool (kM I q (by simp))
  |int j=>obtain⟨t',rfl⟩:=ry;exact PySem.EqNone.eq_none_int (kM I q (by simp))
  |str j=>obtain⟨t',rfl⟩:=ry;exact PySem.EqNone.eq_none_str (kM I q (by simp))
  |_=>exact absurd (show false=true from hs) ZC
 |bl i =>
  cases rx;cases y with
  |non=>cases ry;exact PySem.EqNone.eq_bool_none (kM I q (by simp))
  |bl j=>cases ry;exact eq_bool (kM I q MP)
  |str j=>obtain⟨t',rfl⟩:=ry;exact PySem.EqMixed.eq_bool_str (kM I q (by simp))
  |_=>exact absurd (show false=true from hs) ZC
 |int i =>
  obtain⟨t,rfl⟩:=rx;cases y with
  |non=>cases ry;exact PySem.EqNone.eq_int_none (kM I q (by simp))
  |int j=>obtain⟨t',rfl⟩:=ry;exact eq_int (kM I q MO)
  |str j=>obtain⟨t',rfl⟩:=ry;exact PySem.EqMixed.eq_int_str (kM I q (by simp))
  |_=>exact absurd (show false=true from hs) ZC
 |str i =>
  obtain⟨t,rfl⟩:=rx;cases y with
  |non=>cases ry;exact PySem.EqNone.eq_str_none (kM I q (by simp))
  |bl j=>cases ry;exact PySem.EqMixed.eq_str_bool (kM I q (by simp))
  |int j=>obtain⟨t',rfl⟩:=ry;exact PySem.EqMixed.eq_str_int (kM I q (by simp))
  |str j=>obtain⟨t',rfl⟩:=ry;exact eq_str (kM I q MQ)
  |_=>exact absurd (show false=true from hs) ZC
 |sR i =>
  obtain⟨t,rfl⟩:=rx;cases y with
  |sR j=>obtain⟨t',rfl⟩:=ry;exact PySem.W.eq_bytes (kM I q MR)
  |_=>exact absurd (show false=true from hs) ZC
 |_=>cases y<;>exact absurd (show false=true from hs) ZC
def yG:kL X (compareOp .NotEq) MN:=by
 intro pins s σ H x y v u Q I rx ry h;obtain⟨hs,q⟩:=h;cases x with
 |non =>
  cases rx;cases y with
  |non=>cases ry;exact PySem.EqNone.ne_none_none (kM I q (by simp))
  |bl j=>cases ry;exact PySem.EqNone.ne_none_bool (kM I q (by simp))
  |int j=>obtain⟨t',rfl⟩:=ry;exact PySem.EqNone.ne_none_int (kM I q (by simp))
  |str j=>obtain⟨t',rfl⟩:=ry;exact PySem.EqNone.ne_none_str (kM I q (by simp))
  |_=>exact absurd (show false=true from hs) ZC
 |bl i =>
  cases rx;cases y with
  |non=>cases ry;exact PySem.EqNone.ne_bool_none (kM I q (by simp))
  |bl j=>cases ry;exact ne_bool (kM I q (congrArg not MP))
  |str j=>obtain⟨t',rfl⟩:=ry;exact PySem.EqMixed.ne_bool_str (kM I q (by simp))
  |_=>exact absurd (show false=true from hs) ZC
 |int i =>
  obtain⟨t,rfl⟩:=rx;cases y with
  |non=>cases ry;exact PySem.EqNone.ne_int_none (kM I q (by simp))
  |int j=>obtain⟨t',rfl⟩:=ry;exact ne_int (kM I q (congrArg not MO))
  |str j=>obtain⟨t',rfl⟩:=ry;exact PySem.EqMixed.ne_int_str (kM I q (by simp))
  |_=>exact absurd (show false=true from hs) ZC
 |str i =>
  obtain⟨t,rfl⟩:=rx;cases y with
  |non=>cases ry;exact PySem.EqNone.ne_str_none (kM I q (by simp))
  |bl j=>cases ry;exact PySem.EqMixed.ne_str_bool (kM I q (by simp))
  |int j=>obtain⟨t',rfl⟩:=ry;exact PySem.EqMixed.ne_str_int (kM I q (by simp))
  |str j=>obtain⟨t',rfl⟩:=ry;exact ne_str (kM I q (congrArg not MQ))
  |_=>exact absurd (show false=true from hs) ZC
 |sR i =>
  obtain⟨t,rfl⟩:=rx;cases y with
  |sR j=>obtain⟨t',rfl⟩:=ry;exact PySem.W.ne_bytes (kM I q (congrArg not MR))
  |_=>exact absurd (show false=true from hs) ZC
 |_=>cases y<;>exact absurd (show false=true from hs) ZC
def xc:kL X (compareOp .Lt) (si λi j=>.bl (decide (i<j))):=yE λ_ _ _ _ _ _ _ q=>lt_int q
def uU:kL X (compareOp .Gt) (si λi j=>.bl (decide (j<i))):=yE λ_ _ _ _ _ _ _ q=>gt_int q
def C2:kL X (compareOp .GtE) (si λi j=>.bl (decide (j<=i))):=yE λ_ _ _ _ _ _ _ q=>ge_int q
def yH:kL X (compareOp .Is) (λx y H Q=>y=.non/\Q (.bl (decide (x=.non))) H):=by
 intro pins s σ H x y v u Q I rx ry h;obtain⟨rfl,q⟩:=h;cases ry;refine is_none_gen (kM I q ?_);cases x<;>first
  |(cases rx;rfl)
  |(obtain⟨t,rfl⟩:=rx;rfl)
def RD:kL X (compareOp .IsNot) (λx y H Q=>y=.non/\Q (.bl (!decide (x=.non))) H):=by
 intro pins s σ H x y v u Q I rx ry h;obtain⟨rfl,q⟩:=h;cases ry;refine isnot_none_gen (kM I q ?_);cases x<;>first
  |(cases rx;rfl)
  |(obtain⟨t,rfl⟩:=rx;rfl)
def aK(b:Expr){op:CmpOp}(h:op≠.In:=by decide)(h2:op≠.NotIn:=by decide):behindInMarks op b=false:=by
 have e1:(op == CmpOp.In)=false:=by cases op<;>first|rfl|exact absurd rfl h
 have e2:(op == CmpOp.NotIn)=false:=by cases op<;>first|rfl|exact absurd rfl h2
 cases b<;>simp[behindInMarks,e1,e2]
def GW{op:CmpOp}{r:R2}(ho:kL X (compareOp op) r)(ha:PE X a ta)(hb:PE X b tb)(hm:behindInMarks op b=false):PE X (.Compare a [op] [b] pos) (CW r ta tb):=by intro pins s σ H Q I h;exact wpAny_Compare1 (yC ha hb I h λv u s2 x y H2 I2 rx ry q=>ho pins s2 σ H2 x y v u Q I2 rx ry q) hm
abbrev tI(t:TE):TT:=λσ H Q=>t σ H λx H'=>∃k,x=.bl k/\Q k H'
def eh{op:CmpOp}{r:R2}(ho:kL X (compareOp op) r)(ha:PE X a ta)(hb:PE X b tb)(hm:behindInMarks op b=false):PT X (.Compare a [op] [b] pos) (tI (CW r ta tb)):=by
 intro pins s σ H Q I h
 refine wpAny_isTrue_Compare1 (cf (ha pins s σ H _ I h) λv s1 ⟨x,H1,I1,r1,q1⟩=>cf (hb pins s1 σ H1 _ I1 q1) λu s2 ⟨y,H2,I2,r2,q2⟩ =>
  cf (ho pins s2 σ H2 x y v u _ I2 r1 r2 q2) λc s3 ⟨z,H3,I3,r3,k,e,q3⟩=>?_) hm
 subst e;cases r3;exact wpAny_truthy_bool ⟨H3,I3,q3⟩
abbrev tJ(r r':R2)(ta tb tc:TE):TE:=λσ H Q=>ta σ H λx H1=>tb σ H1 λy H2=>r x y H2 λz H3=>∃k,z=.bl k /\
 (if k=true then tc σ H3 λw' H4=>r' y w' H4 Q else Q (.bl false) H3)
def RE{op op':CmpOp}{r r':R2}(ho:kL X (compareOp op) r)(ho':kL X (compareOp op') r')(ha:PE X a ta)(hb:PE X b tb)(hc:PE X c tc)
  (hm:lastMarks [op,op'] [b,c]=false:=by with_unfolding_all rfl):PT X (.Compare a [op,op'] [b,c] pos) (tI (tJ r r' ta tb tc)):=by
 intro pins s σ H Q I h
 refine isTrue_chain (cf (ha pins s σ H _ I h) λv s1 ⟨x,H1,I1,r1,q1⟩=>test_link (cf (hb pins s1 σ H1 _ I1 q1) λu s2 ⟨y,H2,I2,r2,q2⟩ =>
  cf (ho pins s2 σ H2 x y v u _ I2 r1 r2 q2) λd s3 ⟨z,H3,I3,r3,k,e,q3⟩=>?_)) hm
 subst e;cases r3;refine wpAny_truthy_bool ?_;cases k with
 |false =>
  obtain⟨k',e',q'⟩:=q3;cases e';exact ite_ff ⟨H3,I3,q'⟩
 |true =>
  refine ite_tt (test_last (cf (hc pins s3 σ H3 _ I3 q3) λw' s4 ⟨z',H4,I4,r4,q4⟩=>cf (ho' pins s4 σ H4 y z' u w' _ I4 r2 r4 q4) λd' s5 ⟨z2,H5,I5,r5,k2,e2,q5⟩=>?_));subst e2;cases r5;exact wpAny_truthy_bool ⟨H5,I5,q5⟩
def oN:(sizeLine:Nat)<2 ^ 63:=by rw[sizeLine_eq];decide
def vals1{x:V}{us:List Value}(r:Vals [x] us):∃u,us=[u]/\RelV x u:=by
 cases r with
 |cons r1 r2=>cases r2;exact⟨_,rfl,r1⟩
def vals2{x y:V}{us:List Value}(r:Vals [x,y] us):∃u w',us=[u,w']/\RelV x u/\RelV y w':=by
 cases r with
 |cons r1 r2 =>
  cases r2 with
  |cons r3 r4=>cases r4;exact⟨_,_,rfl,r1,r3⟩
def MS(hc:X.calm=true):fe X (.builtin "max") (λxs H Q=>∃i j,xs=[.int i,.int j]/\Q (.int (if j > i then j else i)) H):=by intro pins s σ H xs us Q I r h;obtain⟨i,j,rfl,q⟩:=h;obtain⟨u,w',rfl,⟨t,rfl⟩,⟨t',rfl⟩⟩:=vals2 r;refine max_two_ints (I.ok.hd hc) λh' tk k=>⟨_,H,I.kept k,?_,q⟩;by_cases hj:j > i;rw[if_pos hj,if_pos hj];exact⟨_,rfl⟩;rw[if_neg hj,if_neg hj];exact⟨_,rfl⟩
def RF(hc:X.calm=true):fe X (.builtin "min") (λxs H Q=>∃i j,xs=[.int i,.int j]/\Q (.int (if j<i then j else i)) H):=by intro pins s σ H xs us Q I r h;obtain⟨i,j,rfl,q⟩:=h;obtain⟨u,w',rfl,⟨t,rfl⟩,⟨t',rfl⟩⟩:=vals2 r;refine min_two_ints (I.ok.hd hc) λh' tk k=>⟨_,H,I.kept k,?_,q⟩;by_cases hj:j<i;rw[if_pos hj,if_pos hj];exact⟨_,rfl⟩;rw[if_neg hj,if_neg hj];exact⟨_,rfl⟩
def RG:fe X (.type "int") (λxs H Q=>(∃i,xs=[.int i]/\Q (.int i) H)\/∃k,xs=[.bl k]/\Q (.int (if k then 1 else 0)) H):=by
 intro pins s σ H xs us Q I r h;rcases h with⟨i,rfl,q⟩|⟨k,rfl,q⟩
 obtain⟨u,rfl,t,rfl⟩:=vals1 r;exact call_int_int ⟨.int i,H,I,⟨_,rfl⟩,q⟩;obtain⟨u,rfl,r1⟩:=vals1 r;cases r1;exact call_int_bool ⟨.int (if k then 1 else 0),H,I.tok _,⟨_,rfl⟩,q⟩
end
def RH{h:Heap}{dx:Addr}{mA:Str->Option Value}(n:h.Ns1 dx mA):∃od,h.get? dx=some od/\∀name,PySem.W.lookIn name od=some (mA name):=by
 obtain⟨o,es,ep,ho,hd,hk,_,hm⟩:=n;refine⟨o,ho,λname=>?_⟩;have e:=hm name;unfold nsFind findBy at e;rw[<- Array.find?_toList]at e;unfold PySem.W.lookIn;rw[hd];dsimp only;split
 ·rename_i y q
  rw[q]at e;exact congrArg some e
 ·rename_i q
  rw[q]at e;have a:es.toList.any (·.refKey)=false:=by
   rw[List.any_eq_false];intro y hy;obtain⟨z,t,hkey⟩:=hk y (Array.mem_toList_iff.mp hy);simp[DictEntry.refKey,hkey]
  have a':¬es.toList.any (·.refKey)=true:=by rw[a];exact ZC
  rw[if_neg a'];exact congrArg some e
def mX.some_of{v:V}{o:Option Value}(r:mX (some v) o):∃u,o=some u/\RelV v u:=by
 cases o with
 |none=>exact(show False from r).elim
 |some u=>exact⟨u,rfl,r⟩
def RI{v:V}{u:Value}(r:RelV v u):PySem.W.handedIn u=true:=by
 cases v with
 |non=>cases(show u=Value.none from r);rfl
 |bl b=>cases(show u=Value.bool b from r);rfl
 |int i=>obtain⟨t,e⟩:=(show∃t,u=Value.int i t from r);cases e;rfl
 |str x=>obtain⟨t,e⟩:=(show∃t,u=Value.str x t from r);cases e;rfl
 |sR b=>obtain⟨t,e⟩:=(show∃t,u=Value.bytes b t from r);cases e;rfl
 |pN b=>obtain⟨t,e⟩:=(show∃t,u=Value.float b t from r);cases e;rfl
 |ref a=>cases(show u=Value.ref a from r);rfl
 |ty n=>cases(show u=Value.type n from r);rfl
structure RJ(K:Zfr)(C:Addr):Prop where
 pg:PySem.W.plainGet K C Str.empty=true
 hd:PySem.W.hasDictIn K C=true
 po:PySem.W.plainOver K C=true
 sa:PySem.W.findIn K (.ref C) "__setattr__" = some (some (.builtin "object.__setattr__"))
structure uV(K:Zfr)(C:Addr)(f:Str)(v:V)(u:Value):Prop where
 at_:PySem.W.findIn K (.ref C) f=some (some u)
 rel:RelV v u
 get:PySem.W.specialIn K u "__get__" = some none
 cp:PySem.W.copiedNames.contains f=false
section
variable {X:Cx}{pins:List (Addr×Obj)}{σ:St}{H:Hp}{s:Shared}{a C dx:Addr}{fs:List (Str×V)}{f:Str}{v:V}{A:Around}{E:Value->Shared->Prop}
def RK{prog:Program}{w:World}{env:Env}{e:Expr}{f:Str}{pos:Pos}{s:Shared}{Q:Value->Shared->Prop}(hb:attributeBase e f env (eval e env)=eval e env)
  (h:wpAny (model prog w) A (eval e env) (λo s₁=>wpAny (model prog w) A (getAttr o f true) Q E s₁) E s):wpAny (model prog w) A (eval (.Attribute e f pos) env) Q E s :=
 Attribute_any_ h (by rw[arm_eval_Attribute,hb])
end
section
variable {X:Cx}{pins:List (Addr×Obj)}{σ:St}{H:Hp}{s:Shared}{A:Around}{E:Value->Shared->Prop}{Q:Value->Shared->Prop}{c:Value}{b:Bool}
inductive mB(K:Zfr)(H:Hp):V->Value->Prop where
 |non:mB K H .non (.type "NoneType")
 |bl (x:Bool):mB K H (.bl x) (.type "bool")
 |int (i:Int):mB K H (.int i) (.type "int")
 |str (x:Str):mB K H (.str x) (.type "str")
 |pN (x:UInt64):mB K H (.pN x) (.type "float")
 |lst {a:Addr} {xs:List V} (e:H a=some (.lst xs)):mB K H (.ref a) (.type "list")
 |mJ {a:Addr} {o:Obj} {xs:List V} (e:H a=some (.mJ o (.lst xs))):mB K H (.ref a) (.type "list")
 |tup {a:Addr} {xs:List V} (e:H a=some (.tup xs)):mB K H (.ref a) (.type "tuple")
 |dK {a:Addr} {kvs:List (Key×V)} (e:H a=some (.dK kvs)):mB K H (.ref a) (.type "dict")
 |dT {a:Addr} {kvs:List (List Key×V)} (e:H a=some (.dT kvs)):mB K H (.ref a) (.type "dict")
 | ins {a C dx:Addr} {fs:List (Str×V)} (e:H a=some (.ins C dx fs)) (cl:RJ K C) (ha:PySem.W.findIn K (.ref C) "__class__" = some (some (.builtin "object.__class__")))
   (hn:PySem.W.specialIn K (.builtin "object.__class__") "__get__" = some (some (.builtin "getset_descriptor.__get__"))) (htk:PySem.W.takesIn K (.builtin "object.__class__")=some true)
   (hm:PySem.W.mroIn K C (.type "object")=some true):mB K H (.ref a) (.ref C)
end
structure dQ(k:Nat)(A:Around):Prop where
 hd:A.handled=none
 dp:A.depth+3*k+5<recursionLimit
 un:A.units+16*k+200<cLine
 gd:A.guards=some []
def dQ.mono{j k:Nat}{A:Around}(r:dQ k A)(h:j<=k):dQ j A:=⟨r.hd,by have:=r.dp;lk,by have:=r.un;lk,r.gd⟩
def dQ.deeper{k:Nat}{A:Around}(r:dQ (k+1) A)(env:Env):dQ k (A.deeper env) :=
 ⟨r.hd,by have:=r.dp;show A.depth+1+3*k+5<_;lk,by have:=r.un;show A.units+3+16*k+200<_;lk,r.gd⟩
def RL{A:Around}{C:Addr}{us:List Value}{kw:List (Str×Value)}:(A.under (.builtin "type.__call__" ⟨.ref C :: us,kw⟩)).depth=A.depth+1:=by first|rfl|simp[Around.under,Code.weight,Code.isCreation,Code.isGuard,Code.isCaller,Code.frames,Code.isFrame,guardIds]
def RM{A:Around}{C:Addr}{us:List Value}{kw:List (Str×Value)}:(A.under (.builtin "type.__call__" ⟨.ref C :: us,kw⟩)).units=A.units+1:=by first|rfl|simp[Around.under,Code.cUnits,Code.frames,Code.isFrame]
def RN{A:Around}{C:Addr}{us:List Value}{kw:List (Str×Value)}:(A.under (.builtin "type.__call__" ⟨.ref C :: us,kw⟩)).guards=A.guards:=by first|rfl|simp[Around.under,Code.guards,Code.isGuard,pushGuards,guardIds]
def dQ.make{k:Nat}{A:Around}(r:dQ (k+1) A)(C:Addr)(us:List Value)(kw:List (Str×Value)):dQ k (A.under (.builtin "type.__call__" ⟨.ref C :: us,kw⟩)) :=
 ⟨r.hd,by have:=r.dp;rw[RL];lk,by have:=r.un;rw[RM];lk,by rw[RN];exact r.gd⟩
def dQ.depth{k:Nat}{A:Around}(r:dQ k A):A.depth<recursionLimit:=by have:=r.dp;lk
def dQ.units{k:Nat}{A:Around}(r:dQ k A):A.units+64<cLine:=by have:=r.un;lk
abbrev vG:TA:=λ_ H Q=>Q [] H
abbrev n5(ta:TE)(tr:TA):TA:=λσ H Q=>ta σ H λx H1=>tr σ H1 λxs H2=>Q (x :: xs) H2
section
variable {X:Cx}{e:Expr}{es:List Expr}{te:TE}{t:TA}{pos:Pos}
def av:PA X [] vG:=λ_ _ _ _ H Q I h=>Calls.spliced_nil ⟨[],H,I,.nil,h⟩
def RO(ha:PE X e te)(hr:PA X es t)(hs:starEach (e :: es) X.env=(false,eval e X.env) :: starEach es X.env:=by rfl):PA X (e :: es) (n5 te t):=by intro pos pins s σ H Q I h;rw[hs];show wpAny _ _ (spliced ((false,eval e X.env) :: backTo pos (starEach es X.env))) _ _ s;refine Calls.spliced_cons (cf (ha pins s σ H _ I h) λu s1 ⟨x,H1,I1,r1,q1⟩=>?_);exact cf (hr pos pins s1 σ H1 _ I1 q1) λus s2 ⟨xs,H2,I2,r2,q2⟩=>⟨x :: xs,H2,I2,.cons r1 r2,q2⟩
abbrev vH(t:TA):TE:=λσ H Q=>t σ H λxs H1=>xs.length<=sizeLine/\∀p,H1 p=none->Q (.ref p) (upd H1 p (.tup xs))
abbrev C3(t:TA):TE:=λσ H Q=>t σ H λxs H1=>xs.length<=sizeLine/\∀p,H1 p=none->Q (.ref p) (upd H1 p (.lst xs))
def iQ{x1}(h:PA X es t):PE X (.Tuple es x1 pos) (vH t):=by intro pins s σ H Q I hq;refine wpAny_Tuple_spliced (cf (h pos pins s σ H _ I hq) λus s1 ⟨xs,H1,I1,r,z,q⟩=>⟨by rw[<- r.length];exact z,?_⟩);have hf:H1 s1.heap.objs.size=none:=I1.hok.fresh (ZA _);refine⟨.ref s1.heap.objs.size,upd H1 s1.heap.objs.size (.tup xs),I1.laid (t':=s1.toks) (λb u e=>ZD _ e) (ZA _) ?_,rfl,q _ hf⟩;exact⟨z,us,r,⟨_,ZX _ rfl,rfl,rfl,_,rfl⟩⟩
def kF(h:PA X es t):PE X (.List es pos) (C3 t):=by intro pins s σ H Q I hq;refine wpAny_List_spliced (cf (h pos pins s σ H _ I hq) λus s1 ⟨xs,H1,I1,r,z,q⟩=>⟨by rw[<- r.length];exact z,?_⟩);have hf:H1 s1.heap.objs.size=none:=I1.hok.fresh (ZA _);refine⟨.ref s1.heap.objs.size,upd H1 s1.heap.objs.size (.lst xs),I1.laid (t':=s1.toks) (λb u e=>ZD _ e) (ZA _) ?_,rfl,q _ hf⟩;exact⟨z,us,0,r,ZX _ rfl⟩
end
@[reducible]def Sp:=List V->Hp->VK->XK->Prop
@[reducible]def qF:=List Env->Hp->Shared->XK->Value->Shared->Prop
structure qG(P:Program)(w:World)(K:Zfr)(mg:Str->Option Value)(base:Heap)(A:Around)(outer:List Env)(s:Shared)(H:Hp):Prop where
 frames:A.frames=some outer
 mod:Mod K mg base
 bs:∀b o,base.get? b=some o->s.heap.get? b=some o/\H b=none
 sS:base.objs.size<=s.heap.objs.size
 kQ:s.heap.FunFrames base outer
 uR:∀b∈frs outer,H b=none
 hok:jN P w H s.heap
 bare:AllBare s.gens
abbrev CE(outer:List Env)(P:Program)(w:World)(H:Hp)(s:Shared)(Q:VK)(u:Value)(s':Shared):Prop :=
 ∃v H',s'.os=s.os/\AllBare s'.gens/\Un (frs outer) [] H H' s.heap s'.heap/\jN P w H' s'.heap/\RelV v u/\Q v H'
abbrev CR(CX:qF)(outer:List Env)(P:Program)(w:World)(H:Hp)(s:Shared)(Q:VK)(E:XK)(r:Result)(s':Shared):Prop :=
 match r with
 |.ok (.ret u)=>CE outer P w H s Q u s'
 |.ok _=>False
 |.error e=>CX outer H s E e s'
structure aJ(P:Program)(w:World)(K:Zfr)(mg:Str->Option Value)(base:Heap)(CX:qF)(k:Nat)(f:Addr)(fd:FuncData)(ps:List Str)(sp:Sp):Prop where
 len:∀vs H Q E,sp vs H Q E->vs.length=ps.length
 run:∀(A:Around) (outer:List Env) (s:Shared) (H:Hp) (args:Args) (us:List Value) (vs:List V) (Q:VK) (E:XK),dQ k A->qG P w K mg base A outer s H->BindsTo s fd args (ps.zip us)->Vals vs us->sp vs H Q E ->
  codeAny (model P w) A (.call (.ref f) args) (CR CX outer P w H s Q E) s
def aJ.imp{P:Program}{w:World}{K:Zfr}{mg:Str->Option Value}{base:Heap}{CX:qF}{k:Nat}{f:Addr}{fd:FuncData}{ps:List Str}{sp MT:Sp}(F:aJ P w K mg base CX k f fd ps sp)
  (h:∀vs H Q E,MT vs H Q E->sp vs H Q E):aJ P w K mg base CX k f fd ps MT :=
 ⟨λvs H Q E q=>F.len vs H Q E (h _ _ _ _ q),λA outer s H args us vs Q E hr he hb hv hs=>F.run A outer s H args us vs Q E hr he hb hv (h _ _ _ _ hs)⟩
def qG.make{P:Program}{w:World}{K:Zfr}{mg:Str->Option Value}{base:Heap}{A:Around}{outer:List Env}{s:Shared}{H:Hp}(e:qG P w K mg base A outer s H)(C:Addr)(us:List Value)(kw:List (Str×Value)):
  qG P w K mg base (A.under (.builtin "type.__call__" ⟨.ref C :: us,kw⟩)) outer s H:=⟨by first|exact e.frames|(simpa[Around.under,Code.envs,Code.isFrame,pushEnvs]using e.frames),e.mod,e.bs,e.sS,e.kQ,e.uR,e.hok,e.bare⟩
section
variable {X:Cx}{pins:List (Addr×Obj)}{σ:St}{H:Hp}{s s':Shared}
def Inv.vI(I:Inv X pins σ H s):qG X.prog X.w X.K X.mg X.base X.A X.stack s H :=
 ⟨I.ok.frames,I.ok.mod,I.bs,Z3 I.ok.sS I.sz,I.stack,I.oJ,I.hok,I.bare⟩
def Inv.after{Q:VK}{u:Value}(I:Inv X pins σ H s)(h:CE X.stack X.prog X.w H s Q u s'):EP X pins σ Q u s':=by obtain⟨v,H',os,bare,un,hok,r,q⟩:=h;obtain⟨hh,g,d,t,os'⟩:=s';obtain rfl:os'=s.os:=os;exact⟨v,H',I.call (h':=hh) (g':=g) (d':=d) (t':=t) (ch:=[]) un hok bare (λb z=>absurd z (by simp)),r,q⟩
end
abbrev rj(sp:Sp)(mC:List V)(E:XK)(t:TA):TE:=λσ H Q=>t σ H λvs H1=>sp (vs ++ mC) H1 Q E
abbrev Binds(K:Zfr)(fd:FuncData)(ps:List Str)(ds:List Value):Prop :=
 ∀(s:Shared) (us:List Value),K.In s.heap->(us ++ ds).length=ps.length->BindsTo s fd ⟨us,[]⟩ (ps.zip (us ++ ds))
def Binds.all{K:Zfr}{fd:FuncData}{ps:List Str}(h:∀us:List Value,us.length=ps.length->bindArgs fd ⟨us,[]⟩=pure (ps.zip us)):Binds K fd ps []:=λs us _ hl=>by
 rw[Zad]at hl ⊢;exact .of_eq (h us hl)
abbrev Passes(CX:qF)(X:Cx)(E:XK):Prop:=∀(pins:List (Addr×Obj)) (σ:St) (H:Hp) (s:Shared) (e:Value) (s':Shared),Inv X pins σ H s->CX X.stack H s E e s'->X.xe e s'
section
variable {X:Cx}{CX:qF}{k:Nat}{f C:Addr}{fd:FuncData}{ps:List Str}{sp:Sp}{mC:List V}{ds:List Value}{E:XK}{x m:Str}{p pos apos:Pos}{e o:Expr}{es:List Expr}{ta:TE}{t:TA}
def yI{pins:List (Addr×Obj)}{σ:St}{H:Hp}{s:Shared}{Q:VK}{us:List Value}{vs:List V}(F:aJ X.prog X.w X.K X.mg X.base CX k f fd ps sp)(hr:dQ k X.A)(hb:Binds X.K fd ps ds)(hd:Vals mC ds)(hx:Passes CX X E)
  (I:Inv X pins σ H s) (r:Vals vs us) (h:sp (vs ++ mC) H Q E):wpAny (model X.prog X.w) X.A (call (.ref f) us) (EP X pins σ Q) X.xe s:=by
 have r2:Vals (vs ++ mC) (us ++ ds):=r.append hd;have hl:(us ++ ds).length=ps.length:=by rw[<- r2.length];exact F.len _ _ _ _ h
 refine wpAny_call (codeAny_mono (F.run X.A X.stack s H ⟨us,[]⟩ (us ++ ds) (vs ++ mC) Q E hr I.vI (hb s us I.oH hl) r2 h) λr s' hq=>?_);cases r with
 |error e=>exact hx pins σ H s e s' I hq
 |ok fl =>
  cases fl with
  |ret u=>exact I.after hq
  |next=>exact False.elim hq
  |brk=>exact False.elim hq
  |cont=>exact False.elim hq
def MU(F:aJ X.prog X.w X.K X.mg X.base CX k f fd ps sp)(hr:dQ k X.A)(hg:Gl X x)(hm:X.mg x=some (.ref f))(hk:PySem.W.keepIn X.K (.ref f)=true)(hb:Binds X.K fd ps ds)(hd:Vals mC ds)(hx:Passes CX X E)
  (ha:PA X (e :: es) t) (hdb:(x == ("__debug__" : Str))=false:=by decide) (he:starEach (e :: es) X.env=(false,eval e X.env) :: starEach es X.env:=by rfl) (hpl:(backTo pos (starEach es X.env)).any (·.1)=false:=by rfl) :
  PE X (.Call (.Name x p) (e :: es) [] pos) (rj sp mC E t):=by
 intro pins s σ H Q I h;refine wpAny_Call_Name_kw (BF I hg hm ?_ hdb);refine PySem.W.callWith_K (h₀:=X.base) I.ok.mod.BD hk (cf (ha pos pins s σ H _ I h) λus s1 ⟨vs,H1,I1,r,q⟩=>⟨I1.oH,?_⟩) he hpl;exact yI F hr hb hd hx I1 r q
end
structure aD(N P:List Str)(sc:Scope):Prop where
 kind:sc.kind=.function
 co:sc.isCoroutine=false
 gen:sc.isGenerator=false
 nd:N.Nodup
 pre:N.take P.length=P
 par:∀x∈P,sc.names.lookup x=some .local\/sc.names.lookup x=some .cell
 yJ:∀y∈sc.names,y.2≠.free
def MV{kindOf:Str->Option NameKind}{x:Str}:∀{binds:List (Str×Value)} {m:Str->Option Value},(∀v,(x,v) ∉ binds)->bindL kindOf binds m x=m x
 |[],_,_=>rfl
 |(n,v) :: r,m,h=>by
  unfold bindL;rw[MV λw hw=>h w (ZE _ hw)];split
  have:x≠n:=by rintro rfl;exact h v ZK
  simp[this];rfl
def MW{kindOf:Str->Option NameKind}{x:Str}:∀{binds:List (Str×Value)} {m:Str->Option Value},(∀v,(x,v) ∉ binds)->bindC kindOf binds m x=m x
 |[],_,_=>rfl
 |(n,v) :: r,m,h=>by
  unfold bindC;rw[MW λw hw=>h w (ZE _ hw)];split;rfl
  have:x≠n:=by rintro rfl;exact h v ZK
  simp[this]
def MX{kindOf:Str->Option NameKind}{x:Str}{v:Value}:∀{P:List Str} {vs:List Value} {i:Nat} {m:Str->Option Value},P.Nodup->P[i]?=some x->vs[i]?=some v->kindOf x=some .local ->
  bindL kindOf (P.zip vs) m x=some v
 |[],_,_,_,_,h,_,_=>by simp at h
 |_ :: _,[],_,_,_,_,h,_=>by simp at h
 |p :: P,w :: vs,0,m,nd,h1,h2,hk=>by
  simp at h1 h2;subst h1;subst h2;show bindL kindOf ((p,w) :: P.zip vs) m p=_;unfold bindL;rw[MV λv hv=>(Zau.mp nd).1 (List.of_mem_zip hv).1,if_pos hk];simp
 |p :: P,w :: vs,i+1,m,nd,h1,h2,hk=>by
  show bindL kindOf ((p,w) :: P.zip vs) m x=_;unfold bindL;exact MX (i:=i) (Zau.mp nd).2 (by simpa using h1) (by simpa using h2) hk
def MY{kindOf:Str->Option NameKind}{x:Str}{v:Value}:∀{P:List Str} {vs:List Value} {i:Nat} {m:Str->Option Value},P.Nodup->P[i]?=some x->vs[i]?=some v->kindOf x≠some .local ->
  bindC kindOf (P.zip vs) m x=some v
 |[],_,_,_,_,h,_,_=>by simp at h
 |_ :: _,[],_,_,_,_,h,_=>by simp at h
 |p :: P,w :: vs,0,m,nd,h1,h2,hk=>by
  simp at h1 h2;subst h1;subst h2;show bindC kindOf ((p,w) :: P.zip vs) m p=_;unfold bindC;rw[MW λv hv=>(Zau.mp nd).1 (List.of_mem_zip hv).1,if_neg hk];simp
 |p :: P,w :: vs,i+1,m,nd,h1,h2,hk=>by
  show bindC kindOf ((p,w) :: P.zip vs) m x=_;unfold bindC;exact MY (i:=i) (Zau.mp nd).2 (by simpa using h1) (by simpa using h2) hk
abbrev start(N:List Str)(vs:List V):St:=vs.map some ++ List.replicate (N.length-vs.length) none
abbrev dY(CX:qF)(P:Program)(w:World)(K:Zfr)(mg:Str->Option Value)(base:Heap)(N:List Str)(qual:Str)(scope:Scope)(f:Addr)(cd:Value)(A:Around)(outer:List Env)(s:Shared)(H:Hp)(E:XK):Cx where
 prog:=P
 w:=w
 K:=K
 mg:=mg
 base:=base
 A:=A.deeper (envOfC qual scope s.heap.objs.size f cd)
 N:=N
 s₀:=s
 H₀:=H
 env:=envOfC qual scope s.heap.objs.size f cd
 outer:=outer
 stack:=envOfC qual scope s.heap.objs.size f cd :: outer
 ex:=[]
 calm:=true
 fn:=λ_=>true
 pn:=[]
 xe:=λe s'=>wpAny (model P w) (A.deeper (envOfC qual scope s.heap.objs.size f cd)) («leaving» (envOfC qual scope s.heap.objs.size f cd) e) (λ_ s''=>CX outer H s E e s'') (λe' s''=>CX outer H s E e' s'') s'
def MZ{sc:Scope}{n:Nat}{x:Str}(h:sc.names.lookup x=some .cell):∃c,(cellsFrom n sc.names []).lookup x=some c:=by have q:=PySem.W.cellsFrom_some sc.names n [] (.inl h);exact Za1.mp q
def RP{CX:qF}{P:Program}{w:World}{K:Zfr}{mg:Str->Option Value}{base:Heap}{N ps:List Str}{qual:Str}{scope:Scope}{f:Addr}{cd:Value}{A:Around}{outer:List Env}{s s1:Shared}{H:Hp}{E:XK}{us:List Value}{vs:List V}
  (S:aD N ps scope) (hd:A.handled=none) (e0:qG P w K mg base A outer s H) (hl:vs.length=ps.length) (r:Vals vs us)
  (x:InCallC s s.heap.objs.size (bindL (envOfC qual scope s.heap.objs.size f cd).kindOf (ps.zip us) λ_=>none) (cellsFrom (s.heap.objs.size+1) scope.names []) (bindC (envOfC qual scope s.heap.objs.size f cd).kindOf (ps.zip us) λ_=>none) s1) :
  Inv (dY CX P w K mg base N qual scope f cd A outer s H E) [] (start N vs) H s1:=by
 have hpl:ps.length<=N.length:=by have:=congrArg List.length S.pre;rw[Zar]at this;lk
 obtain⟨h1,tk,rfl,hk⟩:=x.done;have C4:∀b:Addr,b ∉ (dY CX P w K mg base N qual scope f cd A outer s H E).ex:=λb z=>absurd (show b∈([]:List Addr)from z) (by simp)
 refine⟨⟨e0.mod,S.kind,rfl,rfl,ZA _,λy z c h1 h2=>?_,λy hy=>?_,λy c _ h=>?_,λ_=>hd,Around.frames_deeper e0.frames,.inr ⟨rfl,rfl⟩,λb z=>absurd z (C4 b),e0.bs,e0.sS,λb _ _=>C4 b,λb z=>absurd z (C4 b),e0.kQ,e0.uR⟩,
  rfl,e0.bare,Un.kept hk,⟨_,x.toInCall.ns,λi y v h1 h2 h3=>?_⟩,λy c h=>⟨_,x.cell y c h⟩,e0.hok.fresh (ZA _),λy c h=>?_,λp hp=>absurd (show p∈([]:List (Addr×Obj))from hp) (by simp),e0.hok.kept hk,?_⟩
 exact name_of_addr x.apart (PySem.mem_of_lookup h1) (PySem.mem_of_lookup h2);have hy:scope.names.lookup y=some .cell\/scope.names.lookup y=some .free:=hy;rcases hy with hy|hy
 exact MZ hy;exact absurd rfl (S.yJ _ (PySem.mem_of_lookup hy));exact ZaK (x.above y c (PySem.mem_of_lookup h));have hi:i < vs.length:=by
  unfold start at h2;by_cases hi:i<vs.length;exact hi;rw[ZW (by simpa using hi)]at h2;rw[Za4]at h2;split at h2<;>cases h2
 have ha:vs[i]?=some v:=by
  unfold start at h2;rw[ZQ (by simpa using hi),ZO]at h2;cases e:vs[i]? with
  |none=>rw[e]at h2;cases h2
  |some a=>rw[e]at h2;cases h2;rfl
 obtain⟨u,hu,rv⟩:=r.get ha;have hp:ps[i]?=some y:=by
  rw[<- S.pre,List.getElem?_take_of_lt ⋯];exact h1
 have M0:ps.Nodup:=by rw[<- S.pre];exact S.nd.sublist (List.take_sublist _ _)
 refine⟨u,rv,?_⟩;rcases S.par y (ZF hp)with k|k
 exact .inl ⟨k,MX M0 hp hu k⟩;obtain⟨c,e⟩:=MZ (n:=s.heap.objs.size+1) k;refine .inr ⟨.inl k,c,e,?_⟩;have q:=x.cell y c e;rw[MY M0 hp hu (by show scope.names.lookup y≠_;rw[k];decide)]at q;exact q;exact e0.hok.fresh (ZaK (x.above y c (PySem.mem_of_lookup h)));unfold start;show _=N.length;rw[ZH,Zx,Zbc];lk
def xf{CX:qF}{P:Program}{w:World}{K:Zfr}{mg:Str->Option Value}{base:Heap}{k:Nat}{f:Addr}{name qual:Str}{params:Arguments}{body:List Stmt}{scope:Scope}{dV kV doc pm cdv ct oc:Value}{an od:Option Addr}
  {osl:Array (Option Value)} {N ps:List Str} {sp:Sp} (lk:K.lookup f=some ⟨oc,od,.func (PySem.W.fnOf name qual params body scope dV kV doc pm an cdv ct),osl⟩) (hcd:PySem.W.codeIn K cdv qual=true) (S:aD N ps scope)
  (len:∀vs H Q E,sp vs H Q E->vs.length=ps.length)
  (hbody:∀(A:Around) (outer:List Env) (s:Shared) (H:Hp) (vs:List V) (Q:VK) (E:XK),dQ k (A.deeper (envOfC qual scope s.heap.objs.size f cdv))->sp vs H Q E ->
   ∃t,qu (dY CX P w K mg base N qual scope f cdv A outer s H E) body t/\t { nx:=λ_ H'=>Q .non H',rt:=Q } (start N vs) H) :
  aJ P w K mg base CX (k+1) f (PySem.W.fnOf name qual params body scope dV kV doc pm an cdv ct) ps sp:=by
 refine⟨len,λA outer s H args us vs Q E hr e0 hb r sU=>?_⟩;have hl:=len _ _ _ _ sU;have KX:K.In s.heap:=e0.mod.BD.keeps λb o e=>(e0.bs b o e).1;have lim:s.heap.NoLimit:=e0.mod.nolimit.keeps λb o e=>(e0.bs b o e).1;have hkind:∀y∈ps.zip us,scope.names.lookup y.1=some .local\/(scope.names.lookup y.1=some .cell/\((cellsFrom (s.heap.objs.size+1) scope.names []).lookup y.1).isSome=true):=λ⟨n,v⟩ hy=>by
  rcases S.par n (List.of_mem_zip hy).1 with q|q
  ·exact .inl q
  ·exact .inr ⟨q,PySem.W.cellsFrom_some _ _ _ (.inl q)⟩
 refine codeAny_call_function hr.depth (KX _ _ lk) rfl S.co S.gen rfl (PySem.W.codeRec_of KX hcd) (hb _ _ _ _ ?_);refine wpAny_newFunctionEnv_cells S.kind hkind λenv he s1 x=>?_;subst he;refine⟨lim.keeps x.toInCall.keep,codeAny_func ?_⟩;obtain⟨t,ht,hq⟩:=hbody A outer s H vs Q E (hr.deeper _) sU;have I:Inv (dY CX P w K mg base N qual scope f cdv A outer s H E) [] (start N vs) H s1:=RP S hr.hd e0 hl r x;refine wpAny_mono (ht [] s1 (start N vs) H _ I hq) (λfl s' hs=>?_) λe s' hs=>hs;have fin:∀{σ':St} {H':Hp} {v:V} {u:Value},Inv (dY CX P w K mg base N qual scope f cdv A outer s H E) [] σ' H' s'->RelV v u->Q v H'->CE outer P w H s Q u s' :=
  λ{σ' H' v u} J rv q=>⟨v,H',J.os,J.bare,J.base,J.hok,rv,q⟩
 cases fl with
 |ret u =>
  obtain⟨v,σ',H',J,rv,q⟩:=hs;exact fin J rv q
 |next =>
  obtain⟨σ',H',J,q⟩:=hs;exact fin (v:=V.non) (u:=Value.none) J rfl q
 |brk =>
  obtain⟨_,_,_,q⟩:=hs;exact False.elim q
 |cont =>
  obtain⟨_,_,_,q⟩:=hs;exact False.elim q
section
variable {X:Cx}{x:Str}{p pos:Pos}{e:Expr}{es:List Expr}{t:TA}{id T:String}{r:List V->Hp->VK->Prop}
abbrev JI(r:List V->Hp->VK->Prop)(t:TA):TE:=λσ H Q=>t σ H λvs H1=>r vs H1 Q
def fA(hc:fe X (.builtin id) r)(hg:Gl X x)(hm:X.mg x=none)(hv:bootBuiltins x=some (.builtin id))(ha:PA X (e :: es) t)(hn:x≠"__name__" := by decide)(hdb:(x == ("__debug__" : Str))=false:=by decide)
  (he:starEach (e :: es) X.env=(false,eval e X.env) :: starEach es X.env:=by rfl) (hpl:(backTo pos (starEach es X.env)).any (·.1)=false:=by rfl):PE X (.Call (.Name x p) (e :: es) [] pos) (JI r t):=by
 intro pins s σ H Q I h;refine wpAny_Call_Name_kw (BG I hg hm hv ?_ hn hdb);exact PyProof.Rows.callWith_builtin1 (cf (ha pos pins s σ H _ I h) λus s1 ⟨vs,H1,I1,r1,q1⟩=>hc pins s1 σ H1 vs us Q I1 r1 q1) he hpl
def fY(hc:fe X (.type T) r)(hg:Gl X x)(hm:X.mg x=none)(hv:bootBuiltins x=some (.type T))(ha:PA X (e :: es) t)(hn:x≠"__name__" := by decide)(hdb:(x == ("__debug__" : Str))=false:=by decide)
  (he:starEach (e :: es) X.env=(false,eval e X.env) :: starEach es X.env:=by rfl) (hpl:(backTo pos (starEach es X.env)).any (·.1)=false:=by rfl):PE X (.Call (.Name x p) (e :: es) [] pos) (JI r t):=by
 intro pins s σ H Q I h;refine wpAny_Call_Name_kw (BG I hg hm hv ?_ hn hdb);exact PyProof.Rows.callWith_type1 (cf (ha pos pins s σ H _ I h) λus s1 ⟨vs,H1,I1,r1,q1⟩=>hc pins s1 σ H1 vs us Q I1 r1 q1) he hpl
end
end L2
namespace HT
open PySem PyProof.Rows
def RQ(A:Around)(s:Shared)(a:Int)(t:Tok)(c:Int)(u:Tok):∃e,SeqAt.EqAt A s (.int a t) (.int c u) e/\(e=true↔a=c) :=
 ⟨(a == c),SeqAt.EqAt.int_int a t c u,by simp⟩
section
variable {prog:Program}{w:World}{A:Around}{E:Value->Shared->Prop}{s:Shared}
def RS{t b:Addr}{vs ws:List Value}{Q:Value->Shared->Prop}(ht:IsTup s.heap t vs.toArray)(hb:IsTup s.heap b ws.toArray)(hv:vs≠[])
  (h1:ws=[]->Q (.ref t) s) (h2:ws≠[]->Q (.ref s.heap.objs.size) { s with heap:=s.heap.push { cls:=.type "tuple",data:=.seq (vs ++ ws).toArray } })
  (hsz:vs.length+ws.length<=sizeLine):wpAny (model prog w) A (binaryOp .Add (.ref t) (.ref b)) Q E s:=by
 obtain⟨⟨cls,dd,data,sl⟩,ho,hc,n,hd⟩:=id ht;obtain⟨⟨JJ,dd2,data2,sl2⟩,ho2,hc2,n2,hd2⟩:=id hb;simp only at hc hd hc2 hd2;subst hc hd hc2 hd2;have e:vs.toArray ++ ws.toArray=(vs ++ ws).toArray:=by simp
 by_cases hw:ws=[];exact concat_meets ⟨_,ho,rfl⟩ ⟨_,ho2,rfl⟩ noFill_tuple_add seq_tuple_add PySem.F.slot_tuple_add PySem.F.entry_tuple_add (PySem.F.args_tuple_add_2 _ _)
  (tuple_addW1 t b vs.toArray ws.toArray n n2 dd dd2 sl sl2 (by simpa using hv) (by simp[hw])) ⟨ho,ho2,h1 hw⟩
 refine concat_meets ⟨_,ho,rfl⟩ ⟨_,ho2,rfl⟩ noFill_tuple_add seq_tuple_add PySem.F.slot_tuple_add PySem.F.entry_tuple_add (PySem.F.args_tuple_add_2 _ _)
  (tuple_addW2 t b vs.toArray ws.toArray n n2 dd dd2 sl sl2 (by simpa using hv) (by simpa using hw) (by rw[ZM,ZM];exact hsz)) ⟨ho,ho2,?_⟩
 rw[e];exact h2 hw
abbrev cF(n d:Nat):Option Int->Nat
 |none=>d
 |some v=>if v<0 then(v+(n:Int)).toNat else min v.toNat n
def RT(n d:Nat):cF n d none=d:=rfl
def JK(n d k:Nat):cF n d (some (k:Int))=min k n:=by show(if(k:Int)<0 then((k:Int)+(n:Int)).toNat else min (k:Int).toNat n)=min k n;rw[if_neg ⋯,ZP]
def yK(n d:Nat)(hd:d<=n)(o:Option Int):cF n d o<=n:=by
 cases o with
 |none=>exact hd
 |some v =>
  show(if v<0 then(v+(n:Int)).toNat else min v.toNat n)<=n;by_cases hv:v<0;rw[if_pos hv];lk;rw[if_neg hv];exact Nat.min_le_right _ _
def M1(v:Int)(n d:Nat):(if v<0 then max (v+(n:Int)) 0 else min v (n:Int))=((cF n d (some v):Nat):Int):=by show(if v<0 then max (v+(n:Int)) 0 else min v (n:Int))=(((if v<0 then(v+(n:Int)).toNat else min v.toNat n):Nat):Int);by_cases hv:v<0;simp only[if_pos hv];lk;simp only[if_neg hv];lk
def RU(lo hi:Option Int)(n:Nat):Builtin.Slice.sliceAdjust lo hi 1 (n:Int)=(((cF n 0 lo:Nat):Int),((cF n n hi:Nat):Int)):=by
 have h1:¬((1:Int)<0):=by lk
 unfold Builtin.Slice.sliceAdjust;simp only[h1,if_false];refine Prod.ext ?_ ?_;cases lo with
 |none=>rfl
 |some v=>exact M1 v n 0
 cases hi with
 |none=>rfl
 |some v=>exact M1 v n n
def RV(i j:Nat):Builtin.Slice.slicePlaces (i:Int) (j:Int) 1=j-i:=by
 unfold Builtin.Slice.slicePlaces;have h1:(1:Int) > 0:=by lk
 simp only[h1,if_true,Int.ediv_one];split<;>lk
def M3{v:Value}{o:Option Int}{Q:Option Int->Shared->Prop}(p:IsPart v o)(h:Q o s):wpAny (model prog w) A (Builtin.Slice.slicePartIndex v) Q E s:=by
 cases p with
 |none=>exact slicePart_none h
 |int i t=>exact slicePart_int h
def M4{sl:Addr}{vl vu:Value}{lo hi:Option Int}{n:Nat}{Q:Int×Int×Nat->Shared->Prop}(hs:s.heap.IsSliceOf sl vl vu .none)(pl:IsPart vl lo)(pu:IsPart vu hi)
  (h:Q (((cF n 0 lo:Nat):Int),1,cF n n hi-cF n 0 lo) s):wpAny (model prog w) A (Builtin.Slice.sliceApplied (.ref sl) (pure (n:Int))) Q E s:=by
 obtain⟨os,hos,hcs,hds⟩:=id hs;unfold Builtin.Slice.sliceApplied Builtin.Slice.sliceFields;refine wpAny_bind (wpAny_bind (wpAny_field hos hds (x:=vl) rfl (wpAny_bind (wpAny_field hos hds (x:=vu) rfl (wpAny_bind (wpAny_field hos hds (x:=.none) rfl (wpAny_pure ?_)))))));refine wpAny_bind (slicePart_none ?_);show wpAny _ _ (if((1:Int) == 0)=true then _ else _) _ _ s;rw[if_neg ∅];refine wpAny_bind (M3 pl (wpAny_bind (M3 pu (wpAny_bind (wpAny_pure ?_)))));show wpAny _ _ (match Builtin.Slice.sliceAdjust lo hi 1 (n:Int)with|(lo,hi)=>pure (lo,(1:Int),Builtin.Slice.slicePlaces lo hi 1)) _ _ s;rw[RU lo hi n];show wpAny _ _ (pure (((cF n 0 lo:Nat):Int),(1:Int),Builtin.Slice.slicePlaces ((cF n 0 lo:Nat):Int) ((cF n n hi:Nat):Int) 1)) _ _ s;rw[RV];exact wpAny_pure h
def RW(xs:Array Value)(i k:Nat):((List.range k).filterMap λ(m:Nat)=>xs[((i:Int)+(m:Int)*1).toNat]?).toArray=((xs.toList.drop i).take k).toArray:=by
 have e:(λ(m:Nat)=>xs[((i:Int)+(m:Int)*1).toNat]?)=λm=>xs[i+m]?:=by
  funext m
  have:((i:Int)+(m:Int)*1).toNat=i+m:=by lk
  rw[this]
 rw[e];have:=pick_run xs i k;rw[List.filterMap_map]at this;have e2:((λx=>xs[x]?) ∘ λx=>i+x)=λm=>xs[i+m]?:=rfl;rw[e2]at this;rw[this]
def RX{t sl:Addr}{items:Array Value}{vl vu:Value}{lo hi:Option Int}{Q:Value->Shared->Prop}(ht:IsTup s.heap t items)(hs:s.heap.IsSliceOf sl vl vu .none)(pl:IsPart vl lo)(pu:IsPart vu hi)
  (hw:¬(cF items.size 0 lo=0/\cF items.size items.size hi=items.size))
  (h:Q (.ref s.heap.objs.size) { s with heap:=s.heap.push { cls:=.type "tuple",data:=.seq ((items.toList.drop (cF items.size 0 lo)).take (cF items.size items.size hi-cF items.size 0 lo)).toArray } })
  (hsz:items.size<=sizeLine):wpAny (model prog w) A (getItem (.ref t) (.ref sl)) Q E s:=by
 have rm:sizeOk (.seq ((items.toList.drop (cF items.size 0 lo)).take (cF items.size items.size hi-cF items.size 0 lo)).toArray):=by
  show((items.toList.drop (cF items.size 0 lo)).take (cF items.size items.size hi-cF items.size 0 lo)).toArray.size<=sizeLine;rw[ZM,Zar,List.length_drop,ZaC];lk
 have hj:cF items.size items.size hi<=items.size:=yK _ _ (ZA _) hi;obtain⟨os,hos,hcs,hds⟩:=id hs;have JL:s.TypeIs (.ref sl) "slice" := ⟨os,hos,hcs⟩;unfold getItem
 try with_reducible refine wpAny_holding ?_
 first|refine wpAny_bind (wpAny_pure ?_)|skip
 refine wpAny_bind (wpAny_sequenceKey ht.typeIs ∅ ?_)
 refine wpAny_bind (wpAny_callSpecial?_slot (name:=Str.ofString "__getitem__") ht.typeIs PyProof.Rows.slot_tuple_getitem
  (wpAny_call_entry PyProof.Rows.slot_tuple_getitem ht.typeIs entry_tuple_getitem ?_ (args_tuple_getitem _ _)))
 show wpAny _ _ (Builtin.Tuple.tupleItemsOf (.ref t) >>= _) _ _ s;refine wpAny_bind (tupleItemsOf_ ht ?_);refine wpAny_bind (wpAny_typeOf JL ?_);rw[if_pos ∅];refine wpAny_bind (M4 hs pl pu ?_);have hno:¬((((cF items.size 0 lo:Nat):Int) == 0 && (1:Int) == 1 && (cF items.size items.size hi-cF items.size 0 lo) == items.size)=true):=by
  intro q;rw[ZV,ZV]at q;have q1:((cF items.size 0 lo:Nat):Int)=0:=eq_of_beq q.1.1;have q2:cF items.size items.size hi-cF items.size 0 lo=items.size:=eq_of_beq q.2;exact hw ⟨by lk,by lk⟩
 show wpAny _ _ (if(((cF items.size 0 lo:Nat):Int) == 0 && (1:Int) == 1 && (cF items.size items.size hi-cF items.size 0 lo) == items.size)=true then _ else _) _ _ s;rw[if_neg hno,RW]
 first
  |exact wpAny_bind (m:=Builtin.Tuple.tupleExact _) (wpAny_newObj_type (wpAny_pure ⟨_,rfl,wpAny_pure h⟩) rm)
  |exact wpAny_bind (m:=Builtin.Tuple.tupleExact _) (wpAny_newObj_type (wpAny_bind (wpAny_pure (wpAny_pure ⟨_,rfl,wpAny_pure h⟩))) rm)
  |exact wpAny_bind (wpAny_bind (m:=Builtin.Tuple.tupleExact _) (wpAny_newObj_type (wpAny_pure (wpAny_pure ⟨_,rfl,wpAny_pure h⟩)) rm))
  |exact wpAny_bind (wpAny_bind (m:=Builtin.Tuple.tupleExact _) (wpAny_newObj_type (wpAny_pure ⟨_,rfl,wpAny_pure h⟩) rm))
end
end HT
namespace L2
open PySem PySem.Spec PyProof.Rows
@[reducible]def TO:=St->Hp->(Option Int->Hp->Prop)->Prop
abbrev PO(X:Cx)(e:Option Expr)(t:TO):Prop :=
 ∀(pins:List (Addr×Obj)) (s:Shared) (σ:St) (H:Hp) (Q:Option Int->Hp->Prop),Inv X pins σ H s->t σ H Q ->
  wpAny (model X.prog X.w) X.A (evalPart e X.env) (λu s'=>∃o H',Inv X pins σ H' s'/\IsPart u o/\Q o H') X.xe s
abbrev rn:TO:=λ_ H Q=>Q none H
abbrev xg(t:TE):TO:=λσ H Q=>t σ H λx H1=>∃i,x=.int i/\Q (some i) H1
def JM{ns:List Int}:∀{us:List Value},Vals (ns.map V.int) us->IntsAre us ns:=by
 induction ns with
 |nil=>intro us r;rw[Zag]at r;cases r;exact .nil
 |cons n ns ih =>
  intro us r;rw[ZT]at r;cases r with
  |cons r1 r2 =>
   obtain⟨t,e⟩:=r1;subst e;exact .cons n t (ih r2)
section
variable {X:Cx}{e:Expr}{te:TE}{lo hi:Option Expr}{tl th:TO}{pos p2:Pos}
def JN:PO X none rn:=by intro pins s σ H Q I h;rw[evalPart_none];exact wpAny_pure ⟨none,H,I,.none,h⟩
def C5(h:PE X e te):PO X (some e) (xg te):=by intro pins s σ H Q I hw;rw[evalPart_some];refine cf (h pins s σ H _ I hw) λu s1 ⟨x,H1,I1,r1,q1⟩=>?_;obtain⟨i,rfl,q⟩:=q1;obtain⟨t,rfl⟩:=r1;exact⟨some i,H1,I1,.int i t,q⟩
abbrev GX(X:Cx)(r:V->Option Int->Option Int->Hp->VK->Prop):Prop :=
 ∀(pins:List (Addr×Obj)) (s:Shared) (σ:St) (H:Hp) (x:V) (v vl vu:Value) (lo hi:Option Int) (sl:Addr) (Q:VK),Inv X pins σ H s->RelV x v->s.heap.IsSliceOf sl vl vu .none->IsPart vl lo->IsPart vu hi->r x lo hi H Q ->
  ∃T id,typeLookup (.type T) "__getitem__" = pure (some (.builtin id))/\s.TypeIs v T/\wpAny (model X.prog X.w) X.A (getItem v (.ref sl)) (EP X pins σ Q) X.xe s
abbrev M5(r:V->Option Int->Option Int->Hp->VK->Prop)(te:TE)(tl th:TO):TE:=λσ H Q=>te σ H λx H1=>tl σ H1 λl H2=>th σ H2 λu H3=>r x l u H3 Q
def GY{r:V->Option Int->Option Int->Hp->VK->Prop}(hr:GX X r)(he:PE X e te)(hl:PO X lo tl)(hu:PO X hi th):PE X (.Subscript e (.Slice lo hi none p2) pos) (M5 r te tl th):=by intro pins s σ H Q I h;refine Subscript_ (cf (he pins s σ H _ I h) λv s1 ⟨x,H1,I1,r1,q1⟩=>?_);refine wpAny_Slice (cf (hl pins s1 σ H1 _ I1 q1) λvl s2 ⟨l,H2,I2,pl,q2⟩=>cf (hu pins s2 σ H2 _ I2 q2) λvu s3 ⟨u,H3,I3,pu,q3⟩=>?_);rw[evalPart_none];refine wpAny_pure ?_;have I4:Inv X pins σ H3 { s3 with heap:=s3.heap.push { cls:=.type "slice",data:=.fields #[vl,vu,.none] } }:=I3.kept (t':=s3.toks) λb ob q=>ZD _ q;obtain⟨T,id,hT,ht,hg⟩:=hr pins { s3 with heap:=s3.heap.push { cls:=.type "slice",data:=.fields #[vl,vu,.none] } } σ H3 x v vl vu l u s3.heap.objs.size Q I4 r1 (Heap.IsSliceOf.new ..) pl pu q3;show wpAny (model X.prog X.w) X.A (subscriptTail e (.Slice lo hi none p2) v (.ref s3.heap.objs.size)) (EP X pins σ Q) X.xe { s3 with heap:=s3.heap.push { cls:=.type "slice",data:=.fields #[vl,vu,.none] } };exact tail_any (ops:=[.ref s3.heap.objs.size,v]) ht hT hg (by with_unfolding_all rfl)
abbrev m8(xs:List V)(lo hi:Option Int):List V:=(xs.drop (HT.cF xs.length 0 lo)).take (HT.cF xs.length xs.length hi-HT.cF xs.length 0 lo)
def M6(xs:List V)(lo hi:Option Int):(m8 xs lo hi).length<=xs.length:=by unfold m8;rw[Zar,List.length_drop];lk
abbrev JO(K:Zfr):V->Option Int->Option Int->Hp->VK->Prop:=λx lo hi H Q=>∃a xs,x=.ref a/\d9 K H a xs /\
 ¬(HT.cF xs.length 0 lo=0/\HT.cF xs.length xs.length hi=xs.length)/\∀p,H p=none->Q (.ref p) (upd H p (.tup (m8 xs lo hi)))
def yL:GX X (JO X.K):=by
 intro pins s σ H x v vl vu lo hi sl Q I rx hs pl pu h;obtain⟨a,xs,rfl,hx,hw,q⟩:=h;cases rx;obtain⟨its,r,ht,hz⟩:=I.tuple hx;have hlen:its.toArray.size=xs.length:=by rw[ZM];exact r.length.symm
 refine⟨"tuple",_,PyProof.Rows.slot_tuple_getitem.lookup,ht.typeIs,?_⟩;refine HT.RX ht hs pl pu (by rw[hlen];exact hw) ?_ (by rw[hlen];exact hz);rw[hlen];refine⟨.ref s.heap.objs.size,_,I.laid (t':=s.toks) (o:=.tup (m8 xs lo hi)) (λb ob q=>ZD _ q) (ZA _) ?_,rfl,q _ (I.hok.fresh (ZA _))⟩;exact⟨Z3 (M6 xs lo hi) hz,_,(r.drop (HT.cF xs.length 0 lo)).take (HT.cF xs.length xs.length hi-HT.cF xs.length 0 lo),oB.new _ _⟩
abbrev C6(K:Zfr):R2:=λx y H Q=>∃a b xs ys,x=.ref a/\y=.ref b/\d9 K H a xs/\d9 K H b ys/\xs≠[]/\xs.length+ys.length<=sizeLine /\
 (ys=[]->Q (.ref a) H)/\(ys≠[]->∀p,H p=none->Q (.ref p) (upd H p (.tup (xs ++ ys))))
def Vals.mM{xs:List V}{us:List Value}(r:Vals xs us):us=[]↔xs=[]:=by
 cases r with
 |nil=>simp
 |cons _ _=>simp
def RY:kL X (binaryOp .Add) (C6 X.K):=by intro pins s σ H x y v u Q I rx ry h;obtain⟨a,b,xs,ys,rfl,rfl,ha,hb,hx,hz,q1,q2⟩:=h;cases rx;cases ry;obtain⟨its,r1,p1,_⟩:=I.tuple ha;obtain⟨its2,r2,p2,_⟩:=I.tuple hb;refine HT.RS p1 p2 (λz=>hx (r1.mM.mp z)) (λz=>⟨.ref a,H,I,rfl,q1 (r2.mM.mp z)⟩) (λz=>?_) (by rw[<- r1.length,<- r2.length];exact hz);refine⟨.ref s.heap.objs.size,_,I.laid (t':=s.toks) (o:=.tup (xs ++ ys)) (λb ob q=>ZD _ q) (ZA _) ?_,rfl,q2 (λw=>z (r2.mM.mpr w)) _ (I.hok.fresh (ZA _))⟩;exact⟨by rw[ZH];exact hz,_,r1.append r2,oB.new _ _⟩
end
abbrev mO(n:Nat)(i:Int):Option Nat:=if 0<=i then(if i<n then some i.toNat else none)else if -(n:Int)<=i then some (i+n).toNat else none
abbrev fB{α:Type}(xs:List α)(i:Int):Option α:=(mO xs.length i).bind λj=>xs[j]?
def JP{n:Nat}{i:Int}{j:Nat}(h:mO n i=some j):seqIndex? i n=some j/\j<n/\-(n:Int)<=i/\i<n:=by unfold mO at h;by_cases h0:0<=i;rw[if_pos h0]at h;by_cases h1:i<n;rw[if_pos h1]at h;have e:i.toNat=j:=ZN h;exact⟨by rw[seqIndex_of h0 h1,e],by lk,by lk,h1⟩;rw[if_neg h1]at h;cases h;rw[if_neg h0]at h;by_cases h1:-(n:Int)<=i;rw[if_pos h1]at h;have e:(i+n).toNat=j:=ZN h;exact⟨by rw[seqIndex_neg ⋯ h1,e],by lk,h1,by lk⟩;rw[if_neg h1]at h;cases h
def M7{α:Type}{xs:List α}{i:Int}{v:α}(h:fB xs i=some v):∃j,seqIndex? i xs.length=some j/\xs[j]?=some v/\j<xs.length/\-(xs.length:Int)<=i/\i<xs.length:=by
 unfold fB at h;cases e:mO xs.length i with
 |none=>rw[e]at h;cases h
 |some j =>
  rw[e]at h;obtain⟨h1,h2,h3,h4⟩:=JP e;exact⟨j,h1,h,h2,h3,h4⟩
def BL{α:Type}{xs:List α}{j:Nat}{v:α}(h:xs[j]?=some v):fB xs (j:Int)=some v:=by
 have hj:j<xs.length:=(Zz.mp h).1;have e:mO xs.length (j:Int)=some j:=by
  unfold mO;rw[if_pos ⋯,if_pos ⋯];simp
 unfold fB;rw[e];exact h
abbrev vJ(b:Expr):Prop:=∀o i,subscripted b false o i=operate [o,i] (getItem o i)
abbrev C7(X:Cx)(r:R2):Prop :=
 ∀(value slice:Expr) (pins:List (Addr×Obj)) (s:Shared) (σ:St) (H:Hp) (x y:V) (v u:Value) (Q:VK),Inv X pins σ H s->RelV x v->RelV y u->r x y H Q ->
  subscripted slice false v u=operate [v,u] (getItem v u)->wpAny (model X.prog X.w) X.A (subscriptTail value slice v u) (EP X pins σ Q) X.xe s
abbrev xh(X:Cx)(id:String)(r:V->List V->Hp->VK->Prop):Prop :=
 ∀(pins:List (Addr×Obj)) (s:Shared) (σ:St) (H:Hp) (x:V) (xs:List V) (v:Value) (us:List Value) (Q:VK),Inv X pins σ H s->RelV x v->Vals xs us->r x xs H Q ->
  wpAny (model X.prog X.w) X.A (call (.builtin id) (v :: us)) (EP X pins σ Q) X.xe s
section
variable {X:Cx}{a b:Expr}{ta tb:TE}{pos:Pos}
def C8{r:R2}(hr:C7 X r)(ha:PE X a ta)(hb:PE X b tb)(hs:vJ b):PE X (.Subscript a b pos) (CW r ta tb):=by intro pins s σ H Q I h;exact Subscript_ (yC ha hb I h λv u s2 x y H2 I2 rx ry q=>hr a b pins s2 σ H2 x y v u Q I2 rx ry q (hs _ _))
abbrev yM(K:Zfr):R2:=λx y H Q=>∃p xs i v,x=.ref p/\y=.int i/\jM K H p xs/\fB xs i=some v/\Q v H
abbrev yN(K:Zfr):R2:=λx y H Q=>∃p xs i v,x=.ref p/\y=.int i/\d9 K H p xs/\fB xs i=some v/\Q v H
def lA:C7 X (yM X.K):=by
 intro value slice pins s σ H x y v u Q I rx ry h hs;obtain⟨p,xs,i,z,rfl,rfl,hq,he,q⟩:=h;cases rx;obtain⟨t,rfl⟩:=ry;obtain⟨its,r,pl,hz⟩:=I.list hq;obtain⟨j,h1,h2,h3,h4,h5⟩:=M7 he;obtain⟨w,ew,rw'⟩:=r.get h2;have hl:=r.length;have hn:=oN;have fin:EP X pins σ Q w s:=⟨z,H,I,rw',q⟩;by_cases h0:0<=i;have hj:i.toNat=j:=by
  rw[seqIndex_of h0 h5]at h1;exact ZN h1
 exact item_listR pl.isList h0 ⋯ (by rw[hj];simpa using ew) fin hs;have hj:(i + (its.toArray.size:Int)).toNat=j:=by
  rw[seqIndex_neg ⋯ h4]at h1;rw[ZM,<- hl];exact ZN h1
 exact subscriptTail_builtinR (x:=w) pl.isList.typeIs slot_list_getitem.lookup
  (wpAny_getItem_list_neg (Q:=λr s'=>r=w/\EP X pins σ Q r s') pl.isList ⋯ (by rw[ZM]<;>lk) ⋯ (by rw[hj];simpa using ew) ⟨rfl,fin⟩) hs
def du:C7 X (yN X.K):=by
 intro value slice pins s σ H x y v u Q I rx ry h hs;obtain⟨p,xs,i,z,rfl,rfl,hq,he,q⟩:=h;cases rx;obtain⟨t,rfl⟩:=ry;obtain⟨its,r,pl,hz⟩:=I.tuple hq;obtain⟨j,h1,h2,h3,h4,h5⟩:=M7 he;obtain⟨w,ew,rw'⟩:=r.get h2;have hl:=r.length;have hn:=oN;have fin:EP X pins σ Q w s:=⟨z,H,I,rw',q⟩;exact subscriptTail_builtinR (x:=w) pl.typeIs slot_tuple_getitem.lookup
  (getItem_tuple (j:=j) (Q:=λr s'=>r=w/\EP X pins σ Q r s') pl ⋯ ⋯ (by rw[ZM,<- hl];exact h1) (by simpa using ew) ⟨rfl,fin⟩) hs
def RZ(its:List Value)(n j:Nat)(u:Value):Obj.mapSeq (·.setIfInBounds j u) { cls:=.type "list",data:=.seq its.toArray n }={ cls:=.type "list",data:=.seq (its.set j u).toArray n }:=by simp[Obj.mapSeq]
def Inv.lst{pins:List (Addr×Obj)}{σ:St}{H:Hp}{s:Shared}{p:Addr}{xs:List V}(I:Inv X pins σ H s)(h:H p=some (.lst xs)):
  ∃(its:List Value) (n:Nat),Vals xs its/\s.heap.get? p=some { cls:=.type "list",data:=.seq its.toArray n }/\xs.length<=sizeLine:=by
 obtain⟨z,its,n,r,e⟩:=I.hok p _ h;exact⟨its,n,r,e,z⟩
def Inv.yO{pins:List (Addr×Obj)}{σ:St}{H:Hp}{s:Shared}{p:Addr}{xs ys:List V}{its its':List Value}{n n':Nat}{f:Obj->Obj}(I:Inv X pins σ H s)(h:H p=some (.lst xs))
  (ho:s.heap.get? p=some { cls:=.type "list",data:=.seq its.toArray n }) (hf:f { cls:=.type "list",data:=.seq its.toArray n }={ cls:=.type "list",data:=.seq its'.toArray n' }) (r:Vals ys its') (hz:ys.length<=sizeLine) (t:Nat) :
  Inv X pins σ (upd H p (.lst ys)) { s with heap:=s.heap.update p f,toks:=t }:=by
 have e:(s.heap.update p f).get? p=some { cls:=.type "list",data:=.seq its'.toArray n' }:=by
  rw[Zak f ho (by rw[hf]<;>rfl),hf]
 refine I.write (x:=p) (e:=p) (by rw[h];trivial) (.inl rfl) (λb u hb q=>(ZZ _ _ (Ne.symm hb)).trans q) ⟨_,e⟩ ?_;exact⟨hz,its',n',r,e⟩
abbrev xi:V->V->V->Hp->(Hp->Prop)->Prop:=λo i v H Q=>∃p xs k j,o=.ref p/\i=.int k/\H p=some (.lst xs)/\mO xs.length k=some j/\Q (upd H p (.lst (xs.set j v)))
def BM:CM X xi:=by
 intro pins s σ H o i v ov iv u Q I ro ri rv h;obtain⟨p,xs,k,j,rfl,rfl,hp,hj,q⟩:=h;cases ro;obtain⟨t,rfl⟩:=ri;obtain⟨its,n,r,ho,hz⟩:=I.lst hp;obtain⟨h1,h2,h3,h4⟩:=JP hj;have hl:=r.length;have hn:=oN;have I':Inv X pins σ (upd H p (.lst (xs.set j v))) { s with heap:=s.heap.update p (Obj.mapSeq (·.setIfInBounds j u)) } :=
  I.yO hp ho (RZ its n j u) (r.set rv j) (by rw[Zae];exact hz) s.toks
 by_cases h0:0<=k;have hk:k.toNat=j:=by
  rw[seqIndex_of h0 h4]at h1;exact ZN h1
 exact PySem.W.ki_setAt ho h0 ⋯ (by rw[ZM,<- hl];exact h4) (by rw[hk];exact⟨_,I',q⟩);have hk:(k + (its.toArray.size:Int)).toNat=j:=by
  rw[seqIndex_neg ⋯ h3]at h1;rw[ZM,<- hl];exact ZN h1
 exact PySem.W.ki_setBack ho ⋯ (by rw[ZM,<- hl];exact h3) ⋯ (by rw[hk];exact⟨_,I',q⟩)
def R0(lo hi:Option Int)(n:Nat):(sliceBounds lo hi none n).1=((HT.cF n 0 lo:Nat):Int)/\(sliceBounds lo hi none n).2.1=((HT.cF n n hi:Nat):Int)/\(sliceBounds lo hi none n).2.2=1:=by
 refine⟨?_,?_,rfl⟩;cases lo with
 |none=>simp[sliceBounds,HT.cF]
 |some i =>
  simp only[sliceBounds,HT.cF,Option.getD_none,show(1:Int) > 0 by decide,if_true];by_cases h:i<0;simp only[h,if_true]<;>lk;simp only[h,if_false]<;>lk
 cases hi with
 |none=>simp[sliceBounds,HT.cF]
 |some i =>
  simp only[sliceBounds,HT.cF,Option.getD_none,show(1:Int) > 0 by decide,if_true];by_cases h:i<0;simp only[h,if_true]<;>lk;simp only[h,if_false]<;>lk
def R1(its:List Value)(lo hi:Option Int):slicePick its.toArray lo hi none=((its.drop (HT.cF its.length 0 lo)).take (HT.cF its.length its.length hi-HT.cF its.length 0 lo)).toArray:=by obtain⟨h1,h2,h3⟩:=R0 lo hi its.toArray.size;unfold slicePick;rw[h1,h2,h3];simp only[sliceRange_one,pick_run,ZM]<;>rfl
abbrev C9(K:Zfr):V->Option Int->Option Int->Hp->VK->Prop:=λx lo hi H Q=>∃a xs,x=.ref a/\jM K H a xs/\∀p,H p=none->Q (.ref p) (upd H p (.lst (m8 xs lo hi)))
def JQ:GX X (C9 X.K):=by intro pins s σ H x v vl vu lo hi sl Q I rx hs pl pu h;obtain⟨a,xs,rfl,hx,q⟩:=h;cases rx;obtain⟨its,r,ht,hz⟩:=I.list hx;have hlen:=r.length;refine⟨"list",_,slot_list_getitem.lookup,ht.isList.typeIs,?_⟩;refine wpAny_getItem_list_slice ht.isList hs pl pu .none (by simp) ?_ (by rw[ZM]<;>lk);rw[R1,<- hlen];refine⟨.ref s.heap.objs.size,_,I.laid (t':=s.toks) (o:=.lst (m8 xs lo hi)) (λb ob q=>ZD _ q) (ZA _) ?_,rfl,q _ (I.hok.fresh (ZA _))⟩;exact⟨Z3 (M6 xs lo hi) hz,_,0,(r.drop (HT.cF xs.length 0 lo)).take (HT.cF xs.length xs.length hi-HT.cF xs.length 0 lo),ZX _ rfl⟩
abbrev kN:V->Bool
 |.non=>true
 |.bl _=>true
 |.int _=>true
 |.str _=>true
 |_=>false
abbrev xj:V->V->Bool
 |.non,.non=>true
 |.bl a,.bl b=>a == b
 |.bl a,.int b=>(if a then 1 else 0) == b
 |.int a,.bl b=>a == (if b then 1 else 0)
 |.int a,.int b=>a == b
 |.str a,.str b=>a == b
 |_,_=>false
def yP{A:Around}{s:Shared}{y x:V}{u v:Value}(ry:RelV y u)(rx:RelV x v)(fy:kN y=true)(fx:kN x=true):SeqAt.EqAt A s u v (xj y x):=by
 cases y with
 |non =>
  cases ry;cases x with
  |non=>cases rx;exact SeqAt.EqAt.same _
  |bl b=>cases rx;exact SeqAt.EqAt.none_bool b
  |int b=>obtain⟨t,rfl⟩:=rx;exact SeqAt.EqAt.none_int b t
  |str b=>obtain⟨t,rfl⟩:=rx;exact SeqAt.EqAt.none_str b t
  |_=>exact absurd (show false=true from fx) ZC
 |bl a =>
  cases ry;cases x with
  |non=>cases rx;exact SeqAt.EqAt.bool_none a
  |bl b=>cases rx;exact SeqAt.EqAt.bool_bool a b
  |int b=>obtain⟨t,rfl⟩:=rx;exact SeqAt.EqAt.bool_int a b t
  |str b=>obtain⟨t,rfl⟩:=rx;exact SeqAt.EqAt.bool_str a b t
  |_=>exact absurd (show false=true from fx) ZC
 |int a =>
  obtain⟨t',rfl⟩:=ry;cases x with
  |non=>cases rx;exact SeqAt.EqAt.int_none a t'
  |bl b=>cases rx;exact SeqAt.EqAt.int_bool a t' b
  |int b=>obtain⟨t,rfl⟩:=rx;exact SeqAt.EqAt.int_int a t' b t
  |str b=>obtain⟨t,rfl⟩:=rx;exact SeqAt.EqAt.int_str a t' b t
  |_=>exact absurd (show false=true from fx) ZC
 |str a =>
  obtain⟨t',rfl⟩:=ry;cases x with
  |non=>cases rx;exact SeqAt.EqAt.str_none a t'
  |bl b=>cases rx;exact SeqAt.EqAt.str_bool a t' b
  |int b=>obtain⟨t,rfl⟩:=rx;exact SeqAt.EqAt.str_int a t' b t
  |str b=>obtain⟨t,rfl⟩:=rx;exact SeqAt.EqAt.str_str a t' b t
  |_=>exact absurd (show false=true from fx) ZC
 |_=>exact absurd (show false=true from fy) ZC
abbrev vK(x:V)(u:Value):Bool:=match u with
 |.none=>xj .non x
 |.bool b=>xj (.bl b) x
 |.int i _=>xj (.int i) x
 |.str z _=>xj (.str z) x
 |_=>false
def M8{x y:V}{u:Value}(r:RelV y u)(f:kN y=true):vK x u=xj y x:=by
 cases y with
 |non=>cases r;rfl
 |bl b=>cases r;rfl
 |int i=>obtain⟨t,rfl⟩:=r;rfl
 |str z=>obtain⟨t,rfl⟩:=r;rfl
 |_=>exact absurd (show false=true from f) ZC
def JR{x:V}:∀{xs:List V} {us:List Value},Vals xs us->xs.all kN=true->us.any (vK x)=xs.any λy=>xj y x
 |_,_,.nil,_=>rfl
 |y :: xs,u :: us,.cons r t,f=>by
  rw[List.all_cons,ZV]at f;rw[Zax,Zax,M8 r f.1,JR t f.2]
def JS{A:Around}{s:Shared}{x:V}{v:Value}(rx:RelV x v)(fx:kN x=true):∀{xs:List V} {us:List Value},Vals xs us->xs.all kN=true->∀u∈us,SeqAt.EqAt A s u v (vK x u)
 |_,_,.nil,_=>λu hu=>by cases hu
 |y :: xs,u :: us,.cons r t,f=>λu' hu=>by
  rw[List.all_cons,ZV]at f;rcases ZY.mp hu with rfl|hu
  rw[M8 r f.1];exact yP r rx f.1 fx;exact JS rx fx t f.2 u' hu
abbrev xk(x:V)(xs:List V):Bool:=xs.any λy=>xj y x
abbrev JT(K:Zfr)(neg:Bool):R2:=λx y H Q=>∃p xs,y=.ref p/\(jM K H p xs\/d9 K H p xs)/\kN x=true/\xs.all kN=true/\Q (.bl (if neg then !xk x xs else xk x xs)) H
def GZ:kL X (compareOp .NotIn) (JT X.K true):=by
 intro pins s σ H x y v u Q I rx ry h;obtain⟨p,xs,rfl,hq,fx,fs,q⟩:=h;cases ry;rcases hq with hq|hq
 obtain⟨its,r,pl,hz⟩:=I.list hq;refine SeqAt.notIn_listAt (vK x) pl.isList (λw hw=>JS rx fx r fs w (by simpa using hw)) ⟨.bl _,H,I,rfl,?_⟩;rw[show its.toArray.any (vK x)=its.any (vK x) by simp,JR r fs];exact q;obtain⟨its,r,pl,hz⟩:=I.tuple hq;refine SeqAt.notIn_tupleAt (vK x) pl (λw hw=>JS rx fx r fs w (by simpa using hw)) ⟨.bl _,H,I,rfl,?_⟩;rw[show its.toArray.any (vK x)=its.any (vK x) by simp,JR r fs];exact q
def jE:fe X (.builtin "len") (λxs H Q=>∃p ys,xs=[.ref p]/\(jM X.K H p ys\/d9 X.K H p ys)/\Q (.int ys.length) H):=by
 intro pins s σ H xs us Q I r h;obtain⟨p,ys,rfl,hq,q⟩:=h;obtain⟨u,rfl,rx⟩:=vals1 r;cases rx;have hn:=oN;rcases hq with hq|hq
 obtain⟨its,r',pl,hz⟩:=I.list hq;have hlen:=r'.length;exact Calls.call_len_list pl.isList (by simp only[ZM]<;>lk) ⟨.int ys.length,H,I.tok _,⟨s.toks+1,by rw[ZM,hlen]⟩,q⟩;obtain⟨its,r',pl,hz⟩:=I.tuple hq;have hlen:=r'.length;exact len_tuple pl (by simp only[ZM]<;>lk) ⟨.int ys.length,H,I.tok _,⟨s.toks+1,by rw[ZM,hlen]⟩,q⟩
def JU:fe X (.type "list") (λxs H Q=>∃p ys,xs=[.ref p]/\(jM X.K H p ys\/d9 X.K H p ys)/\∀l,H l=none->Q (.ref l) (upd H l (.lst ys))):=by
 intro pins s σ H xs us Q I r h;obtain⟨p,ys,rfl,hq,q⟩:=h;obtain⟨u,rfl,rx⟩:=vals1 r;cases rx;have fin:∀ (its:List Value),Vals ys its->ys.length<=sizeLine->∀ (h':Heap) (c':Nat),(∀ b o',s.heap.get? b=some o'->h'.get? b=some o') ->
   h'.get? s.heap.objs.size=some { cls:=.type "list",dict:=none,data:=.seq its.toArray c',slots:=#[] }->EP X pins σ Q (.ref s.heap.objs.size) { s with heap:=h' }:=λits r' hz h' c' kp e =>
  ⟨.ref s.heap.objs.size,_,I.laid (t':=s.toks) kp (ZA _) (show bD X.prog X.w _ h' _ (.lst ys)from⟨hz,its,c',r',e⟩),rfl,q _ (I.hok.fresh (ZA _))⟩
 rcases hq with hq|hq
 obtain⟨its,r',pl,hz⟩:=I.list hq;have hlen:=r'.length;obtain⟨o,ho,hc,n,hd⟩:=pl.isList;exact call_list_seq p (.inl rfl) ho hc hd (λh' c' kp e=>fin its r' hz h' c' kp e) (by simp only[ZM]<;>lk);obtain⟨its,r',pl,hz⟩:=I.tuple hq;have hlen:=r'.length;obtain⟨o,ho,hc,n,hd⟩:=pl;exact call_list_seq p (.inr rfl) ho hc hd (λh' c' kp e=>fin its r' hz h' c' kp e) (by simp only[ZM]<;>lk)
def n8:fe X (.type "tuple") (λxs H Q=>∃p ys,xs=[.ref p]/\((jM X.K H p ys/\∀l,H l=none->Q (.ref l) (upd H l (.tup ys)))\/(d9 X.K H p ys/\Q (.ref p) H))):=by
 intro pins s σ H xs us Q I r h;obtain⟨p,ys,rfl,h⟩:=h;obtain⟨u,rfl,rx⟩:=vals1 r;cases rx;rcases h with⟨hq,q⟩|⟨hq,q⟩
 obtain⟨its,r',pl,hz⟩:=I.list hq;have hlen:=r'.length;refine call_tuple_list pl.isList (λh' kp=>?_) (by simp only[ZM]<;>lk);have I1:Inv X pins σ H { s with heap:=h' }:=I.kept (t':=s.toks) kp;have I2:Inv X pins σ (upd H h'.objs.size (.tup ys)) { s with heap:=h'.push { cls:=.type "tuple",data:=.seq its.toArray } } :=
  I1.laid (t':=s.toks) (λb o e=>ZD _ e) (ZA _) (show bD X.prog X.w _ _ _ (.tup ys)from⟨hz,its,r',oB.new _ _⟩)
 exact⟨.ref h'.objs.size,_,I2,rfl,q _ (I1.hok.fresh (ZA _))⟩;obtain⟨its,r',pl,hz⟩:=I.tuple hq;exact call_tuple_same pl ⟨.ref p,H,I,rfl,q⟩
abbrev G0(K:Zfr)(T:String)(x:V)(H:Hp):Prop:=match x with
 |.str _=>T="str"
 |.int _=>T="int"
 | .ref p=>(T="list" /\ ∃ xs,jM K H p xs)\/(T="tuple" /\ ∃ xs,d9 K H p xs) \/
   (T="dict" /\ ((∃kvs,H p=some (.dK kvs))\/∃kvs,H p=some (.dT kvs)))\/(T="set" /\ ∃S n,H p=some (.set S n))
 |_=>False
def M9{pins:List (Addr×Obj)}{σ:St}{H:Hp}{s:Shared}{T:String}{x:V}{v:Value}(I:Inv X pins σ H s)(r:RelV x v)(ty:G0 X.K T x H):
  s.TypeIs v T/\∀a,v=.ref a->∃ob,s.heap.get? a=some ob/\ob.dict=none:=by
 cases x with
 |str z =>
  obtain⟨t,rfl⟩:=r;cases(show T="str" from ty);exact⟨typeIs_str s z t,λ_ e=>nomatch e⟩
 |int i =>
  obtain⟨t,rfl⟩:=r;cases(show T="int" from ty);exact⟨typeIs_int s i t,λ_ e=>nomatch e⟩
 |ref p =>
  cases r;rcases ty with⟨rfl,xs,hq⟩|⟨rfl,xs,hq⟩|⟨rfl,hk⟩|⟨rfl,S,n,hk⟩
  obtain⟨its,_,pl,_⟩:=I.list hq;refine⟨pl.isList.typeIs,λa e=>?_⟩;cases e;obtain⟨o,n,e,c,hd,_⟩:=pl;exact⟨o,e,hd⟩;obtain⟨its,_,⟨o,e,c,d,_⟩,_⟩:=I.oK hq;refine⟨⟨o,e,c⟩,λa e2=>?_⟩;cases e2;exact⟨o,e,d⟩;have z:∃ o,s.heap.get? p=some o/\o.ExactDict:=by
   rcases hk with⟨kvs,hk⟩|⟨kvs,hk⟩
   obtain⟨_,_,_,_,o,_,_,e,ex,_⟩:=I.hok p _ hk;exact⟨o,e,ex⟩;obtain⟨_,_,_,_,o,_,_,e,ex,_⟩:=I.hok p _ hk;exact⟨o,e,ex⟩
  obtain⟨o,e,ex⟩:=z;refine⟨⟨o,e,ex.1⟩,λa e2=>?_⟩;cases e2;exact⟨o,e,ex.2.1⟩;obtain⟨o,_,_,_,e,ex,_⟩:=I.hok p _ hk;refine⟨⟨o,e,ex.1⟩,λa e2=>?_⟩;cases e2;exact⟨o,e,ex.2.1⟩
 |_=>exact False.elim ty
abbrev Dc(K:Zfr)(T:String)(r:V->List V->Hp->VK->Prop)(to:TE):TE:=λσ H Q=>to σ H λx H1=>G0 K T x H1/\r x [] H1 Q
abbrev JV(K:Zfr)(T:String)(r:V->List V->Hp->VK->Prop)(to:TE)(t:TA):TE:=λσ H Q=>to σ H λx H1=>G0 K T x H1/\t σ H1 λxs H2=>r x xs H2 Q
variable {o e:Expr}{es:List Expr}{to:TE}{t:TA}{name:Str}{apos cpos:Pos}{T id:String}{r:V->List V->Hp->VK->Prop}
def yQ(pa:PlainAttrs T)(slot:Slot T name id)(hty:typeOf (.builtin id)=pure (.type "method_descriptor"))(hm:xh X id r)(ho:PE X o to)
  (hbase:attributeBase o name X.env (eval o X.env)=eval o X.env:=by rfl) (hline:(apos.endLine == cpos.line)=true:=by rfl):PE X (.Call (.Attribute o name apos) [] [] cpos) (Dc X.K T r to):=by
 intro pins s σ H Q I h;refine wpAny_Call_method0_late hbase hline (cf (ho pins s σ H _ I h) λv s1 ⟨x,H1,I1,r1,ty,q1⟩=>?_);obtain⟨h1,h2⟩:=M9 I1 r1 ty;exact⟨T,id,pa,slot,hty,h1,h2,Calls.callWith_builtin rfl (PySem.evalArgs_none (hm pins s1 σ H1 x [] v [] Q I1 r1 .nil q1))⟩
def nF(pa:PlainAttrs T)(slot:Slot T name id)(hty:typeOf (.builtin id)=pure (.type "method_descriptor"))(hm:xh X id r)(ho:PE X o to)(ha:PA X (e :: es) t)
  (hbase:attributeBase o name X.env (eval o X.env)=eval o X.env:=by rfl)
  (hfew:((backTo cpos (starEach (e :: es) X.env)).all (λx=>!x.1) && (backToKw cpos (keywordEach [] X.env)).all (λx=>x.1.isSome)
   && decide ((e :: es).length+([]:List Keyword).length+(if([]:List Keyword).isEmpty then 0 else 1)<30))=true:=by rfl)
  (hline:(apos.endLine == cpos.line)=true:=by rfl) (hs:starEach (e :: es) X.env=(false,eval e X.env) :: starEach es X.env:=by rfl) (hplain:(backTo cpos (starEach es X.env)).any (·.1)=false:=by rfl) :
  PE X (.Call (.Attribute o name apos) (e :: es) [] cpos) (JV X.K T r to t):=by
 intro pins s σ H Q I h;refine wpAny_Call_method_late hbase hfew hline rfl (cf (ho pins s σ H _ I h) λv s1 ⟨x,H1,I1,r1,ty,q1⟩=>?_);obtain⟨h1,h2⟩:=M9 I1 r1 ty;refine⟨T,id,pa,slot,hty,h1,h2,?_⟩;have hA:=ha cpos pins s1 σ H1 _ I1 q1;rw[hs]at hA ⊢;refine Calls.callWith_builtin (by show(false || (backTo cpos (starEach es X.env)).any (·.1))=false;rw[hplain]<;>rfl) (Calls.evalArgs_plain ?_);exact cf hA λus s2 ⟨vs,H2,I2,r2,q2⟩=>hm pins s2 σ H2 x vs v us Q I2 r1 r2 q2
end
abbrev JW(X:Cx)(id:String)(r:V->List V->Hp->VK->Prop):Prop :=
 ∀(pins:List (Addr×Obj)) (s:Shared) (σ:St) (H:Hp) (x:V) (xs:List V) (v:Value) (us:List Value) (Q:VK),Inv X pins σ H s->RelV x v->Vals xs us->r x xs H Q ->
  wpAny (model X.prog X.w) X.A (call (.builtin id) (v :: us)) (EP X pins σ Q) X.xe s
def Vals.one:∀{x:V} {us:List Value},Vals [x] us->∃u,us=[u]/\RelV x u
 |_,_,.cons r .nil=>⟨_,rfl,r⟩
def Vals.zero:∀{us:List Value},Vals [] us->us=[]
 |_,.nil=>rfl
def Vals.dropLast{xs:List V}{us:List Value}(h:Vals xs us):Vals xs.dropLast us.dropLast:=by
 induction h with
 |nil=>exact .nil
 |cons r t ih =>
  cases t with
  |nil=>exact .nil
  |cons q t'=>exact .cons r ih
def Vals.eraseIdx:∀{xs:List V} {us:List Value} (i:Nat),Vals xs us->Vals (xs.eraseIdx i) (us.eraseIdx i)
 |_,_,_,.nil=>.nil
 |_,_,0,.cons _ t=>t
 |_,_,i+1,.cons r t=>.cons r (Vals.eraseIdx i t)
def Vals.rep{xs:List V}{us:List Value}(h:Vals xs us):∀k:Nat,Vals (List.replicate k xs).flatten (List.replicate k us).flatten
 |0=>.nil
 |k+1=>by
  rw[Zan,Zan,ZaW,ZaW];exact Vals.append h (Vals.rep h k)
def R3{α:Type}(l:List α):l.eraseIdx (l.length-1)=l.dropLast:=by
 induction l with
 |nil=>rfl
 |cons a r ih =>
  cases r with
  |nil=>rfl
  |cons b r =>
   have e:(a :: b :: r).length-1=((b :: r).length-1)+1:=by
    have h1:(a :: b :: r).length=r.length+2:=rfl;have h2:(b :: r).length=r.length+1:=rfl;lk
   rw[e,List.eraseIdx_cons_succ,ih]
   all_goals rfl
def Na{α:Type}:∀(l:List α) (i:Nat),(l.eraseIdx i).length<=l.length
 |[],_=>ZA _
 |_ :: _,0=>ZaJ _
 |_ :: r,i+1=>Nat.succ_le_succ (Na r i)
def Nb(its:List Value):∀(k:Nat) (acc:List Value),
  List.foldl (λx1 x2=>x1 ++ x2) acc.toArray (List.replicate k its.toArray)=(acc ++ (List.replicate k its).flatten).toArray
 |0,acc=>by simp
 |k+1,acc=>by
  have e:acc.toArray ++ its.toArray=(acc ++ its).toArray:=by simp
  have e2:(acc ++ its) ++ (List.replicate k its).flatten=acc ++ (List.replicate (k+1) its).flatten:=by
   rw[Zan,ZaW,Zba]
  rw[<- e2,<- Nb its k (acc ++ its),<- e,Zan,List.foldl_cons]
section
variable {X:Cx}{pins:List (Addr×Obj)}{σ:St}{H:Hp}{s:Shared}{l b:Addr}{xs ys zs:List V}
def Inv.yR{its its':List Value}{n:Nat}{f:Array Value->Array Value}{t':Nat}(I:Inv X pins σ H s)(hH:H l=some (.lst xs))
  (e:s.heap.get? l=some { cls:=.type "list",data:=.seq its.toArray n }) (hf:f its.toArray=its'.toArray) (hv:Vals ys its') (hz:ys.length<=sizeLine) :
  Inv X pins σ (upd H l (.lst ys)) { s with heap:=s.heap.update l (Obj.mapSeq f),toks:=t' }:=by
 have q:=PySem.IsL.update e f;rw[hf]at q;refine I.write (x:=l) (e:=l) (by rw[hH];exact trivial) (.inl rfl) (λb' u hb hu=>(ZZ s.heap (Obj.mapSeq f) (Ne.symm hb)).trans hu) ⟨_,q⟩ ?_;exact⟨hz,its',_,hv,q⟩
def Inv.Dd{its:List Value}{t':Nat}(I:Inv X pins σ H s)(hv:Vals ys its)(hz:ys.length<=sizeLine):
  Inv X pins σ (upd H s.heap.objs.size (.lst ys)) { s with heap:=s.heap.push { cls:=.type "list",data:=.seq its.toArray },toks:=t' } :=
 I.laid (λ_ _ q=>ZD _ q) (ZA _) ⟨hz,its,0,hv,ZX _ rfl⟩
def Inv.fresh(I:Inv X pins σ H s):H s.heap.objs.size=none:=I.hok.fresh (ZA _)
def Inv.sr(I:Inv X pins σ H s)(hH:H l=some (.lst xs)):xs.length<=sizeLine/\∃(its:List Value) (n:Nat),Vals xs its/\xs.length=its.length/\s.heap.get? l=some { cls:=.type "list",data:=.seq its.toArray n }:=by obtain⟨z,its,n,r,e⟩:=I.hok l _ hH;exact⟨z,its,n,r,r.length,e⟩
def tK{n:Nat}(h:n<=sizeLine):Builtin.List.listTooLong n=false:=by unfold Builtin.List.listTooLong;exact decide_eq_false ⋯
end
section
variable {X:Cx}
abbrev rq:V->List V->Hp->VK->Prop:=λx vs H Q=>∃l xs y,x=.ref l/\vs=[y]/\H l=some (.lst xs)/\xs.length<sizeLine/\Q .non (upd H l (.lst (xs ++ [y])))
def pC:JW X "list.append" rq:=by intro pins s σ H x vs v us Q I rx rv h;obtain⟨l,xs,y,rfl,rfl,hH,hz,q⟩:=h;cases rx;obtain⟨u,rfl,ru⟩:=rv.one;obtain⟨z,its,n,r,hl,e⟩:=I.sr hH;refine call_meets F.slot_list_append ⟨_,e,rfl⟩ F.entry_list_append (F.args_list_append_2 _ _) (PySem.list_append l its.toArray n u (by rw[ZM];lk)) ⟨e,?_⟩;refine⟨.non,_,I.yR (its':=its ++ [u]) hH e (by simp) (r.append (.cons ru .nil)) ?_,rfl,q⟩;rw[ZH,ZaV];lk
abbrev De:V->List V->Hp->VK->Prop:=λx vs H Q=>∃l xs y,x=.ref l/\vs=[]/\H l=some (.lst xs)/\xs[xs.length-1]?=some y/\Q y (upd H l (.lst xs.dropLast))
def yS:JW X "list.pop" De:=by
 intro pins s σ H x vs v us Q I rx rv h;obtain⟨l,xs,y,rfl,rfl,hH,hy,q⟩:=h;cases rx;have R4:=rv.zero;subst R4;obtain⟨z,its,n,r,hl,e⟩:=I.sr hH;obtain⟨u,hu,ru⟩:=r.get hy;have hy':its.toArray[its.toArray.size-1]?=some u:=by
  show its.toArray[its.length-1]?=some u;rw[<- Zao,<- hl];exact hu
 refine call_meets F.slot_list_pop ⟨_,e,rfl⟩ F.entry_list_pop (F.args_list_pop_1 _) (MeetsSeq.list_pop_last l its.toArray n u hy' (by rw[ZM];lk)) ⟨e,?_⟩;refine⟨y,_,I.yR (its':=its.dropLast) hH e ?_ r.dropLast ?_,ru,q⟩;show its.toArray.eraseIdxIfInBounds (its.toArray.size-1)=its.dropLast.toArray;rw[ZM,List.eraseIdxIfInBounds_toArray,R3];rw[List.length_dropLast];lk
abbrev tL:V->List V->Hp->VK->Prop:=λx vs H Q=>∃l xs i k y,x=.ref l/\vs=[.int i]/\H l=some (.lst xs)/\-(2 ^ 63)<=i/\i<2 ^ 63/\seqIndex? i xs.length=some k/\xs[k]?=some y/\Q y (upd H l (.lst (xs.eraseIdx k)))
def R5:JW X "list.pop" tL:=by
 intro pins s σ H x vs v us Q I rx rv h;obtain⟨l,xs,i,k,y,rfl,rfl,hH,h1,h2,hk,hy,q⟩:=h;cases rx;obtain⟨u,rfl,ru⟩:=rv.one;obtain⟨t,rfl⟩:=ru;obtain⟨z,its,n,r,hl,e⟩:=I.sr hH;obtain⟨w,hw,rw'⟩:=r.get hy;refine call_meets F.slot_list_pop ⟨_,e,rfl⟩ F.entry_list_pop (F.args_list_pop_2 _ _)
  (MeetsSeq.list_pop_at l its.toArray n i t k w (fitsIndex_both h1 h2) (by rw[ZM,<- hl];exact hk) (by rw[<- Zao];exact hw) (by rw[ZM];lk)) ⟨e,?_⟩
 refine⟨y,_,I.yR (its':=its.eraseIdx k) hH e ?_ (r.eraseIdx k) ?_,rw',q⟩;show its.toArray.eraseIdxIfInBounds k=(its.eraseIdx k).toArray;rw[List.eraseIdxIfInBounds_toArray]
 have:=Na xs k
 lk
abbrev Df:R2:=λx y H Q=>∃l b xs zs,x=.ref l/\y=.ref b/\H l=some (.lst xs)/\H b=some (.lst zs)/\xs.length+zs.length<=sizeLine/\∀p,H p=none->Q (.ref p) (upd H p (.lst (xs ++ zs)))
def yT:kL X (binaryOp .Add) Df:=by
 intro pins s σ H x y v u Q I rx ry h;obtain⟨l,b,xs,zs,rfl,rfl,hH,hB,hz,q⟩:=h;cases rx;cases ry;obtain⟨z,its,n,r,hl,e⟩:=I.sr hH;obtain⟨z2,its2,n2,r2,hl2,e2⟩:=I.sr hB;refine PySem.P.add_list e e2 ?_ (by rw[ZM,ZM];lk);have ea:its.toArray ++ its2.toArray=(its ++ its2).toArray:=by simp
 rw[ea];exact⟨.ref _,_,I.Dd (t':=s.toks) (r.append r2) (by rw[ZH];lk),rfl,q _ I.fresh⟩
abbrev Dg:R2:=λx y H Q=>∃l k xs,x=.ref l/\y=.int k/\H l=some (.lst xs)/\-(2 ^ 63)<=k/\k<2 ^ 63/\xs.length*k.toNat<=sizeLine /\
 ∀p,H p=none->Q (.ref p) (upd H p (.lst (List.replicate k.toNat xs).flatten))
def R6{α:Type}(xs:List α)(k:Nat):(List.replicate k xs).flatten.length=k*xs.length:=by
 induction k with
 |zero=>simp
 |succ k ih=>rw[Zan,ZaW,ZH,ih,Nat.succ_mul,Nat.add_comm]
def Nc:kL X (binaryOp .Mult) Dg:=by
 intro pins s σ H x y v u Q I rx ry h;obtain⟨l,k,xs,rfl,rfl,hH,h1,h2,hz,q⟩:=h;cases rx;obtain⟨t,rfl⟩:=ry;obtain⟨z,its,n,r,hl,e⟩:=I.sr hH;have hlen:its.toArray.size*k.toNat<=sizeLine:=by rw[ZM,<- hl];exact hz
 have hcap:¬its.toArray.size*k.toNat > (2 ^ 63-1) / 8:=by
  have:(sizeLine:Nat)<=(2 ^ 63-1) / 8:=by decide
  lk
 have hfit:¬(!Builtin.List.listFitsIndex k)=true:=by
  rw[fitsIndex_both h1 h2];exact ZC
 have Dh:¬Builtin.List.listTooLong (its.toArray.size*k.toNat)=true:=by
  rw[tK hlen];exact ZC
 have hnew:List.foldl (λx1 x2=>x1 ++ x2) #[] (List.replicate (if its.toArray.isEmpty=true then 0 else k.toNat) its.toArray)=(List.replicate k.toNat its).flatten.toArray:=by
  have f0:∀m:Nat,List.foldl (λx1 x2=>x1 ++ x2) #[] (List.replicate m its.toArray)=(List.replicate m its).flatten.toArray:=λm=>by
   have:=Nb its m [];rw[List.nil_append]at this;exact this
  rw[f0];cases its with
  |nil=>simp
  |cons a r'=>rw[if_neg (by simp)]
 refine wpAny_binaryOp_repeat_ref (T:="list") (U:="int") ∅ ⟨_,e,rfl⟩ (λs'=>typeIs_int s' k t) noFill_list_mul F.fills_int_mul F.slot_int_rmul repeat_list F.slot_int_index.lookup
  (call_meets F.slot_int_rmul (typeIs_int s k t) F.entry_int_rmul (F.args_int_rmul_2 _ _) (int___rmul___int_list k t l its.toArray n)
   ⟨e,rfl,⟨_,e,rfl⟩,call_meets F.slot_list_mul ⟨_,e,rfl⟩ F.entry_list_mul (F.args_list_mul_2 _ _) (AutoListH.list___mul___list_int_3 l its.toArray n k t hfit hcap Dh) ⟨e,?_⟩⟩)
 rw[hnew];exact⟨.ref _,_,I.Dd (t':=s.toks) (r.rep k.toNat) (by rw[R6,Nat.mul_comm];exact hz),rfl,q _ I.fresh⟩
end
section
variable {κ:Type}[DecidableEq κ]
abbrev kR(kvs:List (κ×V))(k:κ):Option V:=(kvs.find? λkv=>decide (kv.1=k)).map (·.2)
abbrev putK(kvs:List (κ×V))(k:κ)(v:V):List (κ×V) :=
 if(kvs.any λkv=>decide (kv.1=k))=true then kvs.map (λkv=>if kv.1=k then(kv.1,v)else kv)else kvs ++ [(k,v)]
def JX{p:κ×V}{r:List (κ×V)}{k:κ}(e:p.1=k):kR (p :: r) k=some p.2:=by simp[kR,ZaA,e]
def JY{p:κ×V}{r:List (κ×V)}{k:κ}(e:¬p.1=k):kR (p :: r) k=kR r k:=by simp[kR,ZaA,e]
def Nd(k:κ):∀kvs:List (κ×V),(kvs.any λkv=>decide (kv.1=k))=(kR kvs k).isSome
 |[]=>rfl
 |p :: r=>by
  rw[Zax];by_cases e:p.1=k;simp only[JX e,decide_eq_true e,Bool.true_or,Option.isSome_some];rw[JY e,decide_eq_false e,Bool.false_or];exact Nd k r
def Nf(kvs:List (κ×V))(k:κ)(v:V):(putK kvs k v).length<=kvs.length+1:=by unfold putK;split;rw[Zx];lk;rw[ZH,Z2,Za8];lk
def mX.lW{o:Option V}{u:Option Value}(r:mX o u):o.isSome=u.isSome:=by
 cases o with
 |none=>cases u with
  |none=>rfl
  |some _=>exact(show False from r).elim
 |some _=>cases u with
  |none=>exact(show False from r).elim
  |some _=>rfl
def KV.val{kvs:List (κ×V)}{vs:List (κ×Value)}(r:KV kvs vs)(k:κ):mX (kR kvs k) (valueAt vs k):=by
 unfold KV at r
 induction r with
 |nil=>exact True.intro
 |@cons p q ps qs h t ih =>
  obtain⟨h1,h2⟩:=h;by_cases e:p.1=k;have e':q.1=k:=h1.symm.trans e;have b:valueAt (q :: qs) k=some q.2:=by simp[valueAt,ZaA,e']
  rw[JX e,b];exact h2;have e':¬q.1=k:=λz=>e (h1.trans z);have b:valueAt (q :: qs) k=valueAt qs k:=by simp[valueAt,ZaA,e']
  rw[JY e,b];exact ih
def KV.any{kvs:List (κ×V)}{vs:List (κ×Value)}(r:KV kvs vs)(k:κ):(kvs.any λkv=>decide (kv.1=k))=vs.any λkv=>decide (kv.1=k):=by
 unfold KV at r
 induction r with
 |nil=>rfl
 |cons h t ih=>rw[Zax,Zax,ih,h.1]
def KV.repl{kvs:List (κ×V)}{vs:List (κ×Value)}(r:KV kvs vs)(k:κ){y:V}{u:Value}(ry:RelV y u):
  KV (kvs.map λkv=>if kv.1=k then(kv.1,y)else kv) (vs.map λkv=>if kv.1=k then(kv.1,u)else kv):=by
 unfold KV at r ⊢
 induction r with
 |nil=>exact .nil
 |@cons p q ps qs h t ih =>
  rw[ZT,ZT];refine .cons ?_ ih;obtain⟨h1,h2⟩:=h;by_cases e:p.1=k;rw[if_pos e,if_pos (h1.symm.trans e)];exact⟨h1,ry⟩;rw[if_neg e,if_neg (λz=>e (h1.trans z))];exact⟨h1,h2⟩
def KV.put{kvs:List (κ×V)}{vs:List (κ×Value)}(r:KV kvs vs)(k:κ){y:V}{u:Value}(ry:RelV y u):KV (putK kvs k y) (stored vs k u):=by unfold putK stored;rw[r.any k];by_cases e:(vs.any λkv=>decide (kv.1=k))=true;rw[if_pos e,if_pos e];exact r.repl k ry;rw[if_neg e,if_neg e];exact Paired.snoc r ⟨rfl,ry⟩
def KV.length{kvs:List (κ×V)}{vs:List (κ×Value)}(r:KV kvs vs):kvs.length=vs.length:=Paired.length r
end
def JZ{P:Program}{w:World}{k:Key}{u:Value}(r:RelV (kV k) u):(cO P w).is k u=true:=by
 cases k with
 |inl i=>obtain⟨t,e⟩:=(show∃t,u=Value.int i t from r);subst e;exact Rg P w i t
 |inr x=>obtain⟨t,e⟩:=(show∃t,u=Value.str x t from r);subst e;exact Rh P w x t
def Ng{P:Program}{w:World}:∀{ks:List Key} {us:List Value},Vals (ks.map kV) us->ItemsAre (cO P w) ks us
 |[],_,r=>by rw[Zag]at r;cases r;exact .nil
 |k :: ks,_,r=>by
  rw[ZT]at r;cases r with
  |cons h t=>exact .cons (JZ h) (Ng t)
@[reducible]def KT(H:Hp):List (List Key×V)->List (List Key×Addr×Value)->Prop:=Paired λp q=>p.1=q.1/\H q.2.1=some (.tup (p.1.map kV))/\RelV p.2 q.2.2
def KT.val{H:Hp}{kvs:List (List Key×V)}{xs:List (List Key×Addr×Value)}(r:KT H kvs xs)(k:List Key):mX (kR kvs k) ((atKey xs k).map (·.2)):=by
 induction r with
 |nil=>exact True.intro
 |@cons p q ps qs h t ih =>
  obtain⟨h1,_,h2⟩:=h;by_cases e:p.1=k;have e':q.1=k:=h1.symm.trans e;have b:atKey (q :: qs) k=some q.2:=by simp[atKey,ZaA,e']
  rw[JX e,b];exact h2;have e':¬q.1=k:=λz=>e (h1.trans z);have b:atKey (q :: qs) k=atKey qs k:=by simp[atKey,ZaA,e']
  rw[JY e,b];exact ih
def KT.repl{H:Hp}{kvs:List (List Key×V)}{xs:List (List Key×Addr×Value)}(r:KT H kvs xs)(k:List Key){y:V}{u:Value}(ry:RelV y u):
  KT H (kvs.map λkv=>if kv.1=k then(kv.1,y)else kv) (xs.map (putAt k u)):=by
 induction r with
 |nil=>exact .nil
 |@cons p q ps qs h t ih =>
  rw[ZT,ZT];refine .cons ?_ ih;obtain⟨h1,h2,h3⟩:=h;unfold putAt;by_cases e:p.1=k;rw[if_pos e,if_pos (h1.symm.trans e)];exact⟨h1,h2,ry⟩;rw[if_neg e,if_neg (λz=>e (h1.trans z))];exact⟨h1,h2,h3⟩
def KT.put{H:Hp}{kvs:List (List Key×V)}{xs:List (List Key×Addr×Value)}(r:KT H kvs xs)(k:List Key){b:Addr}{y:V}{u:Value}(hb:H b=some (.tup (k.map kV)))(ry:RelV y u):
  KT H (putK kvs k y) (storedH xs k b u):=by
 have e:(kvs.any λkv=>decide (kv.1=k))=(atKey xs k).isSome:=by
  rw[Nd,(r.val k).lW,Option.isSome_map]
 unfold putK storedH;rw[e];by_cases q:(atKey xs k).isSome=true;rw[if_pos q,if_pos q];exact r.repl k ry;rw[if_neg q,if_neg q];exact Paired.snoc r ⟨rfl,hb,ry⟩
def KT.keeps{H H':Hp}{kvs:List (List Key×V)}{xs:List (List Key×Addr×Value)}(r:KT H kvs xs)(ht:∀b ys,H b=some (.tup ys)->H' b=some (.tup ys)):KT H' kvs xs :=
 Paired.yo r λ_ _ z=>⟨z.1,ht _ _ z.2.1,z.2.2⟩
section
variable {P:Program}{w:World}{H:Hp}{h:Heap}{a:Addr}
def xl{u:HO}(ok:jN P w H h)(e:Rd H a u):bD P w H h a u:=e.ok ok
def xm{kvs:List (Key×V)}(ok:jN P w H h)(e:Rd H a (.dK kvs)):kvs.length<=sizeLine/\(a == sysModules)=false/\∃vs,KV kvs vs/\h.DictOf (cO P w) a vs :=
 show bD P w H h a (.dK kvs)from xl ok e
def Di{kvs:List (Key×V)}(ok:jN P w H h)(e:H a=some (.dK kvs)):kvs.length<=sizeLine/\(a == sysModules)=false/\∃vs,KV kvs vs/\h.DictOf (cO P w) a vs:=xm ok (.inl e)
def BN{ks:List Key}(ok:jN P w H h)(e:H a=some (.tup (ks.map kV))):(tupleKind (cO P w)).is h ks a:=by obtain⟨_,its,r,o,h1,h2,_,n,h3⟩:=(show bD P w H h a (.tup (ks.map kV))from ok a _ e);exact⟨o,its.toArray,n,h1,h2,h3,by simpa using Ng r⟩
def xn{kvs:List (List Key×V)}(ok:jN P w H h)(e:Rd H a (.dT kvs)):kvs.length<=sizeLine/\(a == sysModules)=false /\
  ∃xs,KT H kvs xs/\h.DictOfH (tupleKind (cO P w)) a xs:=by
 obtain⟨z,y,xs,r,o,es,ep,h1,h2,h3,h4,h5⟩:=(show bD P w H h a (.dT kvs)from xl ok e);refine⟨z,y,xs,r,o,es,ep,h1,h2,h3,h4,λx hx=>?_,h5⟩;have all:∀{l:List (List Key×V)} {m:List (List Key×Addr×Value)},KT H l m->∀x∈m,(tupleKind (cO P w)).is h x.1 x.2.1:=by
  intro l m q
  induction q with
  |nil=>intro x hx;exact nomatch hx
  |@cons p q ps qs hq t ih =>
   intro x hx;rcases ZY.mp hx with e|hx
   subst e;exact BN ok (by rw[<- hq.1];exact hq.2.1);exact ih x hx
 exact all r x hx
def Dj{kvs:List (List Key×V)}(ok:jN P w H h)(e:H a=some (.dT kvs)):kvs.length<=sizeLine/\(a == sysModules)=false /\
  ∃xs,KT H kvs xs/\h.DictOfH (tupleKind (cO P w)) a xs:=xn ok (.inl e)
end
abbrev tM(H:Hp)(a:Addr)(y:V)(r:Option V):Prop :=
 (∃kvs k,Rd H a (.dK kvs)/\y=kV k/\r=kR kvs k)\/∃kvs k b,Rd H a (.dT kvs)/\y=.ref b/\H b=some (.tup (k.map kV))/\r=kR kvs k
abbrev tN(H:Hp)(a:Addr)(y v:V)(H':Hp):Prop :=
 (∃kvs k,H a=some (.dK kvs)/\y=kV k/\kvs.length<sizeLine/\H'=upd H a (.dK (putK kvs k v))) \/
 ∃kvs k b,H a=some (.dT kvs)/\y=.ref b/\H b=some (.tup (k.map kV))/\kvs.length<sizeLine/\H'=upd H a (.dT (putK kvs k v))
def tM.k{H:Hp}{a:Addr}{kvs:List (Key×V)}{k:Key}(e:H a=some (.dK kvs)):tM H a (kV k) (kR kvs k):=.inl ⟨kvs,k,.inl e,rfl,rfl⟩
def tN.k{H:Hp}{a:Addr}{kvs:List (Key×V)}{k:Key}{v:V}(e:H a=some (.dK kvs))(hl:kvs.length<sizeLine):tN H a (kV k) v (upd H a (.dK (putK kvs k v))):=.inl ⟨kvs,k,e,rfl,hl,rfl⟩
section
variable {X:Cx}{pins:List (Addr×Obj)}{σ:St}{H:Hp}{s:Shared}{a:Addr}{y v:V}{u r:Value}{o:Option V}{A:Around}{E:Value->Shared->Prop}
def Inv.big(I:Inv X pins σ H s):sysModules<s.heap.objs.size:=by have h:mainGlobals<s.heap.objs.size:=(I.mod.glob.keeps I.bk).lt;exact Nat.lt_trans ∅ h
def R7{Q:Value->Shared->Prop}(hu:A.units+1<cLine)(I:Inv X pins σ H s)(g:tM H a y o)(ry:RelV y u)(h:∀s',Inv X pins σ H s'->Q (.bool (!o.isSome)) s'):
  wpAny (model X.prog X.w) A (compareOp .NotIn u (.ref a)) Q E s:=by
 rcases g with⟨kvs,k,e,ey,l⟩|⟨kvs,k,b,e,ey,eb,l⟩
 subst ey;obtain⟨z,hd,vs,rel,dd⟩:=xm I.hok e;refine wpAny_notIn_of (JZ ry) hd dd.mapOf ?_;rw[<- (rel.val k).lW,<- l];exact h _ (I.tok _);subst ey;cases(show u=Value.ref b from ry);obtain⟨z,hd,xs,rel,dd⟩:=xn I.hok e;refine wpAny_notIn_heap (tupleKind_room_in1 hu) (BN I.hok eb) hd dd ?_;have q:=(rel.val k).lW;rw[Option.isSome_map]at q;rw[<- q,<- l];exact h _ (I.tok _)
def Nh{h':Heap}{t':Nat}{ob:HO}(I:Inv X pins σ H s)(mu:Cz (H a))(hs:Heap.SameBut a s.heap h')(he:∃q,h'.get? a=some q)(new:bD X.prog X.w (upd H a ob) h' a ob):
  Inv X pins σ (upd H a ob) { s with heap:=h',toks:=t' } :=
 I.write (x:=a) (e:=a) mu (.inl rfl) (λb q hb z=>(hs.2 b hb).trans z) he new
def yU{P:Program}{w:World}{H':Hp}{h':Heap}{kvs:List (Key×V)}{vs:List (Key×Value)}(z:kvs.length<=sizeLine)(hd:(a == sysModules)=false)(rel:KV kvs vs)(dd:h'.DictOf (cO P w) a vs):
  bD P w H' h' a (.dK kvs):=⟨z,hd,vs,rel,dd⟩
def R8{H':Hp}{Q:Unit->Shared->Prop}(hu:A.units+1<cLine)(I:Inv X pins σ H s)(g:tN H a y v H')(ry:RelV y u)(rv:RelV v r)(h:∀s',Inv X pins σ H' s'->Q () s'):
  wpAny (model X.prog X.w) A (setItem (.ref a) u r) Q E s:=by
 rcases g with⟨kvs,k,e,ey,l,eH⟩|⟨kvs,k,b,e,ey,eb,l,eH⟩
 subst ey eH;obtain⟨z,hd,vs,rel,dd⟩:=Di I.hok e;have hz:vs.length<=sizeLine:=by rw[<- rel.length];exact z
 have hl:(putK kvs k v).length<=sizeLine:=by have:=Nf kvs k v;lk
 refine wpAny_setItem_pairs (hsz:=hz) (JZ ry) dd λh' G1 hs=>h _ ?_;have he:∃q,h'.get? a=some q:=let ⟨q,_,_,hq,_⟩:=G1;⟨q,hq⟩
 exact Nh I (by rw[e];exact True.intro) hs he (yU hl hd (rel.put k rv) G1);subst ey eH;cases(show u=Value.ref b from ry);obtain⟨z,hd,xs,rel,dd⟩:=Dj I.hok e;have hz:xs.length<=sizeLine:=by rw[<- Paired.length rel];exact z
 have hl:(putK kvs k v).length<=sizeLine:=by have:=Nf kvs k v;lk
 refine wpAny_setItem_heap (hsz:=hz) (tupleKind_room_in1 hu) (BN I.hok eb) dd λh' G1 hs=>h _ ?_;obtain⟨q,es,ep,hq,h2,h3,h4,_,h5⟩:=G1;refine Nh I (by rw[e];exact True.intro) hs ⟨q,hq⟩ ⟨hl,hd,_,(rel.put k eb rv).keeps λc ys ec=>?_,q,es,ep,hq,h2,h3,h4,h5⟩;rw[dO (Jw ec e (λz=>nomatch z))];exact ec
end
abbrev rA(ty td:TE):TE:=λσ H Q=>ty σ H λy H1=>td σ H1 λx H2=>∃a o,x=.ref a/\tM H2 a y o/\Q (.bl (!o.isSome)) H2
abbrev xo(td ty tv:TE):TS:=λD σ H=>tv σ H λv H1=>td σ H1 λx H2=>ty σ H2 λy H3=>∃a H4,x=.ref a/\tN H3 a y v H4/\D.nx σ H4
section
variable {X:Cx}{o i e value:Expr}{pos pos' tpos:Pos}{td ty tv:TE}
def R9(hu:X.A.units+1<cLine)(hi:PE X i ty)(ho:PE X o td):PC X .NotIn i o (rA ty td):=by intro pins s σ H Q I h;refine cf (hi pins s σ H _ I h) λiv s1 ⟨y,H1,I1,ry,q1⟩=>cf (ho pins s1 σ H1 _ I1 q1) λu s2 ⟨x,H2,I2,rx,a,ov,ex,g,q2⟩=>?_;subst ex;obtain rfl:u=Value.ref a:=rx;exact R7 hu I2 g ry λs3 I3=>⟨.bl (!ov.isSome),H2,I3,rfl,q2⟩
def Sb(hu:X.A.units+1<cLine)(ho:PE X o td)(hi:PE X i ty)(hv:PE X value tv)(hs:swapsWith value (some (.Subscript o i pos')) pos.line X.env=pure false):
  PS X (.Assign [.Subscript o i pos'] value pos) (xo td ty tv):=by
 intro pins s σ H D I h;refine wpAny_Assign_Subscript (cf (hv pins s σ H _ I h) λr s1 ⟨v,H1,I1,rv,q1⟩=>cf (ho pins s1 σ H1 _ I1 q1) λu s2 ⟨x,H2,I2,rx,q2⟩=>cf (hi pins s2 σ H2 _ I2 q2) λiv s3 ⟨y,H3,I3,ry,a,H4,ex,g,q3⟩=>?_) hs;subst ex;obtain rfl:u=Value.ref a:=rx;exact R8 hu I3 g ry rv λs4 I4=>⟨σ,H4,I4,q3⟩
end
def Sd{P:Program}{w:World}{H:Hp}(h:Heap)(hb:sysModules<h.objs.size):bD P w H (h.push { cls:=.type "dict",data:=.dict #[] }) h.objs.size (.dK []) :=
 ⟨Zaa _,beq_eq_false_iff_ne.mpr (Ne.symm (Z8 hb)),[],.nil,Heap.DictOf.new h⟩
abbrev tO:TE:=λ_ H Q=>∀p,H p=none->Q (.ref p) (upd H p (.dK []))
section
variable {X:Cx}{pos:Pos}
def Se:PE X (.Dict [] [] pos) tO:=λpins s σ H Q I h =>
 wpAny_Dict_empty ⟨.ref s.heap.objs.size,_,I.laid (a:=s.heap.objs.size) (o:=.dK []) (t':=s.toks) (λ_ _ q=>ZD _ q) (ZA _) (Sd s.heap I.big),rfl,h _ (I.hok.fresh (ZA _))⟩
end
end L2
namespace Ni
open PySem PySem.W PySem.Calls PyProof.Rows
def Sf{P:Params}{h:Heap}:∀(ns:List Int) (vs:List Value),WellAll P h vs (ns.map WData.int)->IntsAre vs ns:=by
 intro ns
 induction ns with
 |nil =>
  intro vs w;rw[Zag]at w;cases w;exact .nil
 |cons n ns ih =>
  intro vs w;rw[ZT]at w;cases w with
  |cons a b =>
   cases a;exact .cons _ _ (ih _ b)
def Sg{l:OpenLaw}{n:Nat}(hn:l.most=some n){P:Params}{h:Heap}{args:List WData}{vals:List Value}
  (hpre:l.row.toRowW.claim.pre args=true) (hwl:WellAll P h vals args) :
  ∃a vs ns,vals=[Value.ref a]/\args=[WData.list (ns.map WData.int)]/\h.get? a=some { cls:=.type "list",data:=.seq vs.toArray }/\IntsAre vs ns/\ns.length<=n:=by
 have hsh:WShape.hasAll [] args [.list .int]=true:=(pre_splitW hpre).1;have hc:l.pre.holds [] { args:=args }=true:=(pre_splitW hpre).2;obtain⟨d,r,rfl,h1,h2⟩:=hasAllW_cons hsh;obtain rfl:=hasAllW_nil h2;obtain⟨xs,rfl,h3⟩:=hasW_list h1;obtain⟨ns,rfl⟩:=items_int h3;have hlen:ns.length<=n:=by
  unfold OpenLaw.pre at hc;have h4:(WTm.not (.lt (.lit (.int (n:Int))) (.len (.arg 0)))).holds [] { args:=[.list (ns.map .int)] }=true:=by
   have h4:=(holds_andW hc).1;rw[hn]at h4;exact h4
  have h5:=condW_of h4 (w_not (w_lt w_lit (w_len_list (w_arg rfl))));rw[Zx]at h5;refine Zbq λq=>?_;have q':(n:Int)<((ns.length:Nat):Int):=by lk
  first
   |(rw[decide_eq_true q']at h5;exact absurd h5 ∅)
   |(simp at h5;lk)
 cases hwl with
 |cons w1 w2 =>
  cases w2;cases w1 with
  |list ho hall=>exact⟨_,_,ns,rfl,rfl,ho,Sf ns _ hall,hlen⟩
def Si(l:OpenLaw)(args:List WData):l.row.toRowW.claim.post args (.bool true) args=true :=
 postW_of (r:=l.row.toRowW) (X:=(true == true))
  (show WShape.has [] (.bool true) .bool=true by first|rfl|decide|simp[WShape.has,WShape.arms,WShape.armsAll])
  (show(WTm.eq .res (.lit (.bool true))).value [] { args:=args,res:=some (.bool true),after:=args }=some (.bool (true == true))from w_eq_bool (w_res rfl) w_lit) rfl
def Sj{l:OpenLaw}{n:Nat}{q:Program}{loose:List Str}{XP:(Str->Option Value)->Heap->Prop}{YP:World->Heap->Prop}{d:DefRec}
  (hn:l.most=some n) (hdf:d.params.defaults=[])
  (call:∀(w:World) (s₀ s₁:Shared) (mg mb:Str->Option Value) (fa:Addr) (o:Obj) (pm cd doc:Value) (a:Addr) (vs:List Value) (ns:List Int),
   Ground q loose [] XP w s₀ mg mb s₁.heap->YP w s₁.heap ->
   s₁.heap.get? fa=some o->o.data=.func (docDef d.name d.params d.body d.scope pm cd doc)->s₁.heap.CodeRec cd d.name->mg d.name=some (.ref fa) ->
   s₁.heap.get? a=some { cls:=.type "list",data:=.seq vs.toArray }->IntsAre vs ns->ns.length<=n->s₁.gens=#[] ->
   codeAny (model l.prog w) callerA (.call (.ref fa) ⟨[.ref a],[]⟩) (λr s'=>r=.ok (.ret (.bool true))/\OldK s₁.heap s'.heap/\s'.os=s₁.os/\AllBare s'.gens) s₁) :
  WalkO q loose XP YP l.row.toRowW d [] (λf vs=>PySem.call f vs):=by
 intro w s₀ s₁ mg mb G Y fa o pm cd doc dV kV ho hd hcd hD hmg hg args vals as hpre hlay hrd hwl hlo;obtain rfl:dV=.none:=Dflts.none hD hdf;obtain rfl:kV=.none:=Dflts.noKw hD;obtain⟨a,vs,ns,rfl,rfl,hobj,hints,hlen⟩:=Sg hn hpre hwl;refine enter_call (codeAny_mono (call w s₀ s₁ mg mb fa o pm cd doc a vs ns G Y ho (fd_plain hd) hcd hmg hobj hints hlen hg) λr s' hq=>?_);obtain⟨rfl,h2,h3,h4⟩:=hq;exact⟨.inl ⟨.bool true,.bool true,[],rfl,λ_=>rfl,.bool true,Si l _,λ_=>⟨List.Pairwise.nil,λ_ hm=>(nomatch hm)⟩⟩,h2,h3,h4⟩
end Ni
namespace L2
open PySem PySem.Spec PyProof.Rows
def J0:∀{vs:List Value} {ns:List Int},IntsAre vs ns->Vals (ns.map V.int) vs
 |_,_,.nil=>.nil
 |_,_,.cons n t h=>.cons ⟨t,rfl⟩ (J0 h)
abbrev Only(H:Hp):Prop:=∀b,H b=none\/∃o xs,H b=some (.mJ o (.lst xs))
def Sk{P:Program}{w:World}{K:Zfr}{mg mb:Str->Option Value}{CX:qF}{k:Nat}{fa a:Addr}{fd:FuncData}{x:Str}{sp:Sp}{s₁:Shared}{vs:List Value}{ns:List Int}
  (KX:K.In s₁.heap) (hns:s₁.heap.Ns mainGlobals mg) (hb:s₁.heap.Ns builtinsNs mb) (Sl:∀x:Str,x≠"__name__" -> mb x=bootBuiltins x) (hlim:s₁.heap.NoLimit) (hg:s₁.gens=#[])
  (ha:s₁.heap.get? a=some { cls:=.type "list",data:=.seq vs.toArray }) (hi:IntsAre vs ns) (hl:ns.length<=sizeLine) (hr:dQ k callerA)
  (F:∀base:Heap,K.In base->base.Ns mainGlobals mg->aJ P w K mg base CX k fa fd [x] sp) (hbind:∀(s:Shared) (u:Value),BindsTo s fd ⟨[u],[]⟩ [(x,u)])
  (sU:∀H:Hp,Only H->jM K H a (ns.map V.int)->sp [.ref a] H (λv _=>v=.bl true) λ_ _ _=>False)
  (Dk:∀H e s',CX [] H s₁ (λ_ _ _=>False) e s'->False) :
  codeAny (model P w) callerA (.call (.ref fa) ⟨[.ref a],[]⟩) (λr s'=>r=.ok (.ret (.bool true))/\OldK s₁.heap s'.heap/\s'.os=s₁.os/\AllBare s'.gens) s₁:=by
 have rv:=J0 hi;have J1:=hi.length;have core:∀ H:Hp,Only H->jM K H a (ns.map V.int)->jN P w H s₁.heap->(∀ b,H b≠none->b=a)->(H a≠none->K.lookup a=none) ->
   codeAny (model P w) callerA (.call (.ref fa) ⟨[.ref a],[]⟩) (λr s'=>r=.ok (.ret (.bool true))/\OldK s₁.heap s'.heap/\s'.os=s₁.os/\AllBare s'.gens) s₁:=by
  intro H hO hS hok hA hK;have rB:∀{b:Addr} {o:Obj},s₁.heap.get? b=some o->H b=none->(oG s₁.heap H).get? b=some o:=λe n=>Rn e n;have C4:∀{b:Addr} {o:Obj} {es:Array DictEntry} {ep:Nat},s₁.heap.get? b=some o->o.data=.dict es ep->H b=none:=λ{b o es ep} e d=>by
   cases q:H b with
   |none=>rfl
   |some u =>
    have e':b=a:=hA b (by rw[q];simp);subst e';rw[ha]at e;cases e;have d':Data.seq vs.toArray _=Data.dict es ep:=d;cases d'
  have G2:∀{b:Addr} {m:Str->Option Value},s₁.heap.Ns b m->(oG s₁.heap H).Ns b m:=λ{b m} ⟨o,es,ep,e,d,r⟩=>⟨o,es,ep,rB e (C4 e d),d,r⟩
  have Nj:K.In (oG s₁.heap H):=λb o e=>rB (KX b o e) (by
   cases q:H b with
   |none=>rfl
   |some u =>
    have e':b=a:=hA b (by rw[q];simp);subst e'
    rw[hK (by rw[q];simp)]at e;cases e)
  have hM:Mod K mg (oG s₁.heap H):=⟨Nj,G2 hns,⟨mb,G2 hb,Sl⟩,let ⟨mc,h1,h2⟩:=hlim;⟨mc,G2 h1,h2⟩⟩;have e0:qG P w K mg (oG s₁.heap H) callerA [] s₁ H:=⟨rfl,hM,λb o e=>Rq e,Nat.le_of_eq (Rm _ _),trivial,λb hb=>absurd (show b∈([]:List Addr)from hb) (by simp),hok,.of_eq hg⟩;refine codeAny_mono ((F _ Nj (G2 hns)).run callerA [] s₁ H ⟨[.ref a],[]⟩ [.ref a] [.ref a] _ _ hr e0 (hbind s₁ (.ref a)) (.cons rfl .nil) (sU H hO hS)) λr s' h=>?_;cases r with
  |error e=>exact(Dk H e s' h).elim
  |ok fl =>
   cases fl with
   |next=>exact False.elim h
   |brk=>exact False.elim h
   |cont=>exact False.elim h
   |ret u =>
    obtain⟨v,H',os,bare,un,J3,r',q⟩:=h;have q':v=.bl true:=q;subst q';obtain rfl:u=Value.bool true:=r';refine⟨rfl,OldK.of_keep λb o e=>?_,os,bare⟩;cases q:H b with
    |none=>exact un.keep b o e q (by intro z;exact absurd (show b∈([]:List Addr)from z) (by simp)) (by simp)
    |some u =>
     rcases hO b with z|⟨ob,xs,z⟩
     ·rw[q]at z;cases z
     ·have z2:=un.nI b ob _ z
      obtain⟨e1,_⟩:=hok b _ z;obtain⟨e2,_⟩:=J3 b _ z2;rw[e]at e1;cases e1;exact e2
 cases hk:K.lookup a with
 |some o =>
  have e:=KX a o hk;rw[ha]at e;cases e;refine core (λ_=>none) (λ_=>.inl rfl) (.inr ⟨_,vs.toArray,_,hk,rfl,rfl,rfl,by rw[ZM,J1];exact hl,by simpa using rv⟩) (λb u z=>by have z':(none:Option HO)=some u:=z;cases z') (λb z=>absurd rfl z) λz=>absurd rfl z
 |none =>
  refine core (λb=>if b=a then some (.mJ { cls:=.type "list",data:=.seq vs.toArray } (.lst (ns.map V.int)))else none) (λb=>?_) (.inl (.inr ⟨{ cls:=.type "list",data:=.seq vs.toArray },if_pos rfl⟩)) (λb u z=>?_) (λb z=>?_) λ_=>hk
  ·by_cases hb:b=a
   ·exact .inr ⟨_,_,if_pos hb⟩
   ·exact .inl (if_neg hb)
  ·by_cases hb:b=a
   ·have z':=(if_pos hb).symm.trans z
    cases z';subst hb;exact⟨ha,by rw[Zx];exact hl,vs,_,rv,ha⟩
   ·have z':=(if_neg hb).symm.trans z
    cases z'
  ·by_cases hb:b=a
   ·exact hb
   ·exact absurd (if_neg hb) z
@[reducible]def KOf{K:Zfr}{h:Heap}(_:K.In h):Zfr:=K
def Sn{l:PySem.W.OpenLaw}{n k:Nat}{q:Program}{loose:List Str}{XP:(Str->Option Value)->Heap->Prop}{YP:World->Heap->Prop}{d:DefRec}{K:Params->Zfr}{CX:World->qF}{sp:World->Sp}{x:Str}
  (hn:l.most=some n) (hn2:n<=sizeLine) (hdf:d.params.defaults=[]) (hr:dQ k callerA)
  (hY:∀(w:World) (h:Heap),YP w h->(K w.params).In h)
  (F:∀(w:World) (mg:Str->Option Value) (fa:Addr) (h:Heap),(K w.params).In h->h.Ns mainGlobals mg->mg d.name=some (.ref fa) ->
   ∃fd:FuncData,(∀(s:Shared) (u:Value),BindsTo s fd ⟨[u],[]⟩ [(x,u)]) /\
    ∀base:Heap,(K w.params).In base->base.Ns mainGlobals mg->aJ l.prog w (K w.params) mg base (CX w) k fa fd [x] (sp w))
  (sU:∀(w:World) (H:Hp) (a:Addr) (ns:List Int),ns.length<=n->Only H->jM (K w.params) H a (ns.map V.int)->sp w [.ref a] H (λv _=>v=.bl true) λ_ _ _=>False)
  (Dk:∀(w:World) (H:Hp) (s:Shared) (e:Value) (s':Shared),CX w [] H s (λ_ _ _=>False) e s'->False) :
  PySem.W.WalkO q loose XP YP l.row.toRowW d [] (λf vs=>PySem.call f vs):=by
 refine Ni.Sj hn hdf λw s₀ s₁ mg mb fa o pm cd doc a vs ns G Y ho hd hcd hmg hobj hints hlen hg=>?_;have KX:=hY w _ Y;obtain⟨fd,hb,hF⟩:=F w mg fa _ KX G.T.g hmg;exact Sk KX G.T.g G.T.b G.T.builtins G.T.nolimit hg hobj hints (Z3 hlen hn2) hr hF hb (λH hO hS=>sU w H a ns hlen hO hS) λH e s'=>Dk w H s₁ e s'
def Sq{l:PySem.W.OpenLaw}{n k:Nat}{q:Program}{loose:List Str}{XP:(Str->Option Value)->Heap->Prop}{YP:World->Heap->Prop}{d:DefRec}{K:Params->Zfr}{CX:qF}{sp:Zfr->Sp}{x:Str}
  (hn:l.most=some n) (hn2:n<=sizeLine) (hdf:d.params.defaults=[]) (hr:dQ k callerA)
  (hY:∀(w:World) (h:Heap),YP w h->(K w.params).In h)
  (F:∀(w:World) (mg:Str->Option Value) (fa:Addr) (h:Heap),(K w.params).In h->h.Ns mainGlobals mg->mg d.name=some (.ref fa) ->
   ∃fd:FuncData,(∀(s:Shared) (u:Value),BindsTo s fd ⟨[u],[]⟩ [(x,u)]) /\
    ∀base:Heap,(K w.params).In base->base.Ns mainGlobals mg->aJ l.prog w (K w.params) mg base CX k fa fd [x] (sp (K w.params)))
  (sU:∀(K:Zfr) (H:Hp) (a:Addr) (ns:List Int),ns.length<=n->Only H->jM K H a (ns.map V.int)->sp K [.ref a] H (λv _=>v=.bl true) λ_ _ _=>False)
  (Dk:∀(H:Hp) (s:Shared) (e:Value) (s':Shared),CX [] H s (λ_ _ _=>False) e s'->False) :
  PySem.W.WalkO q loose XP YP l.row.toRowW d [] (λf vs=>PySem.call f vs) :=
 Sn (K:=K) (CX:=λ_=>CX) (sp:=λw=>sp (K w.params)) hn hn2 hdf hr hY F (λw H a ns h1 h2 h3=>sU (K w.params) H a ns h1 h2 h3) λ_ H s e s'=>Dk H s e s'
abbrev dv(s:Stmt):Arguments:=match s with
 |.FunctionDef _ a _ _ _ _ _ _ _ _=>a
 |_=>{ posonlyargs:=[],args:=[],vararg:=none,kwonlyargs:=[],kw_defaults:=[],kwarg:=none,defaults:=[] }
abbrev cP(s:Stmt):List Stmt:=match s with
 |.FunctionDef _ _ b _ _ _ _ _ _ _=>b
 |_=>[]
abbrev au(s:Stmt):Scope:=match s with
 |.FunctionDef _ _ _ _ _ _ sc _ _ _=>sc
 |_=>{ kind:=.function,names:=[],isGenerator:=false,isCoroutine:=false }
@[reducible]def b6:qF:=λ_ _ _ _ _ _=>False
@[reducible]def E0:XK:=λ_ _ _=>False
def Dl{X:Cx}:Passes b6 X E0:=λ_ _ _ _ _ _ _ h=>h.elim
structure xq(K:Zfr)(x qual:Str)(st:Stmt)(f:Addr)(fd:FuncData):Prop where
 ex:∃(oc:Value) (od:Option Addr) (kV doc pm:Value) (an:Option Addr) (cdv ct:Value) (osl:Array (Option Value)),
  fd=PySem.W.fnOf x qual (dv st) (cP st) (au st) .none kV doc pm an cdv ct/\K.lookup f=some ⟨oc,od,.func fd,osl⟩/\PySem.W.codeIn K cdv qual=true
 kp:PySem.W.keepIn K (.ref f)=true
section
variable {P:Program}{w:World}{K:Zfr}{mg:Str->Option Value}{base:Heap}
def xq.ok{x qual:Str}{st:Stmt}{f:Addr}{fd:FuncData}{N ps:List Str}{k:Nat}{sp:Sp}(F:xq K x qual st f fd)(S:aD N ps (au st))(len:∀vs H Q E,sp vs H Q E->vs.length=ps.length)
  (hbody:∀(cdv:Value) (A:Around) (outer:List Env) (s:Shared) (H:Hp) (vs:List V) (Q:VK) (E:XK),dQ k (A.deeper (envOfC qual (au st) s.heap.objs.size f cdv))->sp vs H Q E ->
   ∃t,qu (dY b6 P w K mg base N qual (au st) f cdv A outer s H E).oM (cP st) t/\t { nx:=λ_ H'=>Q .non H',rt:=Q } (start N vs) H):aJ P w K mg base b6 (k+1) f fd ps sp:=by
 obtain⟨oc,od,kV,doc,pm,an,cdv,ct,osl,rfl,lk,hcd⟩:=F.ex;refine xf lk hcd S len λA outer s H vs Q E hr sU=>?_;obtain⟨t,h,q⟩:=hbody cdv A outer s H vs Q E hr sU;exact⟨t,h.oM,q⟩
def Nk{x qual:Str}{st:Stmt}{f:Addr}{oc:Value}{od an:Option Addr}{osl:Array (Option Value)}{kV doc pm cdv ct:Value}(l:K.lookup f=some ⟨oc,od,.func (PySem.W.fnOf x qual (dv st) (cP st) (au st) .none kV doc pm an cdv ct),osl⟩)
  (c:PySem.W.codeIn K cdv qual=true) (k:PySem.W.keepIn K (.ref f)=true):xq K x qual st f (PySem.W.fnOf x qual (dv st) (cP st) (au st) .none kV doc pm an cdv ct):=⟨⟨oc,od,kV,doc,pm,an,cdv,ct,osl,rfl,l,c⟩,k⟩
end
def Dn{A:Around}{k:Nat}(hr:dQ k A):A.units+1<cLine:=Zav (Nat.add_le_add_left (by decide:1<=64) _) hr.units
section
variable {X:Cx}
def pv(i:Nat){x:Str}{pos:Pos}(hN:X.N[i]?=some x:=by rfl)(hv:Jy X.env.scope x:=by first | exact Or.inl rfl | exact Or.inr (Or.inl rfl) | exact Or.inr (Or.inr rfl))(hd:(x == ("__debug__" : Str))=false:=by decide)
  (hcd:(x == ("__classdict__" : Str))=false:=by decide):PE X (.Name x pos) (tu i):=yt hN hv hd hcd
end
def oO{A B:Prop}(h:B):if false=true then A else B:=by rw[if_neg ZC];exact h
def oP{A B:Prop}(h:A):if true=true then A else B:=by rw[if_pos rfl];exact h
abbrev fH(H H':Hp):Prop:=∀b o,H b=some o->H' b=some o
def fH.refl(H:Hp):fH H H:=λ_ _ h=>h
def jF:bootBuiltins "len" = some (.builtin "len"):=by decide +kernel
def Nl:bootBuiltins "int" = some (.type "int"):=by decide +kernel
def Nm:bootBuiltins "bool" = some (.type "bool"):=by decide +kernel
def rC:bootBuiltins "list" = some (.type "list"):=by decide +kernel
def mD:bootBuiltins "tuple" = some (.type "tuple"):=by decide +kernel
def tP:bootBuiltins "range" = some (.type "range"):=by decide +kernel
def yV:bootBuiltins "isinstance" = some (.builtin "isinstance"):=by decide +kernel
def Nn:bootBuiltins "max" = some (.builtin "max"):=by decide +kernel
def J4:bootBuiltins "min" = some (.builtin "min"):=by decide +kernel
def Np:bootBuiltins "sorted" = some (.builtin "sorted"):=by decide +kernel
structure Kp(ch:List Addr)(H H':Hp):Prop where
 keep:∀b o,H b=some o->b ∉ ch->H' b=some o
 tup:∀b xs,H b=some (.tup xs)->H' b=some (.tup xs)
 mJ:∀b o u,H b=some (.mJ o u)->H' b=some (.mJ o u)
section
variable {ch:List Addr}{H H1 H2:Hp}{a l p:Addr}{o:HO}{xs ys:List V}{K:Zfr}
def Kp.refl:Kp ch H H:=⟨λ_ _ h _=>h,λ_ _ h=>h,λ_ _ _ h=>h⟩
def Kp.of_same(h:fH H H1):Kp ch H H1:=⟨λb o e _=>h b o e,λb xs e=>h b _ e,λb o u e=>h b _ e⟩
def Kp.put(h:Kp ch H H1)(ha:a∈ch)(e:H1 a=some (.lst xs)):Kp ch H (upd H1 a o) :=
 ⟨λb u q n=>by rw[dO (λz=>n (by rw[z];exact ha))];exact h.keep b u q n,
   λb u q=>by
  have r:=h.tup b u q;rw[dO (Jw r e (by intro z;cases z))];exact r,
   λb u v q=>by
  have r:=h.mJ b u v q
  rw[dO (Jw r e (by intro z;cases z))];exact r⟩
def Kp.J5(h:Kp ch H H1)(q:d9 K H a xs):d9 K H1 a xs:=by
 rcases q with(q|⟨o,q⟩)|q
 exact .inl (.inl (h.tup a xs q));exact .inl (.inr ⟨o,h.mJ a o _ q⟩);exact .inr q
abbrev Dp(K:Zfr)(H:Hp)(a:Addr)(xs:List V):Prop :=
 (∃o,H a=some (.mJ o (.lst xs))) \/
  ∃(o:Obj) (its:Array Value) (n:Nat),K.lookup a=some o/\o.cls=.type "list" /\ o.dict=none/\o.data=.seq its n/\its.size<=sizeLine/\Vals xs its.toList
def Dp.sq(h:Dp K H a xs):jM K H a xs:=h.elim (λ⟨o,e⟩=>.inl (.inr ⟨o,e⟩)) .inr
def jM.script(hO:Only H)(q:jM K H a xs):Dp K H a xs:=by
 rcases q with(q|⟨o,q⟩)|q
 rcases hO a with e|⟨o,ys,e⟩
 rw[e]at q;cases q;rw[e]at q;cases q;exact .inl ⟨o,q⟩;exact .inr q
def fH.up(h:H p=none):fH H (upd H p o):=λb u e=>by rw[dO (ym e h)];exact e
end
abbrev qH(K:Zfr)(H:Hp)(xs:List V)(Q:VK):Prop:=∀p H',d9 K H' p xs->fH H H'->Q (.ref p) H'
section
variable {X:Cx}
def qH.new{K:Zfr}{H:Hp}{xs:List V}{Q:VK}(h:qH K H xs Q):∀p,H p=none->Q (.ref p) (upd H p (.tup xs)):=λp hp=>h p _ (d9.of mK) (fH.up hp)
def qH.it{K:Zfr}{H:Hp}{xs:List V}{Q:VK}{a:Addr}(h:qH K H xs Q)(q:d9 K H a xs):Q (.ref a) H:=h a H q (fH.refl H)
abbrev tQ(K:Zfr):R2:=λx y H Q=>∃a b xs ys,x=.ref a/\y=.ref b/\d9 K H a xs/\d9 K H b ys/\xs.length+ys.length<=sizeLine/\qH K H (xs ++ ys) Q
def Dq:kL X (binaryOp .Add) (tQ X.K):=by
 intro pins s σ H x y v u Q I rx ry h;obtain⟨a,b,xs,ys,rfl,rfl,ha,hb,hz,q⟩:=h;by_cases hx:xs=[];subst hx;cases rx;cases ry;obtain⟨its,r1,p1,_⟩:=I.tuple ha;obtain⟨its2,r2,p2,_⟩:=I.tuple hb;have e:its=[]:=r1.mM.mpr rfl;subst e;obtain⟨⟨cls,dd,data,sl⟩,ho,hc,n,hd⟩:=id p1;obtain⟨⟨JJ,dd2,data2,sl2⟩,ho2,hc2,n2,hd2⟩:=id p2;simp only at hc hd hc2 hd2;subst hc hd hc2 hd2;exact concat_meets ⟨_,ho,rfl⟩ ⟨_,ho2,rfl⟩ noFill_tuple_add seq_tuple_add PySem.F.slot_tuple_add PySem.F.entry_tuple_add (PySem.F.args_tuple_add_2 _ _)
  (tuple_addW0 a b #[] its2.toArray n n2 dd dd2 sl sl2 (by simp)) ⟨ho,ho2,⟨.ref b,H,I,rfl,q.it (by simpa using hb)⟩⟩
 exact RY pins s σ H _ _ v u Q I rx ry ⟨a,b,xs,ys,rfl,rfl,ha,hb,hx,hz,λe=>q.it (by subst e;simpa using ha),λ_=>q.new⟩
def Sr{prog:Program}{w:World}{A:Around}{E:Value->Shared->Prop}{s:Shared}{t sl:Addr}{items:Array Value}{vl vu:Value}{lo hi:Option Int}{Q:Value->Shared->Prop}(ht:IsTup s.heap t items)(hs:s.heap.IsSliceOf sl vl vu .none)(pl:IsPart vl lo)(pu:IsPart vu hi)
  (hw:HT.cF items.size 0 lo=0/\HT.cF items.size items.size hi=items.size) (h:Q (.ref t) s):wpAny (model prog w) A (getItem (.ref t) (.ref sl)) Q E s:=by
 obtain⟨os,hos,hcs,hds⟩:=id hs;have JL:s.TypeIs (.ref sl) "slice" := ⟨os,hos,hcs⟩;unfold getItem
 try with_reducible refine wpAny_holding ?_
 first|refine wpAny_bind (wpAny_pure ?_)|skip
 refine wpAny_bind (wpAny_sequenceKey ht.typeIs ∅ ?_)
 refine wpAny_bind (wpAny_callSpecial?_slot (name:=Str.ofString "__getitem__") ht.typeIs PyProof.Rows.slot_tuple_getitem
  (wpAny_call_entry PyProof.Rows.slot_tuple_getitem ht.typeIs entry_tuple_getitem ?_ (args_tuple_getitem _ _)))
 show wpAny _ _ (Builtin.Tuple.tupleItemsOf (.ref t) >>= _) _ _ s;refine wpAny_bind (tupleItemsOf_ ht ?_);refine wpAny_bind (wpAny_typeOf JL ?_);rw[if_pos ∅];refine wpAny_bind (HT.M4 hs pl pu ?_);have hyes:((((HT.cF items.size 0 lo:Nat):Int) == 0 && (1:Int) == 1 && (HT.cF items.size items.size hi-HT.cF items.size 0 lo) == items.size)=true):=by
  rw[hw.1,hw.2];simp
 show wpAny _ _ (if(((HT.cF items.size 0 lo:Nat):Int) == 0 && (1:Int) == 1 && (HT.cF items.size items.size hi-HT.cF items.size 0 lo) == items.size)=true then _ else _) _ _ s;rw[if_pos hyes];obtain⟨o,ho,hc,n,hd⟩:=id ht;unfold Builtin.Tuple.tupleIsExact
 first
  |exact wpAny_bind (wpAny_bind (wpAny_typeOf (T:="tuple") ⟨o,ho,hc⟩ (wpAny_pure (wpAny_bind (wpAny_rule (wpAny_pure ⟨_,rfl,wpAny_pure h⟩))))))
  |exact wpAny_bind (wpAny_bind (wpAny_typeOf (T:="tuple") ⟨o,ho,hc⟩ (wpAny_pure (wpAny_bind (wpAny_rule (wpAny_bind (wpAny_pure ⟨_,rfl,wpAny_pure h⟩)))))))
  |trace_state
abbrev xr(K:Zfr):V->Option Int->Option Int->Hp->VK->Prop:=λx lo hi H Q=>∃a xs,x=.ref a/\d9 K H a xs/\qH K H (m8 xs lo hi) Q
def Ss{xs:List V}{lo hi:Option Int}(h:HT.cF xs.length 0 lo=0/\HT.cF xs.length xs.length hi=xs.length):m8 xs lo hi=xs:=by unfold m8;rw[h.1,h.2];simp
def Sv:GX X (xr X.K):=by
 intro pins s σ H x v vl vu lo hi sl Q I rx hs pl pu h;obtain⟨a,xs,rfl,hx,q⟩:=h;by_cases hw:HT.cF xs.length 0 lo=0/\HT.cF xs.length xs.length hi=xs.length;cases rx;obtain⟨its,r,ht,hz⟩:=I.tuple hx;have hlen:its.toArray.size=xs.length:=by rw[ZM];exact r.length.symm
 refine⟨"tuple",_,PyProof.Rows.slot_tuple_getitem.lookup,ht.typeIs,?_⟩;exact Sr ht hs pl pu (by rw[hlen];exact hw) ⟨.ref a,H,I,rfl,q.it (by rw[Ss hw];exact hx)⟩;exact yL pins s σ H _ v vl vu lo hi sl Q I rx hs pl pu ⟨a,xs,rfl,hx,hw,q.new⟩
abbrev fZ(lo:Int)(n:Nat):List V:=(List.range n).map λ(k:Nat)=>V.int (lo+k)
def Sw(lo:Int)(n:Nat):(fZ lo n).length=n:=by simp[fZ]
def Dr:fe X (.type "range") (λxs H Q=>∃j:Int,xs=[.int j]/\∀p,H p=none->Q (.ref p) (upd H p (.iE 0 j))):=by intro pins s σ H xs us Q I r h;obtain⟨j,rfl,q⟩:=h;obtain⟨u,rfl,t,rfl⟩:=vals1 r;refine call_range_1 ⟨.ref s.heap.objs.size,_,I.laid (o:=.iE 0 j) (λb o e=>ZD _ e) (ZA _) ?_,rfl,q _ (I.hok.fresh (ZA _))⟩;exact⟨_,_,_,ZX _ rfl⟩
def BO:fe X (.type "range") (λxs H Q=>∃i j:Int,xs=[.int i,.int j]/\∀p,H p=none->Q (.ref p) (upd H p (.iE i j))):=by intro pins s σ H xs us Q I r h;obtain⟨i,j,rfl,q⟩:=h;obtain⟨u,u',rfl,⟨t,rfl⟩,t',rfl⟩:=vals2 r;refine call_range_2 ⟨.ref s.heap.objs.size,_,I.laid (o:=.iE i j) (λb o e=>ZD _ e) (ZA _) ?_,rfl,q _ (I.hok.fresh (ZA _))⟩;exact⟨_,_,_,ZX _ rfl⟩
def Nq:∀(n:Nat) (lo:Int) (us:List Value),us.length=n->(∀(j:Nat) (v:Value),us[j]?=some v->∃t,v=.int (lo+j*1) t)->Vals (fZ lo n) us
 |0,lo,[],_,_=>.nil
 |0,lo,_ :: _,h,_=>by simp at h
 |n+1,lo,[],h,_=>by simp at h
 |n+1,lo,u :: us,h,hv=>by
  have e:fZ lo (n+1)=V.int lo :: fZ (lo+1) n:=by
   unfold fZ;rw[List.range_succ_eq_map,ZT,Z1]
   congr 1
   simp;apply Zaj;intro i _;simp only[Function.comp]
   congr 1
   push_cast
   lk
  rw[e];obtain⟨t,ht⟩:=hv 0 u rfl;refine .cons ⟨t,by rw[ht];simp⟩ (Nq n (lo+1) us (by simpa using h) λj v hj=>?_);obtain⟨t',ht'⟩:=hv (j+1) v hj;refine⟨t',ht'.trans ?_⟩
  congr 1
  lk
def tR(hc:X.calm=true):fe X (.type "list") (λxs H Q=>∃p lo hi,xs=[.ref p]/\H p=some (.iE lo hi)/\(-(2 ^ 62)<=lo/\lo<2 ^ 62/\-(2 ^ 62)<=hi/\hi<2 ^ 62)/\(hi-lo).toNat<=2 ^ 24 /\
  ∀l,H l=none->Q (.ref l) (upd H l (.lst (fZ lo (hi-lo).toNat)))):=by
 intro pins s σ H xs us Q I r h;obtain⟨p,lo,hi,rfl,hp,⟨b1,b2,b3,b4⟩,hz,q⟩:=h;obtain⟨u,rfl,ru⟩:=vals1 r;cases ru;obtain⟨t,t',t'',e⟩:=(show bD X.prog X.w H s.heap p (.iE lo hi)from I.hok p _ hp);refine call_list_range (a:=lo) (b:=hi) (c:=1) (n:=(hi-lo).toNat) (I.ok.hd hc) (show IsRange s.heap p lo hi 1 t t' t'' from e) (small_one b1 b2 b3 b4) (by rw[rangeSize_one];split<;>lk) hz λh' tk acc c kp hD hI=>?_;refine⟨.ref s.heap.objs.size,_,I.laid (t':=tk) (o:=.lst (fZ lo (hi-lo).toNat)) kp (ZA _) ?_,rfl,q _ (I.hok.fresh (ZA _))⟩;refine⟨by rw[Sw];exact Z3 hz ∅,acc.toList,c,Nq _ _ _ (by rw[ZaC];exact hI.1) λj v hj=>hI.2 j v (by rw[<- hj,Zao]),by simpa using hD⟩
def Sx{prog:Program}{w:World}{A:Around}{E:Value->Shared->Prop}{s:Shared}{l:Addr}{vs:List Value}{Q:List Value->Shared->Prop}(hl:IsTup s.heap l vs.toArray)
  (h:Q vs { s with heap:=(s.heap.push (seqObj "list" #[] 0)).update s.heap.objs.size (Obj.mapSeq (· ++ vs.toArray)) }) (hsz:vs.length<=sizeLine) :
  wpAny (model prog w) A (collect (.ref l)) Q E s:=by
 obtain⟨o,ho,hc,n,hd⟩:=id hl;unfold collect;refine wpAny_bind (wpAny_runValue (codeAny_builtin entry_proto_collect' ?_));show wpAny _ _ (do again (.builtin "list.__iadd__" ⟨[<- newList [],.ref l],[]⟩)) _ _ s;refine wpAny_bind (wpAny_newList (wpAny_pure ⟨Code.quiet_builtin _ (by decide +kernel),codeAny_builtin entry_list_iadd' ?_⟩));show wpAny _ _ (Builtin.List.listExtendWith (.ref s.heap.objs.size) (.ref l) (.ref s.heap.objs.size)) _ _ { s with heap:=s.heap.push (seqObj "list" #[] 0) };unfold Builtin.List.listExtendWith;have ho':(s.heap.push (seqObj "list" #[] 0)).get? l=some o:=ZD _ ho;refine wpAny_bind (wpAny_typeOf (T:="tuple") ⟨o,ho',hc⟩ ?_);have ht:(Value.type "tuple" == Value.type "tuple")=true:=by rfl
 rw[if_pos (by rw[ht];simp)];refine wpAny_bind (listItems_at ho' hd ?_);refine wpAny_bind (listItems_at (xs:=#[]) (n:=0) (ZX _ rfl) rfl ?_);rw[if_neg (by simp)];refine wpAny_bind (listUpdate_at (xs:=#[]) (n:=0) (ZX _ rfl) rfl ?_ (Zaa _) (by show(#[] ++ vs.toArray).size<=sizeLine+1;simp only[Array.size_append,ZM,Za8];lk));refine wpAny_pure ?_
 show wpAny (model prog w) A (do
   let o <- load s.heap.objs.size
   match o.data with
   |.seq xs _=>pure xs.toList
   |_=>unsupported "internal:collect") Q E { s with heap:=(s.heap.push (seqObj "list" #[] 0)).update s.heap.objs.size (Obj.mapSeq (· ++ vs.toArray)) }
 refine wpAny_bind (wpAny_load (get?_update_seq (ZX _ rfl) _) ?_);show wpAny _ _ (pure ((#[]:Array Value) ++ vs.toArray).toList) Q E _;rw[show((#[]:Array Value) ++ vs.toArray).toList=vs by simp];exact wpAny_pure h
def Sy{prog:Program}{w:World}{A:Around}{E:Value->Shared->Prop}{s:Shared}{l:Addr}{vs:List Value}{ns:List Int}{Q:Value->Shared->Prop}(hl:IsTup s.heap l vs.toArray\/s.heap.IsList l vs.toArray)(hI:IntsAre vs ns)(h64:vs.length<64)
  (h:∀(out:Array Value) (ns':List Int),IntsAre out.toList ns'->ns'.Perm ns->ns'.Pairwise (·<=·)->Q (.ref (s.heap.objs.size+1)) { s with heap:=sortedAll s.heap vs out }) :
  wpAny (model prog w) A (call (.builtin "sorted") [.ref l]) Q E s:=by
 rcases hl with hl|hl
 refine Calls.call_function_entry kind_sorted plain_sorted entry_sorted (args_sorted1 _) ?_;unfold Builtin.«sorted»;refine wpAny_bind (m:=checkCount "sorted" 1 1 _) (wpAny_pure ?_);refine wpAny_bind (Sx hl ?_ (Z3 (ZaK h64) ∅));refine wpAny_bind (wpAny_newList ?_);have hsz:((s.heap.push (seqObj "list" #[] 0)).update s.heap.objs.size (Obj.mapSeq (· ++ vs.toArray))).objs.size=s.heap.objs.size+1:=by
  rw[Heap.size_update,size_push']
 have yr:(((s.heap.push (seqObj "list" #[] 0)).update s.heap.objs.size (Obj.mapSeq (· ++ vs.toArray))).push (seqObj "list" vs.toArray 0)).get? (s.heap.objs.size+1)=some (seqObj "list" vs.toArray 0):=by
  rw[<- hsz];exact ZX _ rfl
 show wpAny _ _ _ _ _ { s with heap:=((s.heap.push (seqObj "list" #[] 0)).update s.heap.objs.size (Obj.mapSeq (· ++ vs.toArray))).push (seqObj "list" vs.toArray 0) };rw[hsz];refine wpAny_bind (wpAny_holding (wpAny_call_entry slot_list_sort ⟨_,yr,rfl⟩ entry_list_sort (list_sort_tree yr hI h64 λout ns' a1 a2 a3=>⟨_,rfl,?_⟩) (args_list_sort _)));exact wpAny_pure ⟨_,rfl,h out ns' a1 a2 a3⟩;exact sorted_ints hl hI h64 h
def Sz:fe X (.builtin "sorted") (λxs H Q=>∃(p:Addr) (ns:List Int),xs=[.ref p]/\(jM X.K H p (ns.map V.int)\/d9 X.K H p (ns.map V.int))/\ns.length<64 /\
  ∀(l:Addr) (ms:List Int),H l=none->ms.Perm ns->ms.Pairwise (·<=·)->Q (.ref l) (upd H l (.lst (ms.map V.int)))):=by
 intro pins s σ H xs us Q I r h;obtain⟨p,ns,rfl,hq,h64,q⟩:=h;obtain⟨u,rfl,ru⟩:=vals1 r;cases ru;have fin:∀(its:List Value),Vals (ns.map V.int) its->(IsTup s.heap p its.toArray\/s.heap.IsList p its.toArray)->wpAny (model X.prog X.w) X.A (call (.builtin "sorted") [.ref p]) (EP X pins σ Q) X.xe s:=λits rv hp=>by
  have hl:=rv.length;rw[Zx]at hl;refine Sy hp (JM rv) ⋯ λout ms h1 h2 h3=>?_;obtain⟨e,he⟩:=sortedAll_at s.heap its out;have hz:ms.length=ns.length:=h2.length_eq;refine⟨.ref (s.heap.objs.size+1),_,I.laid (t':=s.toks) (o:=.lst (ms.map V.int)) (λb o q=>sortedAll_old q) (ZaJ _) ?_,rfl,q _ ms (I.hok.fresh (ZaJ _)) h2 h3⟩;refine⟨by rw[Zx,hz];exact Z3 (ZaK h64) ∅,out.toList,e,J0 h1,by simpa using he⟩
 rcases hq with hq|hq
 obtain⟨its,rv,pl,_⟩:=I.list hq;exact fin its rv (.inr pl.isList);obtain⟨its,rv,pl,_⟩:=I.tuple hq;exact fin its rv (.inl pl)
end
mutual
inductive Rep(K:Zfr)(H:Hp):V->PyData->Prop
 |non:Rep K H .non .none
 |bl (b:Bool):Rep K H (.bl b) (.bool b)
 |int (i:Int):Rep K H (.int i) (.int i)
 |str (x:Str):Rep K H (.str x) (.str x)
 |tup {a:Addr} {xs:List V} {ds:List PyData}:d9 K H a xs->fD K H xs ds->Rep K H (.ref a) (.tuple ds)
 |lst {a:Addr} {xs:List V} {ds:List PyData}:jM K H a xs->fD K H xs ds->Rep K H (.ref a) (.list ds)
inductive fD(K:Zfr)(H:Hp):List V->List PyData->Prop
 |nil:fD K H [] []
 |cons {v:V} {vs:List V} {d:PyData} {ds:List PyData}:Rep K H v d->fD K H vs ds->fD K H (v :: vs) (d :: ds)
end
section
variable {X:Cx}{pins:List (Addr×Obj)}{σ:St}{H:Hp}{s:Shared}
mutual
def Rep.reads(I:Inv X pins σ H s):∀{v:V} {d:PyData} {u:Value},Rep X.K H v d->RelV v u->∃as,Reads s.heap u d as
 |_,_,_,.non,r=>by cases r;exact⟨_,.none⟩
 |_,_,_,.bl b,r=>by cases r;exact⟨_,.bool b⟩
 |_,_,_,.int i,r=>by obtain⟨t,rfl⟩:=r;exact⟨_,.int i t⟩
 |_,_,_,.str x,r=>by obtain⟨t,rfl⟩:=r;exact⟨_,.str x t⟩
 |_,_,_,.tup q rs,r=>by
  cases r;obtain⟨its,rv,⟨o,e,c,n,hd⟩,_⟩:=I.tuple q;obtain⟨as,ra⟩:=fD.reads I rs rv;exact⟨_,.tuple e c hd (by simpa using ra)⟩
 |_,_,_,.lst q rs,r=>by
  cases r;obtain⟨its,rv,pl,_⟩:=I.list q;obtain⟨o,e,c,n,hd⟩:=pl.isList;obtain⟨as,ra⟩:=fD.reads I rs rv;exact⟨_,.list e c hd (by simpa using ra)⟩
def fD.reads(I:Inv X pins σ H s):∀{vs:List V} {ds:List PyData} {us:List Value},fD X.K H vs ds->Vals vs us->∃as,ReadsAll s.heap us ds as
 |_,_,_,.nil,r=>by cases r;exact⟨_,.nil⟩
 |_,_,_,.cons h t,r=>by
  cases r with
  |cons r1 r2 =>
   obtain⟨as,h1⟩:=Rep.reads I h r1;obtain⟨bs,h2⟩:=fD.reads I t r2;exact⟨_,.cons h1 h2⟩
end
abbrev yW(K:Zfr)(neg:Bool):R2:=λx y H Q=>∃d e,Rep K H x d/\Rep K H y e/\PyData.canLay0 d=true/\PyData.canLay0 e=true/\min d.depth e.depth<=60/\Q (.bl (if neg then !PyData.eqv d e else PyData.eqv d e)) H
def G3(hu:X.A.units+64<cLine):kL X (compareOp .Eq) (yW X.K false):=by intro pins s σ H x y v u Q I rx ry h;obtain⟨d,e,hd,he,c1,c2,dp,q⟩:=h;obtain⟨as,ra⟩:=hd.reads I rx;obtain⟨bs,rb⟩:=he.reads I ry;exact SeqAt.eqOverData X.prog X.w X.A X.xe s v u d e as bs _ ra rb c1 c2 ⋯ ⟨.bl _,H,I,rfl,q⟩
def G4(hu:X.A.units+64<cLine):kL X (compareOp .NotEq) (yW X.K true):=by intro pins s σ H x y v u Q I rx ry h;obtain⟨d,e,hd,he,c1,c2,dp,q⟩:=h;obtain⟨as,ra⟩:=hd.reads I rx;obtain⟨bs,rb⟩:=he.reads I ry;exact SeqAt.neOverData X.prog X.w X.A X.xe s v u d e as bs _ ra rb c1 c2 ⋯ ⟨.bl _,H,I,rfl,q⟩
end
section
variable {K:Zfr}{H:Hp}
abbrev cH(ns:List Int):List PyData:=ns.map PyData.int
def xt:∀(ns:List Int),PyData.canLayAll0 (cH ns)=true
 |[]=>rfl
 |n :: r=>by show(true && PyData.canLayAll0 (cH r))=true;rw[xt r];rfl
def yX:∀(ns:List Int),PyData.depthAll (cH ns)=0
 |[]=>rfl
 |n :: r=>by show max 0 (PyData.depthAll (cH r))=0;rw[yX r];rfl
def Ds:∀(ns ms:List Int),PyData.eqvAll (cH ns) (cH ms)=decide (ns=ms)
 |[],[]=>rfl
 |[],_ :: _=>rfl
 |_ :: _,[]=>rfl
 |n :: ns,m :: ms=>by
  show((n == m) && PyData.eqvAll (cH ns) (cH ms))=decide (n :: ns=m :: ms);rw[Ds ns ms];by_cases h:n=m;subst h;simp;simp[h]
end
end L2
namespace L2
open PySem PySem.Spec PyProof.Rows
structure Def(K:Zfr)(mg:Str->Option Value)(x:Str)(st:Stmt)(ps:List Str)(f:Addr)(fd:FuncData):Prop where
 F:xq K x x st f fd
 be:∀us:List Value,us.length=ps.length->bindArgs fd ⟨us,[]⟩=pure (ps.zip us)
 m:mg x=some (.ref f)
def Def.b{K:Zfr}{mg:Str->Option Value}{x:Str}{st:Stmt}{ps:List Str}{f:Addr}{fd:FuncData}(D:Def K mg x st ps f fd):Binds K fd ps []:=.all D.be
def jG{K:Zfr}{h:Heap}{mg:Str->Option Value}(X:K.In h)(G:h.Ns mainGlobals mg){x:Str}{st:Stmt}{ps:List Str}{f:Addr}{oc:Value}{od an:Option Addr}{osl:Array (Option Value)}{kV doc pm cdv ct:Value}
  (hb:∀(kV doc pm:Value) (an:Option Addr) (cdv ct:Value) (us:List Value),us.length=ps.length->bindArgs (PySem.W.fnOf x x (dv st) (cP st) (au st) .none kV doc pm an cdv ct) ⟨us,[]⟩=pure (ps.zip us))
  (a:PySem.W.nsIn K mainGlobals x=some (some (.ref f))) (l:K.lookup f=some ⟨oc,od,.func (PySem.W.fnOf x x (dv st) (cP st) (au st) .none kV doc pm an cdv ct),osl⟩)
  (c:PySem.W.codeIn K cdv x=true) (k:PySem.W.keepIn K (.ref f)=true):∃f fd,Def K mg x st ps f fd :=
 ⟨f,_,Nk l c k,hb kV doc pm an cdv ct,PySem.W.mg_of X G a⟩
def Def.vL{K:Zfr}{mg:Str->Option Value}{x p:Str}{st:Stmt}{f:Addr}{fd:FuncData}(D:Def K mg x st [p] f fd)(s:Shared)(u:Value):BindsTo s fd ⟨[u],[]⟩ [(p,u)]:=.of_eq (D.be [u] rfl)
def tT{K:Zfr}{h:Heap}{mg:Str->Option Value}(X:K.In h)(G:h.Ns mainGlobals mg){x:Str}(z:PySem.W.nsIn K mainGlobals x=some none):mg x=none:=PySem.W.mg_none_of X G z
def BP{n j:Nat}(h:j<n):mO n (j:Int)=some j:=by unfold mO;rw[if_pos ⋯,if_pos ⋯];simp
def yZ{α:Type}{xs:List α}{i:Int}(h0:0<=i)(h1:i<xs.length):∃v,fB xs i=some v/\v∈xs:=by
 have hi:i.toNat<xs.length:=by lk
 refine⟨xs[i.toNat],?_,Zas hi⟩;have:=BL (xs:=xs) (j:=i.toNat) (v:=xs[i.toNat]) (by simp[hi])
 rwa [Z0 h0]at this
def dT{c:Prop}[Decidable c](h:decide c=true):c:=of_decide_eq_true h
def dF{c:Prop}[Decidable c](h:¬decide c=true):¬c:=λz=>h (decide_eq_true z)
def Dt:∀(names:List (Str×NameKind)) (n:Nat) (acc:List (Str×Addr)),cellsFrom n names acc=cellsFrom n names [] ++ acc
 |[],_,_=>rfl
 |(x,k) :: r,n,acc=>by
  show(if k == .cell then cellsFrom (n+1) r ((x,n) :: acc)else cellsFrom n r acc)=(if k == .cell then cellsFrom (n+1) r [(x,n)]else cellsFrom n r []) ++ acc;by_cases hk:(k == NameKind.cell)=true;rw[if_pos hk,if_pos hk,Dt r (n+1) ((x,n) :: acc),Dt r (n+1) [(x,n)],Zba];rfl;rw[if_neg hk,if_neg hk];exact Dt r n acc
def J7{x:Str}{c:Addr}:∀(names:List (Str×NameKind)) (n:Nat),(x,c)∈cellsFrom n names []->(x,NameKind.cell)∈names/\n<=c
 |[],_,h=>nomatch h
 |(y,k) :: r,n,h=>by
  have h':(x,c)∈(if k == .cell then cellsFrom (n+1) r [(y,n)]else cellsFrom n r []):=h;by_cases hk:(k == NameKind.cell)=true;rw[if_pos hk,Dt]at h';rcases Z6.mp h' with h'|h'
  obtain⟨h1,h2⟩:=J7 r (n+1) h';exact⟨ZE _ h1,by lk⟩;have e:(x,c)=(y,n):=by simpa using h'
  cases e;have e2:k=NameKind.cell:=by simpa using hk
  subst e2;exact⟨ZK,ZA _⟩;rw[if_neg hk]at h';obtain⟨h1,h2⟩:=J7 r n h';exact⟨ZE _ h1,h2⟩
def J8{env:Env}(f:Str×NameKind->List (Str×Addr)->Sem (ForInStep (List (Str×Addr))))
  (hf:∀name kind cs,f (name,kind) cs=if kind == .free then(do let c <- cellOf env name;pure (.yield ((name,c) :: cs)))else pure (.yield cs)) :
  ∀(names:List (Str×NameKind)) (acc:List (Str×Addr)),(∀y∈names,y.2=NameKind.free->∃c,env.cells.lookup y.1=some c) ->
   ∃cl,(forIn names acc f:Sem (List (Str×Addr)))=pure cl/\(∀n c,(n,c)∈cl->(n,c)∈acc\/(env.cells.lookup n=some c/\(n,NameKind.free)∈names))/\(∀p∈acc,p∈cl)/\∀n,(n,NameKind.free)∈names->∃c,(n,c)∈cl
 |[],acc,_=>⟨acc,by rw[List.forIn_nil],λn c h=>.inl h,λp h=>h,λn h=>nomatch h⟩
 |(x,k) :: r,acc,h=>by
  have hr:∀y∈r,y.2=NameKind.free->∃c,env.cells.lookup y.1=some c:=λy hy=>h y (ZE _ hy);by_cases hk:k=NameKind.free;subst hk;obtain⟨c,hc⟩:=h (x,.free) ZK rfl;have e:cellOf env x=pure c:=by unfold cellOf;rw[hc]
  obtain⟨cl,e1,h1,h2,h3⟩:=J8 f hf r ((x,c) :: acc) hr;refine⟨cl,?_,λn d hd=>?_,λp hp=>h2 p (ZE _ hp),λn hn=>?_⟩;rw[List.forIn_cons,hf,if_pos (by rfl),e];exact e1;rcases h1 n d hd with q|⟨q,q'⟩
  rcases ZY.mp q with q|q
  cases q;exact .inr ⟨hc,ZK⟩;exact .inl q;exact .inr ⟨q,ZE _ q'⟩;rcases ZY.mp hn with q|q
  cases q;exact⟨c,h2 _ ZK⟩;exact h3 n q;obtain⟨cl,e1,h1,h2,h3⟩:=J8 f hf r acc hr;have hb:¬((k == NameKind.free)=true):=by simpa using hk
  refine⟨cl,?_,λn d hd=>?_,h2,λn hn=>?_⟩;rw[List.forIn_cons,hf,if_neg hb];exact e1;rcases h1 n d hd with q|⟨q,q'⟩
  exact .inl q;exact .inr ⟨q,ZE _ q'⟩;rcases ZY.mp hn with q|q
  cases q;exact absurd rfl hk;exact h3 n q
def Nr{scope:Scope}{env:Env}(h:∀y∈scope.names,y.2=NameKind.free->∃c,env.cells.lookup y.1=some c):
  ∃cl,closureFor scope env=pure cl/\(∀n c,(n,c)∈cl->env.cells.lookup n=some c/\(n,NameKind.free)∈scope.names)/\∀n,(n,NameKind.free)∈scope.names->∃c,(n,c)∈cl:=by
 have key:∀ (f:Str×NameKind->List (Str×Addr)->Sem (ForInStep (List (Str×Addr)))),(∀ name kind cs,f (name,kind) cs=if kind == .free then(do let c <- cellOf env name;pure (.yield ((name,c) :: cs)))else pure (.yield cs)) ->
   ∃cl,((forIn scope.names [] f:Sem (List (Str×Addr))) >>= λr=>pure r)=pure cl/\(∀n c,(n,c)∈cl->env.cells.lookup n=some c/\(n,NameKind.free)∈scope.names)/\∀n,(n,NameKind.free)∈scope.names->∃c,(n,c)∈cl:=λf hf=>by
  obtain⟨cl,e,h1,_,h3⟩:=J8 f hf scope.names [] h;refine⟨cl,?_,λn c hc=>(h1 n c hc).elim (λz=>nomatch z) id,h3⟩;rw[e];rfl
 simp only[closureFor];exact key _ λname kind cs=>by cases hk:kind == NameKind.free<;>simp[hk]
def ltN{a b:Addr}(h:a<b):@LT.lt Nat _ a b:=h
def yq{a b:Addr}(h:@LT.lt Nat _ a b):a≠b:=Z8 h
def Nt{a b:Addr}(h:@LT.lt Nat _ b a):a≠b:=Zbu h
def SA{M:Model}{A:Around}{E:Value->Shared->Prop}{s:Shared}{scope:Scope}{g:Addr}{cl:List (Str×Addr)}{q:Str}{env:Env}{Q:Env->Shared->Prop}
  (h:∀h',h'.Ns s.heap.objs.size (λ_=>none)->(∀b o,s.heap.get? b=some o->h'.get? b=some o)->CellsOk h' (s.heap.objs.size+1) (cellsFrom (s.heap.objs.size+1) scope.names []) ->
   Q { scope:=scope,locals:=s.heap.objs.size,globals:=g,cells:=cellsFrom (s.heap.objs.size+1) scope.names cl,qual:=q,func:=none,code:=env.code,frame:=env.frame,builtins:=env.builtins } { s with heap:=h' }) :
  wpAny M A (newFunctionEnv scope g cl [] q none .none (some env)) Q E s:=by
 simp only[newFunctionEnv,Option.isSome_some,if_true];refine wpAny_bind (wpAny_alloc ?_);refine wpAny_bind (wpAny_layCells _ (λname kind cells=>by cases hkc:kind == NameKind.cell<;>simp[hkc]) _ _ _ _ ?_);have ok:=cellsFrom_ok scope.names (s.heap.push { cls:=.type "dict",data:=.dict #[] }) (s.heap.objs.size+1) [] ⟨λ_ _ hm=>(nomatch hm),List.Pairwise.nil⟩ (by rw[ZaP];exact ZA _);rw[ZaP]at ok;rw[show({ s with heap:=s.heap.push { cls:=.type "dict",data:=.dict #[] } }:Shared).heap.objs.size=s.heap.objs.size+1 from ZaP ..];refine wpAny_bind ?_;rw[List.forIn_nil];refine wpAny_pure (wpAny_pure ?_);exact h _ ((Heap.Ns.new s.heap (.type "dict")).keeps (pushCells_keeps _ _)) (λb o e=>pushCells_keeps _ _ b o (ZD _ e)) ok
abbrev aT(X:Cx)(N:List Str)(scope:Scope)(cells:List (Str×Addr))(C:Addr)(fp:List Addr)(s:Shared)(H:Hp):Cx where
 prog:=X.prog
 w:=X.w
 K:=X.K
 mg:=X.mg
 base:=X.base
 A:=X.A
 N:=N
 s₀:=s
 H₀:=H
 env:=compEnvC scope cells C X.env
 outer:=X.stack
 stack:=X.stack
 ex:=fp
 fn:=λx=>decide (scope.names.lookup x=some .cell)
 calm:=X.calm
 pn:=[]
 xe:=λ_ _=>False
abbrev tU(scope sc:Scope):Scope :=
 { scope with names:=scope.names.map λ(n,k)=>if(k == .free && sc.kind == .function && sc.names.lookup n == some .cell)then(n,.cell)else(n,k) }
structure tV(sc scope:Scope)(own fr:List Str):Prop where
 kind:scope.kind=.function
 nd:(own ++ fr).Nodup
 BQ:(scope.names.map (·.1)).Nodup
 free:∀y∈scope.names,y.2=.free->sc.names.lookup y.1=some .cell\/sc.names.lookup y.1=some .free
 J9:∀x∈fr,scope.names.lookup x=some .free
structure gb(X:Cx)(scope:Scope)(own fr:List Str)(js:List Nat):Prop where
 c:tV X.env.scope scope own fr
 ix:js.map (λj=>X.N[j]?)=fr.map some
def gb.kind{X:Cx}{scope:Scope}{own fr:List Str}{js:List Nat}(S:gb X scope own fr js):scope.kind=.function:=S.c.kind
def gb.BQ{X:Cx}{scope:Scope}{own fr:List Str}{js:List Nat}(S:gb X scope own fr js):(scope.names.map (·.1)).Nodup:=S.c.BQ
def gb.J9{X:Cx}{scope:Scope}{own fr:List Str}{js:List Nat}(S:gb X scope own fr js):∀x∈fr,scope.names.lookup x=some .free:=S.c.J9
def gb.free{X:Cx}{scope:Scope}{own fr:List Str}{js:List Nat}(S:gb X scope own fr js):∀y∈scope.names,y.2=.free->X.env.kindOf y.1=some .cell\/X.env.kindOf y.1=some .free:=S.c.free
def Du{α:Type}:∀{l:List (Str×α)} {n:Str} {c:α},(l.map (·.1)).Nodup->(n,c)∈l->l.lookup n=some c
 |(k,v) :: r,n,c,nd,h=>by
  obtain⟨h1,h2⟩:=Zau.mp nd;rw[Zaw];rcases ZY.mp h with e|h
  cases e;simp
  have:(n == k)=false:=beq_eq_false_iff_ne.mpr λe=>h1 (by rw[<- e];exact ZL.mpr ⟨(n,c),h,rfl⟩)
  rw[this];exact Du h2 h
def Nu(scope:Scope)(env:Env)(x:Str):(relabel scope env).names.lookup x=none/\scope.names.lookup x=none \/
  ∃k,scope.names.lookup x=some k/\(relabel scope env).names.lookup x=some (if(k == .free && env.scope.kind == .function && env.kindOf x == some .cell)then .cell else k):=by
 have key:∀ names:List (Str×NameKind),(names.map λ(n,k)=>if(k == NameKind.free && env.scope.kind == .function && env.kindOf n == some .cell)then(n,NameKind.cell)else(n,k)).lookup x=none/\names.lookup x=none \/
   ∃k,names.lookup x=some k/\(names.map λ(n,k)=>if(k == NameKind.free && env.scope.kind == .function && env.kindOf n == some .cell)then(n,NameKind.cell)else(n,k)).lookup x=some (if(k == .free && env.scope.kind == .function && env.kindOf x == some .cell)then .cell else k):=by
  intro names
  induction names with
  |nil=>exact .inl ⟨rfl,rfl⟩
  |cons p r ih =>
   obtain⟨n,k⟩:=p;rw[ZT];cases hx:x == n with
   |true =>
    have e:x=n:=by simpa using hx
    subst e;refine .inr ⟨k,by simp[Zaw],?_⟩;by_cases hc:(k == NameKind.free && env.scope.kind == .function && env.kindOf x == some .cell)=true;simp only[if_pos hc];simp[Zaw];simp only[if_neg hc];simp[Zaw]
   |false =>
    have e1:∀q:NameKind,(((n,q) :: (r.map λ(n,k)=>if(k == NameKind.free && env.scope.kind == .function && env.kindOf n == some .cell)then(n,NameKind.cell)else(n,k))).lookup x)=((r.map λ(n,k)=>if(k == NameKind.free && env.scope.kind == .function && env.kindOf n == some .cell)then(n,NameKind.cell)else(n,k)).lookup x):=λq=>by rw[Zaw,hx]
    have e2:((n,k) :: r).lookup x=r.lookup x:=by rw[Zaw,hx]
    rw[e2];by_cases hc:(k == NameKind.free && env.scope.kind == .function && env.kindOf n == some .cell)=true;simp only[if_pos hc];rw[e1];exact ih;simp only[if_neg hc];rw[e1];exact ih
 exact key scope.names
abbrev jR(n:Nat)(js:List Nat)(σ:St):St:=List.replicate n none ++ js.map λj=>σ.getD j none
def Inv.Dv{X:Cx}{pins:List (Addr×Obj)}{σ:St}{H:Hp}{s:Shared}{a:Addr}{o:HO}(I:Inv X pins σ H s)(f:lV X pins H a)(new:bD X.prog X.w (upd H a o) s.heap a o):Inv X pins σ (upd H a o) s:=by
 obtain⟨f0,f1,f2,f3,f4,f5⟩:=f;have ne:∀b u,H b=some u->b≠a:=λb u e z=>by rw[z,f0]at e;cases e
 refine I.step (h':=s.heap) (H':=upd H a o) (g':=s.gens) (d':=s.drawn) (t':=s.toks) (ch:=[a]) (λb hb=>?_) (λb u _ _ _ e _=>e) (λb u _ _ _ e _=>⟨u.slots,e⟩) (λb u hb e n=>?_) (λb u _ e=>⟨u,e⟩)
  (λb xs e=>by rw[dO (ne b _ e)];exact e) (λb u xs e=>by rw[dO (ne b _ e)];exact e) (λb ps e=>⟨#[],by rw[dO (ne b _ e),e];simp⟩) (λm hm=>hm) (λb u e=>?_) I.bare
 have e:b=a:=by simpa using hb
 subst e;exact⟨f3,f1,f4,f5⟩;rw[dO (λz=>hb (by simp[z]))];exact n;by_cases hb:b=a;subst hb;rw[mK]at e;cases e;exact new;rw[dO hb]at e;exact(I.hok b u e).stay (λc v _ q=>q) (λc q=>by rw[dO (ne c _ q)];exact q) λc xs q=>by rw[dO (ne c _ q)];exact q
abbrev PF(X:Cx)(ifs:List Expr)(t:TT):Prop :=
 ∀(pins:List (Addr×Obj)) (s:Shared) (σ:St) (H:Hp) (Q:Bool->Hp->Prop),Inv X pins σ H s->t σ H Q ->
  wpAny (model X.prog X.w) X.A (forIn ifs true λc r=>if r=true then do let ok <- isTrue c X.env (eval c X.env);pure (ForInStep.yield ok)else pure (ForInStep.yield r)) (TP X pins σ Q) X.xe s
def su{X:Cx}:PF X [] (λ_ H Q=>Q true H):=λ_ _ _ H _ I h=>wpAny_tests_nil ⟨H,I,h⟩
def Nv{X:Cx}{c:Expr}{t:TT}(h:PT X c t):PF X [c] t:=λpins s σ H Q I hw=>wpAny_tests_one (h pins s σ H Q I hw)
def SD{prog:Program}{w:World}{A:Around}{R:Result->Shared->Prop}{s:Shared}{elt target iter:Expr}{ifs:List Expr}{scope:Scope}{pos:Pos}{it acc:Value}{env:Env}(I:Nat->Shared->Prop)
  (turn:∀n s,I n s->wpAny (model prog w) A (pyNext it) (λr s₁=>match r with
   |none=>R (.ok .next) s₁
   | some v=>wpAny (model prog w) A (letOwnedTupleGo target it v) (λ_ s₁'=>wpAny (model prog w) A (assign target env v) (λ_ s₂ =>
     wpAny (model prog w) A (forIn ifs true λc r=>if r=true then do let ok <- isTrue c env (eval c env);pure (ForInStep.yield ok)else pure (ForInStep.yield r)) (λok s₃ =>
      if ok=true then wpAny (model prog w) A (eval elt env) (λx s₄ =>
       wpAny (model prog w) A (call (.builtin "list.append") [acc,x]) (λ_ s₅=>∃m,m<n/\I m s₅) (λ_ _=>False) s₄) (λ_ _=>False) s₃
      else∃m,m<n/\I m s₃) (λ_ _=>False) s₂) (λ_ _=>False) s₁') (λ_ _=>False) s₁) (λ_ _=>False) s)
  (n:Nat) (h:I n s) :
  codeAny (model prog w) A (.compLoop (.ListComp elt [⟨target,iter,ifs,0⟩] scope pos) 0 it acc env) R s:=by
 refine codeAny_loop rfl I (λn s hI=>?_) n h;show wpAny _ A ((compTurn (.ListComp elt [⟨target,iter,ifs,0⟩] scope pos) 0 it acc env).onRaise (λx=>do noteFrame x env;theTreesLotGoes x)) _ _ s;refine wpAny_noted ?_;rw[compTurn_list];refine wpAny_bind (wpAny_standAt (wpAny_bind (wpAny_mono (turn n s hI) (λr s₁ h₁=>?_) λ_ _ h'=>h'.elim)));cases r with
 |none=>exact wpAny_pure h₁
 |some v =>
  refine wpAny_bind (wpAny_mono h₁ (λ_ s₁' h₁'=>?_) λ_ _ h'=>h'.elim);refine wpAny_bind (wpAny_mono h₁' (λ_ s₂ h₂=>wpAny_bind (wpAny_mono h₂ (λok s₃ h₃=>?_) λ_ _ h'=>h'.elim)) λ_ _ h'=>h'.elim);cases ok with
  |false=>exact wpAny_pure ⟨rfl,h₃⟩
  |true =>
   exact wpAny_bind (wpAny_bind (wpAny_mono h₃ (λx s₄ h₄=>wpAny_bind (wpAny_mono h₄ (λ_ s₅ h₅=>wpAny_pure (wpAny_pure ⟨rfl,h₅⟩)) λ_ _ h'=>h'.elim)) λ_ _ h'=>h'.elim))
abbrev y2(J:It)(n:Nat)(js:List Nat)(g:TG)(tc:TT)(te:TE)(σ:St)(H1:Hp)(Q:VK):Prop :=
 ∃W:Nat->Nat->List V->St->Hp->Prop,(∃m,W 0 m [] (jR n js σ) H1)/\∀i m ys σ' H',W i m ys σ' H' ->
  ys.length<sizeLine/\((J.stop i H'/\∀p,H' p=none->Q (.ref p) (upd H' p (.lst ys))) \/
   (J.go i H'/\∀x H2,J.vE i H' x H2->g x σ' H2 λσ2 H3=>tc σ2 H3 λb H4=>if b=true then te σ2 H4 λy H5=>∃m',m' < m/\W (i+1) m' (ys ++ [y]) σ2 H5 else∃m',m' < m/\W (i+1) m' ys σ2 H4))
abbrev tW(wi:TI)(n:Nat)(js:List Nat)(g:TG)(tc:TT)(te:TE):TE:=λσ H Q=>wi σ H λJ H1=>y2 J n js g tc te σ H1 Q
section
variable {X:Cx}{pins:List (Addr×Obj)}{σ:St}{tg iter elt:Expr}{ifs:List Expr}{scope:Scope}{pos:Pos}{own fr:List Str}{js:List Nat}{g:TG}{tc:TT}{te:TE}{wi:TI}
def Nw{H2:Hp}{s2:Shared}{it:Addr}{fp:List Addr}{tn:Nat->Heap->Prop}{J:It}{Q:VK}{E:Value->Shared->Prop}{cl:List (Str×Addr)}{RR:Value->Addr->Result->Shared->Prop}
  (hc:X.calm=true) (S:gb X scope own fr js) (hg:∀cells C fp s H,PG (aT X (own ++ fr) scope cells C fp s H) tg g) (hf:∀cells C fp s H,PF (aT X (own ++ fr) scope cells C fp s H) ifs tc) (he:∀cells C fp s H,PE (aT X (own ++ fr) scope cells C fp s H) elt te)
  (I2:Inv X pins σ H2 s2) (T:Turn X.prog X.w X.K tg J fp it tn) (st2:tn 0 s2.heap) (f2:∀b∈fp,lV X pins H2 b)
  (qI:∀n c,(n,c)∈cl->X.env.cells.lookup n=some c/\(n,NameKind.free)∈scope.names) (tZ:∀n,(n,NameKind.free)∈scope.names->∃c,(n,c)∈cl)
  (W:Nat->Nat->List V->St->Hp->Prop) (m0:Nat) (w0:W 0 m0 [] (jR own.length js σ) H2)
  (turn:∀i m ys σ' H',W i m ys σ' H'->ys.length<sizeLine/\((J.stop i H'/\∀p,H' p=none->Q (.ref p) (upd H' p (.lst ys))) \/
   (J.go i H'/\∀x H2,J.vE i H' x H2->g x σ' H2 λσ2 H3=>tc σ2 H3 λb H4=>if b=true then te σ2 H4 λy H5=>∃m',m' < m/\W (i+1) m' (ys ++ [y]) σ2 H5 else∃m',m' < m/\W (i+1) m' ys σ2 H4)))
  (fin:∀(acc C:Addr) (H':Hp) (s':Shared) (v:V),v=.ref acc->Inv X pins σ H' s'->lV X pins H' C->(∃m,s'.heap.Ns C m)->Q v H'->RR (.ref acc) C (.ok .next) s') :
  wpAny (model X.prog X.w) X.A (newList []) (λacc s3=>wpAny (model X.prog X.w) X.A (newFunctionEnv scope X.env.globals cl [] X.env.qual none .none (some X.env)) (λcenv s4 =>
   codeAny (model X.prog X.w) X.A (.compStart (.ListComp elt [⟨tg,iter,ifs,0⟩] scope pos) 0 (.ref it) acc { cenv with scope:=relabel scope X.env }) (RR acc cenv.locals) s4) E s3) E s2:=by
 refine wpAny_newObj_type ?_;refine SA λh4 hns Ny oQ=>?_;have hA:s2.heap.objs.size<(s2.heap.push { cls:=.type "list",data:=.seq ([]:List Value).toArray }).objs.size:=by rw[ZaP];exact Zat _
 generalize hC:(s2.heap.push { cls:=.type "list",data:=.seq ([]:List Value).toArray }).objs.size=C at hns oQ hA ⊢;generalize hac:s2.heap.objs.size=acc at hA ⊢;have Ka:acc≠C:=Z8 hA;have old:∀b o,s2.heap.get? b=some o->h4.get? b=some o:=λb o e=>Ny b o (ZD _ e);have hacc:h4.get? acc=some { cls:=.type "list",data:=.seq ([]:List Value).toArray }:=Ny _ _ (by rw[<- hac];exact ZX _ rfl);have Kb:∀x c,(x,c)∈cellsFrom (C+1) scope.names []->h4.IsCell c none/\C+1<=c/\scope.names.lookup x=some .cell:=λx c h=>⟨(oQ.empty x c h).1,(oQ.empty x c h).2,Du S.BQ (J7 _ _ h).1⟩;have lk:∀x c,(cellsFrom (C+1) scope.names cl).lookup x=some c->(h4.IsCell c none/\C+1<=c/\(x,c)∈cellsFrom (C+1) scope.names [])\/(X.env.cells.lookup x=some c/\scope.names.lookup x=some .free):=λx c h=>by
  rw[Dt]at h;rcases Z6.mp (PySem.mem_of_lookup h)with q|q
  exact .inl ⟨(Kb x c q).1,(Kb x c q).2.1,q⟩;exact .inr ⟨(qI x c q).1,Du S.BQ (qI x c q).2⟩
 have Kc:∀x c,X.env.cells.lookup x=some c->c<s2.heap.objs.size:=λx c h=>by
  obtain⟨v,z⟩:=I2.cell x c h;exact z.lt
 have rD:∀x c,(cellsFrom (C+1) scope.names cl).lookup x=some c->c≠C/\c≠acc/\H2 c=none/\∀b∈fp,c≠b:=λx c h=>by
  rcases lk x c h with⟨_,h1,_⟩|⟨h1,_⟩
  refine⟨Nt ⋯,Nt ⋯,I2.hok.fresh ⋯,λb hb z=>?_⟩;obtain⟨o,e,_⟩:=T.obj 0 _ st2 b hb;have:=ltN (ZR e);rw[<- z]at this;lk
  have:=ltN (Kc x c h1)
  exact⟨yq ⋯,yq ⋯,I2.fX x c h1,λb hb=>(f2 b hb).2.2.2.2.1 x c h1⟩
 have Dw:∀x,scope.names.lookup x=some .free->∃c,X.env.cells.lookup x=some c/\(cellsFrom (C+1) scope.names cl).lookup x=some c:=λx h=>by
  obtain⟨c,Nz⟩:=tZ x (PySem.mem_of_lookup h);have hc1:=(qI x c Nz).1;have hs:((cellsFrom (C+1) scope.names cl).lookup x).isSome=true:=by
   refine PySem.W.cellsFrom_some scope.names (C+1) cl (.inr ?_);cases q:cl.lookup x with
   |some d=>rfl
   |none =>
    exfalso;have:∀{l:List (Str×Addr)},(x,c)∈l->l.lookup x≠none:=by
     intro l
     induction l with
     |nil=>intro h;exact nomatch h
     |cons p r ih =>
      intro h z;obtain⟨k,v⟩:=p;rw[Zaw]at z;cases hb:x == k with
      |true=>rw[hb]at z;cases z
      |false =>
       rw[hb]at z;rcases ZY.mp h with e|h
       cases e;simp at hb;exact ih h z
    exact this Nz q
  obtain⟨d,hd⟩:=Za1.mp hs;rcases lk x d hd with⟨_,_,h2⟩|⟨h1,_⟩
  have:=(Kb x d h2).2.2
  rw[h]at this;cases this;rw[hc1]at h1;cases h1;exact⟨c,hc1,hd⟩
 have G5:∀b∈fp,b≠C/\b≠acc:=λb hb=>by
  obtain⟨o,e,_⟩:=T.obj 0 _ st2 b hb;have:=ltN (ZR e);exact⟨yq ⋯,yq ⋯⟩
 have SE:(relabel scope X.env).kind=.function:=S.kind;have ok:(aT X (own ++ fr) scope (cellsFrom (C+1) scope.names cl) C fp s2 H2).Ok:=by
  refine⟨I2.ok.mod,SE,I2.ok.glob,I2.ok.blt,?_,λx y c h1 h2=>?_,λx hx=>?_,λx c hx h=>?_,I2.ok.hd,I2.ok.frames,.inl rfl,λb hb=>⟨(G5 b hb).1,λx c h=>(rD x c h).2.2.2 b hb⟩,I2.bs,Z3 I2.ok.sS I2.sz,λb o e hb=>?_,λb hb z=>?_,I2.stack,I2.oJ⟩;show s2.heap.objs.size<=C;lk;rcases lk x c h1 with⟨_,q1,q2⟩|⟨q1,_⟩
  rcases lk y c h2 with⟨_,r1,r2⟩|⟨r1,_⟩
  exact name_of_addr oQ.apart q2 r2
  have:=ltN (Kc y c r1);lk
  rcases lk y c h2 with⟨_,r1,r2⟩|⟨r1,_⟩
  have:=ltN (Kc x c q1);lk
  exact I2.ok.inj x y c q1 r1;have hx':(relabel scope X.env).names.lookup x=some .cell\/(relabel scope X.env).names.lookup x=some .free:=hx;rcases Nu scope X.env x with⟨e,_⟩|⟨k,e1,e2⟩
  rcases hx' with z|z<;>(rw[e]at z;cases z)
  by_cases hk:k=.free;subst hk;obtain⟨c,_,h⟩:=Dw x e1;exact⟨c,h⟩;have hk':k=.cell:=by
   have hb:(k == NameKind.free)=false:=beq_eq_false_iff_ne.mpr hk;rw[hb]at e2;simp only[Bool.false_and,Zah,if_false]at e2;rcases hx' with z|z
   rw[e2]at z;exact ZN z;rw[e2]at z;exact absurd (ZN z) hk
  subst hk';exact Za1.mp (PySem.W.cellsFrom_some scope.names (C+1) cl (.inl e1));have hx':scope.names.lookup x=some .cell:=of_decide_eq_true hx;show s2.heap.objs.size<=c;rcases lk x c h with⟨_,q,_⟩|⟨_,q⟩
  lk;rw[hx']at q;cases q;rcases(f2 b hb).2.2.2.1 with z|z
  exact I2.ok.pO b o e z;have h1:@LT.lt Nat _ b X.base.objs.size:=ZR e;have h2:=I2.ok.sS;lk;rcases ZY.mp (I2.mY b z)with e|e
  exact(f2 b hb).2.1 e;exact(f2 b hb).2.2.1 e
 have I4:Inv (aT X (own ++ fr) scope (cellsFrom (C+1) scope.names cl) C fp s2 H2) [(acc,{ cls:=.type "list",data:=.seq ([]:List Value).toArray })] (jR own.length js σ) H2 { s2 with heap:=h4 }:=by
  refine⟨ok,rfl,I2.bare,Un.kept old,⟨_,hns,λi x v e1 e2 e3=>?_⟩,λx c h=>?_,I2.hok.fresh (by show s2.heap.objs.size<=C;lk),λx c h=>(rD x c h).2.2.1,λp hp=>?_,I2.hok.kept old,?_⟩;have xu:(own ++ fr)[i]?=some x:=e1;unfold jR at e2;by_cases hi:i<own.length;rw[ZQ (by simpa using hi),Za4]at e2;split at e2<;>cases e2;rw[ZW (by simpa using hi),Zbc,ZO]at e2;rw[ZW ⋯]at xu;cases hj:js[i-own.length]? with
  |none=>rw[hj]at e2;cases e2
  |some j =>
   rw[hj]at e2;have vM:σ.getD j none=some v:=ZN e2;have hN:X.N[j]?=some x:=by
    have q:=congrArg (λl=>l[i-own.length]?) S.ix;simp only[ZO,hj,xu,Option.map_some]at q;exact ZN q
   have hσ:σ[j]?=some (some v):=by
    rw[ZG]at vM;cases q:σ[j]? with
    |none=>rw[q]at vM;cases vM
    |some o=>rw[q]at vM;exact congrArg some vM
   have hfr:scope.names.lookup x=some .free:=S.J9 x (ZF xu);have hk:=S.free _ (PySem.mem_of_lookup hfr) rfl;obtain⟨m,_,hl⟩:=I2.loc;obtain⟨u,ru,lo⟩:=hl j x v hN hσ (by rcases hk with k|k;exact .inr (.inl k);exact .inr (.inr k));refine⟨u,ru,.inr ⟨?_,?_⟩⟩;rcases Nu scope X.env x with⟨_,e⟩|⟨k,q1,q2⟩
   rw[hfr]at e;cases e;rw[hfr]at q1;cases q1;have SG:(compEnvC scope (cellsFrom (C+1) scope.names cl) C X.env).kindOf x=some (if(NameKind.free == .free && X.env.scope.kind == .function && X.env.kindOf x == some .cell)=true then .cell else .free):=q2;rw[show(aT X (own ++ fr) scope (cellsFrom (C+1) scope.names cl) C fp s2 H2).env.kindOf x=_ from SG];split;exact .inl rfl;exact .inr rfl;rcases lo with⟨k,_⟩|⟨_,c,hc1,hc2⟩
   rcases hk with k'|k'<;>(rw[k]at k';cases k')
   obtain⟨d,hd1,hd2⟩:=Dw x hfr;rw[hc1]at hd1;cases hd1;exact⟨c,hd2,hc2.keeps old⟩
  rcases lk x c h with⟨q,_,_⟩|⟨q,_⟩
  exact⟨_,q⟩;obtain⟨v,z⟩:=I2.cell x c q;exact⟨v,z.keeps old⟩;have e:p=(acc,{ cls:=.type "list",data:=.seq ([]:List Value).toArray }):=by simpa[aT]using hp
  subst e;refine⟨hacc,I2.hok.fresh ⋯,Ka,λz=>?_,λv z=>nomatch z⟩;rcases ZY.mp (I2.mY acc z)with e|e
  have:=ltN I2.lt
  rw[<- e]at this;lk;exact I2.CC ⋯ e;show(jR own.length js σ).length=(own ++ fr).length;have q:=congrArg List.length S.ix;simp only[Zx]at q;unfold jR;rw[ZH,Zbc,Zx,ZH,q]
 have Kd:∀{H':Hp} {ob:Obj},(∀b∈fp,H' b=none)->∀b∈fp,lV (aT X (own ++ fr) scope (cellsFrom (C+1) scope.names cl) C fp s2 H2) [(acc,ob)] H' b:=λ{H' ob} hn b hb =>
  ⟨hn b hb,(G5 b hb).1,λz=>by
   rcases ZY.mp (I2.mY b z)with e|e
   exact(f2 b hb).2.1 e;exact(f2 b hb).2.2.1 e,.inl hb,λx c h=>(rD x c h).2.2.2 b hb,λp hp=>by
   have e:p=(acc,ob):=by simpa[aT]using hp
   subst e
   exactλz=>(G5 b hb).2 z.symm⟩
 have loop:codeAny (model X.prog X.w) X.A (.compLoop (.ListComp elt [⟨tg,iter,ifs,0⟩] scope pos) 0 (.ref it) (.ref acc) (compEnvC scope (cellsFrom (C+1) scope.names cl) C X.env)) (RR (.ref acc) C) { s2 with heap:=h4 }:=by
  refine SD (λm s'=>∃(i:Nat) (ys:List V) (its:List Value) (n:Nat) (σ':St) (H':Hp),Inv (aT X (own ++ fr) scope (cellsFrom (C+1) scope.names cl) C fp s2 H2) [(acc,{ cls:=.type "list",data:=.seq its.toArray n })] σ' H' s'/\Vals ys its/\tn i s'.heap/\(∀b∈fp,H' b=none)/\W i m ys σ' H') ?_ m0
   ⟨0,[],[],0,_,H2,I4,.nil,T.keep _ _ _ st2 λb _ o e=>old b o e,λb hb=>(f2 b hb).1,w0⟩
  rintro n s5 ⟨i,ys,its,en,σ5,H5,I5,rv,jQ,GU,w5⟩;obtain⟨hz,alt⟩:=turn i n ys σ5 H5 w5;rcases alt with⟨stop,qn⟩|⟨go,step⟩
  refine cf (T.done (aT X (own ++ fr) scope (cellsFrom (C+1) scope.names cl) C fp s2 H2) rfl rfl rfl hc i _ s5 σ5 H5 _ I5 (Kd GU) jQ stop) λr s6 ⟨hr,I6⟩=>?_;subst hr;show RR (.ref acc) C (.ok .next) s6;have u:Un (frs X.stack) fp H2 H5 s2.heap s6.heap:=I6.base;have J6:Inv X pins σ H5 s6:=I2.rg I6.os u I6.hok I6.bare λb hb=>⟨(f2 b hb).2.2.2.1,(f2 b hb).2.1,(f2 b hb).2.2.2.2.1,(f2 b hb).2.2.2.2.2⟩;have pacc:=I6.pin (acc,_) (Z7 _ ZK);have Ke:lV X pins H5 acc:=I2.sf ⋯ pacc.2.1;have fC:lV X pins H5 C:=I2.sf ⋯ I6.free;have K6:Inv X pins σ (upd H5 acc (.lst ys)) s6:=J6.Dv Ke ⟨ZaK hz,its,en,rv,pacc.1⟩;obtain⟨m,hm,_⟩:=I6.loc;exact fin acc C _ s6 (.ref acc) rfl K6 ⟨by rw[dO Ka.symm];exact fC.1,fC.2⟩ ⟨m,hm⟩ (qn acc pacc.2.1);refine cf (T.item (aT X (own ++ fr) scope (cellsFrom (C+1) scope.names cl) C fp s2 H2) rfl rfl rfl hc i _ s5 σ5 H5 _ I5 (Kd GU) jQ go) λr s6 ⟨u,hr,h6⟩=>?_;subst hr;refine cf h6 λ_ s7 ⟨x,H7,I7,r7,y7,sv,SH⟩=>?_;have SI:=I7.pinned (Kd SH) (T.obj _ _ sv);refine cf (hg _ _ _ _ _ _ s7 σ5 H7 x u _ SI r7 (step x H7 y7)) λ_ s8 ⟨σ8,H8,I8,q8⟩=>?_;refine cf (hf _ _ _ _ _ _ s8 σ8 H8 _ I8 q8) λb s9 ⟨H9,I9,q9⟩=>?_;have G6:∀{s':Shared} {σ':St} {H':Hp},Inv (aT X (own ++ fr) scope (cellsFrom (C+1) scope.names cl) C fp s2 H2) ([(acc,{ cls:=.type "list",data:=.seq its.toArray en })] ++ mZ fp s7.heap) σ' H' s'->tn (i+1) s'.heap/\∀b∈fp,H' b=none:=λ{s' σ' H'} I' =>
   ⟨T.keep _ _ _ sv λb hb o e=>(I'.pin (b,o) (Z7 _ (Z7 _ (GS hb e)))).1,λb hb=>by
    obtain⟨o,e,d⟩:=T.obj _ _ sv b hb
    exact(I'.pin (b,o) (Z7 _ (Z7 _ (GS hb e)))).2.1⟩
  cases b with
  |false =>
   obtain⟨m',hm,w9⟩:=q9;exact⟨m',hm,i+1,ys,its,en,σ8,H9,I9.lD,rv,(G6 I9).1,(G6 I9).2,w9⟩
  |true =>
   refine cf (he _ _ _ _ _ _ s9 σ8 H9 _ I9 q9) λy Kf ⟨yv,Kg,G7,SJ,m',hm,SK⟩=>?_;have pacc:=G7.pin (acc,_) (Z7 _ (ZaL _ ZK));have hlen:=rv.length;refine wpAny_list_append_plain (items:=its.toArray) ⟨en,pacc.1⟩ (λh11 ⟨NA,Kh⟩ Dx=>?_) (by simp only[ZM];lk);have cA:∀x c,(cellsFrom (C+1) scope.names cl).lookup x=some c->c≠acc:=λx c h=>(rD x c h).2.1;have Ia:Inv (aT X (own ++ fr) scope (cellsFrom (C+1) scope.names cl) C fp s2 H2) [] σ8 Kg Kf:=G7.mL λp hp=>nomatch hp;have Ib:Inv (aT X (own ++ fr) scope (cellsFrom (C+1) scope.names cl) C fp s2 H2) [] σ8 Kg { Kf with heap:=h11 }:=Ia.turned (it:=acc) (t':=Kf.toks) (λb o hb e=>(Dx.2 b hb).trans e) pacc.2.1 Ka (.inr (by show s2.heap.objs.size<=acc;lk)) cA λp hp=>nomatch (show p∈([]:List (Addr×Obj))from by simpa[aT]using hp);refine⟨m',hm,i+1,ys ++ [yv],its ++ [y],NA,σ8,Kg,Ib.mL λp hp=>?_,rv.append (.cons SJ .nil),T.keep _ _ _ (G6 G7).1 λb hb o e=>(Dx.2 b (G5 b hb).2).trans e,(G6 G7).2,SK⟩;have e:p=(acc,{ cls:=.type "list",data:=.seq (its ++ [y]).toArray NA }):=by simpa using hp
   subst e;exact⟨by simpa using Kh,pacc.2.1,pacc.2.2.1,pacc.2.2.2.1,λv z=>nomatch z⟩
 exact codeAny_compStart_list loop (T.self X.A 0 _ _ _ (T.keep _ _ _ st2 λb _ o e=>old b o e) loop)
def sy(hc:X.calm=true)(S:gb X scope own fr js)(hi:PI X tg iter wi)(hg:∀cells C fp s H,PG (aT X (own ++ fr) scope cells C fp s H) tg g)(hf:∀cells C fp s H,PF (aT X (own ++ fr) scope cells C fp s H) ifs tc)(he:∀cells C fp s H,PE (aT X (own ++ fr) scope cells C fp s H) elt te)
  (hs:∀x,foldedSetIterable iter X.env x=pure x:=by intro _;rfl):PE X (.ListComp elt [⟨tg,iter,ifs,0⟩] scope pos) (tW wi own.length js g tc te):=by
 intro pins s σ H Q I h;obtain⟨cl,hcl,qI,tZ⟩:=Nr (scope:=scope) (env:=X.env) λy hy hk=>I.ok.has y.1 (S.free y hy hk);rw[eval_ListComp];refine wpAny_comprehension_free (use:=none) rfl hs hcl S.kind (λy hy hk=>by rw[<- hk];exact Du S.BQ hy) (cf (hi pins s σ H _ I h) λv s1 h1=>cf h1 λitv s2 h2=>?_);obtain⟨it,fp,tn,J,H2,e,I2,T,st2,f2,W,⟨m0,w0⟩,turn⟩:=h2;subst e;refine Nw (RR:=λacc C=>compPost (model X.prog X.w) X.A X.xe none (EP X pins σ Q) acc C) hc S hg hf he I2 T st2 f2 qI tZ W m0 w0 turn ?_;intro acc C H' s' v hv I' fC ⟨m,hm⟩ q;subst hv;obtain⟨f0,f1,SM,f3,f4,f5⟩:=fC;exact⟨m,hm,λh'' y3=>⟨.ref acc,H',I'.turned (it:=C) (t':=s'.toks) (λb o hb e=>(y3.2 b hb).trans e) f0 f1 f3 f4 f5,rfl,q⟩⟩
def NC{i:Nat}{x:Str}{pos' spos:Pos}(hc:X.calm=true)(hN:X.N.Nodup)(hx:X.N[i]?=some x)(hl:X.env.scope.names.lookup x=some .local)(S:gb X scope own fr js)(hi:PI X tg iter wi)(hg:∀cells C fp s H,PG (aT X (own ++ fr) scope cells C fp s H) tg g)(hf:∀cells C fp s H,PF (aT X (own ++ fr) scope cells C fp s H) ifs tc)(he:∀cells C fp s H,PE (aT X (own ++ fr) scope cells C fp s H) elt te)
  (hsw:swapsWith (.ListComp elt [⟨tg,iter,ifs,0⟩] scope pos) (some (.Name x pos')) spos.line X.env=pure true:=by rfl)
  (hs:∀x,foldedSetIterable iter X.env x=pure x:=by intro _;rfl):PS X (.Assign [.Name x pos'] (.ListComp elt [⟨tg,iter,ifs,0⟩] scope pos) spos) (qC (tW wi own.length js g tc te) (ml i)):=by
 intro pins s σ H D I h;obtain⟨cl,hcl,qI,tZ⟩:=Nr (scope:=scope) (env:=X.env) λy hy hk=>I.ok.has y.1 (S.free y hy hk);rw[exec_Assign_Name_used _ _ _ _ hsw];refine wpAny_bind (wpAny_standAt (wpAny_bind ?_));show wpAny _ X.A (do let _ <- comprehension (.ListComp elt [⟨tg,iter,ifs,0⟩] scope pos) scope X.env _ (newList []) false (eval iter X.env) (some (assign (.Name x pos') X.env))) _ _ s
 refine wpAny_bind (wpAny_mono (wpAny_comprehension_free (use:=some (assign (.Name x pos') X.env)) (Q:=λ_ s'=>SP X pins D .next s') rfl hs hcl S.kind (λy hy hk=>by rw[<- hk];exact Du S.BQ hy)
  (cf (hi pins s σ H _ I h) λv s1 h1=>cf h1 λitv s2 h2=>?_)) (λ_ s' hq=>wpAny_pure (wpAny_pure hq)) λ_ _ e=>e)
 obtain⟨it,fp,tn,J,H2,e,I2,T,st2,f2,W,⟨m0,w0⟩,turn⟩:=h2;subst e;refine Nw (Q:=λv H'=>ml i v σ H' D.nx) (RR:=λacc C=>compPost (model X.prog X.w) X.A X.xe (some (assign (.Name x pos') X.env)) (λ_ s'=>SP X pins D .next s') acc C) hc S hg hf he I2 T st2 f2 qI tZ W m0 w0 turn ?_;intro acc C H' s' v hv I' fC ⟨m,hm⟩ q;subst hv;obtain⟨f0,f1,SM,f3,f4,f5⟩:=fC;show wpAny _ X.A (assign (.Name x pos') X.env (.ref acc)) _ _ _;refine wpAny_assign_Name (Mx I' hN hx (.inl hl) (show RelV (.ref acc) (.ref acc)from rfl) (λs'' SN ⟨a,hs1,ha⟩=>?_) (.inr hl));have haC:a≠C:=by
  rcases ha with e|e
  rw[e];exact f1.symm;exact f4 _ _ e
 exact⟨m,hm.sameBut hs1 haC.symm,λh'' y3=>⟨_,H',SN.turned (it:=C) (t':=s''.toks) (λb o hb e=>(y3.2 b hb).trans e) f0 f1 f3 f4 f5,q⟩⟩
end
mutual
abbrev wD:PyData->Nat
 |.none=>4
 |.bool _=>5
 |.int _=>1921
 |.str x=>(reprText x).length
 |.list _=>0
 |.tuple xs=>Dy xs+3
 |.dict _=>0
abbrev Dy:List PyData->Nat
 |[]=>0
 |x :: xs=>wD x+2+Dy xs
end
abbrev gM(ns:List Int):PyData:=.tuple (cH ns)
def Ki:∀(rs:List (List Int)),PyData.canLayAll0 (rs.map gM)=true
 |[]=>rfl
 |r :: rs=>by
  show(PyData.canLayAll0 (cH r) && PyData.canLayAll0 (rs.map gM))=true;rw[xt,Ki rs];rfl
def ND:∀(rs:List (List Int)),PyData.depthAll (rs.map gM)<=1
 |[]=>Zaa _
 |r :: rs=>by
  show max (PyData.depthAll (cH r)+1) (PyData.depthAll (rs.map gM))<=1;have:=ND rs;rw[yX];lk
abbrev Kj(i:Int):Prop:=-1000000000000000000<=i/\i<=1000000000000000000
end L2
namespace L2
open PySem PySem.Spec PyProof.Rows
section
variable {X:Cx}{K:Zfr}
def uW(hK:X.K=K):C7 X (yM K):=by subst hK;exact lA
def vN(hK:X.K=K):C7 X (yN K):=by subst hK;exact du
def NF(hK:X.K=K):kL X (compareOp .NotIn) (JT K true):=by subst hK;exact GZ
def SO(hK:X.K=K):fe X (.builtin "len") (λxs H Q=>∃p ys,xs=[V.ref p]/\(jM K H p ys\/d9 K H p ys)/\Q (.int ys.length) H):=by subst hK;exact jE
def NG(hK:X.K=K):fe X (.type "tuple") (λxs H Q=>∃p ys,xs=[V.ref p]/\((jM K H p ys/\∀l,H l=none->Q (.ref l) (upd H l (.tup ys)))\/(d9 K H p ys/\Q (.ref p) H))):=by subst hK;exact n8
def SQ{tg l:Expr}{tl:TE}(hK:X.K=K)(hl:PE X l tl):PI X tg l (tH K tl):=by subst hK;exact CU hl
end
section
variable {prog:Program}{w:World}{A:Around}{E:Value->Shared->Prop}{s:Shared}
def SR{j t:Addr}{i:Nat}{ys:Array Value}{y:Value}{Q:Value->Shared->Prop}(hj:s.heap.IsTupleIter j t i)(ht:s.heap.IsTuple t ys)(hy:ys[i]?=some y)
  (hQ:∀h',h'.IsTupleIter j t (i+1)->Heap.SameBut j s.heap h'->Q y { s with heap:=h' }):wpAny (model prog w) A (Builtin.SmallTypes.nextOf (.ref j)) Q E s:=by
 obtain⟨r,hr,rc,rd⟩:=id hj;obtain⟨q,hq,_,nq,dq⟩:=ht;unfold Builtin.SmallTypes.nextOf;refine wpAny_bind (wpAny_callSpecial?_slot (name:=Str.ofString "__next__") hj.typeIs F.slot_tuple_iterator_next (wpAny_call_entry F.slot_tuple_iterator_next hj.typeIs F.entry_tuple_iterator_next ?_ (F.args_tuple_iterator_next_1 _)));show wpAny _ _ (PySem.field (.ref j) 0 >>= _) _ _ s;refine wpAny_bind (wpAny_field hr rd (x:=.ref t) rfl ?_);show wpAny _ _ (if(Value.ref t == Value.none)=true then _ else _) _ _ s;rw[if_neg (λz:(Value.ref t == Value.none)=true=>ZC z)];show wpAny _ _ (PySem.field (.ref j) 1 >>= _) _ _ s;refine wpAny_bind (wpAny_field hr rd (x:=.int i 0) rfl ?_);show wpAny _ _ (seqItems? (.ref t) >>= _) _ _ s;refine wpAny_bind (wpAny_seqItems hq dq ?_);simp only[ZP,hy];refine wpAny_bind (wpAny_setField hr rd (by simp) (wpAny_pure ⟨y,rfl,wpAny_pure (hQ _ ⟨_,Zak _ hr (Obj.isFreed_of_fields (Obj.data_mapFields rd _)),(Obj.cls_mapFields ..).trans rc,by rw[Obj.data_mapFields rd];simp[rawInt]⟩ (Heap.SameBut.update ..))⟩))
def SS{j t:Addr}{i:Nat}{ys:Array Value}{Q:Value->Shared->Prop}(hh:A.handled=none)(hj:s.heap.IsTupleIter j t i)(ht:s.heap.IsTuple t ys)(hy:ys[i]?=none)
  (hE:∀h' e,Heap.ExtBut j s.heap h'->(∃o,h'.get? e=some o/\o.cls=.type "StopIteration")->E (.ref e) { s with heap:=h' }):wpAny (model prog w) A (Builtin.SmallTypes.nextOf (.ref j)) Q E s:=by
 obtain⟨r,hr,rc,rd⟩:=id hj;obtain⟨q,hq,_,nq,dq⟩:=ht;unfold Builtin.SmallTypes.nextOf;refine wpAny_bind (wpAny_callSpecial?_slot (name:=Str.ofString "__next__") hj.typeIs F.slot_tuple_iterator_next (wpAny_call_entry F.slot_tuple_iterator_next hj.typeIs F.entry_tuple_iterator_next ?_ (F.args_tuple_iterator_next_1 _)));show wpAny _ _ (PySem.field (.ref j) 0 >>= _) _ _ s;refine wpAny_bind (wpAny_field hr rd (x:=.ref t) rfl ?_);show wpAny _ _ (if(Value.ref t == Value.none)=true then _ else _) _ _ s;rw[if_neg (λz:(Value.ref t == Value.none)=true=>ZC z)];show wpAny _ _ (PySem.field (.ref j) 1 >>= _) _ _ s;refine wpAny_bind (wpAny_field hr rd (x:=.int i 0) rfl ?_);show wpAny _ _ (seqItems? (.ref t) >>= _) _ _ s;refine wpAny_bind (wpAny_seqItems hq dq ?_);simp only[ZP,hy];refine wpAny_bind (wpAny_rule (wpAny_bind (wpAny_setField hr rd (by simp) ?_)));show wpAny _ _ (newExc (.type "StopIteration") [] >>= _) _ _ _;refine wpAny_bind ?_;simp only[newExc,newTuple];refine wpAny_bind (wpAny_newObj_type ?_ (by size_fits));refine wpAny_bind (m:=firstArgMember _ _) (wpAny_of_eq (a:=Value.none) (by first|rfl|(simp only[firstArgMember];rfl)) ?_);refine wpAny_newObj_type ?_ (by size_fits);simp only[raiseNew];refine wpAny_bind (wpAny_handled ?_);first|rw[show A.in1.handled=none from hh]|rw[hh]
 exact wpAny_bind (wpAny_pure (wpAny_throw (hE _ _ (((Heap.SameBut.update ..).extBut.push _).push _) ⟨_,ZX _ rfl,rfl⟩)))
end
def t9{prog:Program}{w:World}{A:Around}(hh:A.handled=none)(j t:Addr)(hne:t≠j)(ys:Array Value):
  Draws prog w A j [j,t] ys.size (λi v=>ys[i]?=some v) (λi h=>h.IsTupleIter j t i/\h.IsTuple t ys) where
 live:=λ_ _ st=>let ⟨o,ho,_⟩:=st.1;⟨o,ho⟩
 frame:=λ_ _ _ st k=>⟨st.1.at λo e=>k j (by simp) o e,let ⟨o,e,r⟩:=st.2;⟨o,k t (by simp) o e,r⟩⟩
 item:=λi s Q E hi st hQ=>SR st.1 st.2 (y:=ys[i]) (by simp[hi]) λh' a b=>hQ _ h' s.toks (by simp[hi]) ⟨a,st.2.extBut b.extBut hne⟩ b
 done:=λs Q E st hE=>SS hh st.1 st.2 (by simp) hE
def SU(l:Addr)(items:Array Value)(n:Nat)(dct:Option Addr)(sl:Array (Option Value)):
  Meets (Builtin.«enumerate.__new__» ⟨[.type "enumerate",.ref l],[]⟩) (λ_ R s=>s.heap.get? l=some { cls:=.type "tuple",dict:=dct,data:=.seq items n,slots:=sl } /\
   R (.ok (.ret (.ref (s.heap.push { cls:=.type "tuple_iterator",data:=.fields #[.ref l,.int 0 0] }).objs.size)))
    { s with heap:=(s.heap.push { cls:=.type "tuple_iterator",data:=.fields #[.ref l,.int 0 0] }).push { cls:=.type "enumerate",data:=.fields #[.none,.bool false,.ref s.heap.objs.size,rawInt 0,.none,.none] } }) :=
 .of_wp λprog w A R s h=>by
  obtain⟨hp,g,d,tk,os⟩:=s;obtain⟨hl,h⟩:=h;have hsub:=sub_enumerate;have hL:Heap.IsTuple (Shared.heap ⟨hp,g,d,tk,os⟩) l items:=⟨_,hl,rfl,n,rfl⟩
  wp_walk using AutoSeq1.wpAny_loadPart' hl
  refine wpAny_stack_any λst=>wpAny_pure ?_;split
  ·rename_i c _ _ _ _ _
   cases(c == Value.type "enumerate")<;>(wp_walk using AutoSeq1.wpAny_loadPart' hl,wpAny_pyIter_tuple hL;exact⟨_,rfl,h⟩)
  ·wp_walk using AutoSeq1.wpAny_loadPart' hl,wpAny_pyIter_tuple hL
   exact⟨_,rfl,h⟩
section
variable {prog:Program}{w:World}{A:Around}{E:Value->Shared->Prop}{s:Shared}
def SV{l:Addr}{ys:Array Value}{Q:Value->Shared->Prop}(ht:s.heap.IsTuple l ys)
  (h:∀h',IsEnum h' (s.heap.objs.size+1) s.heap.objs.size 0 .none->h'.IsTupleIter s.heap.objs.size l 0->h'.objs.size=s.heap.objs.size+2 ->
   (∀b o,s.heap.get? b=some o->h'.get? b=some o)->Q (.ref (s.heap.objs.size+1)) { s with heap:=h' }):wpAny (model prog w) A (call (.type "enumerate") [.ref l]) Q E s:=by
 obtain⟨⟨c,dct,dt,sl⟩,hl,hc,n,hd⟩:=ht;cases(show c=.type "tuple" from hc);cases(show dt=.seq ys n from hd);refine callType_new F.called_enumerate ∅ (F.typeCall_enumerate_1 _) (F.newCall_enumerate_1 _) (λobj=>F.args_object_init_2 obj _) F.entry_enumerate_new (SU l ys n dct sl) ⟨hl,?_⟩;have z:(s.heap.push { cls:=.type "tuple_iterator",data:=.fields #[.ref l,.int 0 0] }).objs.size=s.heap.objs.size+1:=ZaP ..;show _/\_;rw[z];have en:IsEnum ((s.heap.push { cls:=.type "tuple_iterator",data:=.fields #[.ref l,.int 0 0] }).push { cls:=.type "enumerate",data:=.fields #[.none,.bool false,.ref s.heap.objs.size,rawInt 0,.none,.none] }) (s.heap.objs.size+1) s.heap.objs.size 0 .none:=by
  have g:=ZX (s.heap.push { cls:=.type "tuple_iterator",data:=.fields #[.ref l,.int 0 0] }) (o:={ cls:=.type "enumerate",data:=.fields #[.none,.bool false,.ref s.heap.objs.size,rawInt 0,.none,.none] }) rfl;rw[z]at g;exact g
 exact⟨⟨_,en,rfl⟩,h _ en ⟨_,ZD _ (ZX _ rfl),rfl,rfl⟩ (by rw[ZaP,z]) λb o e=>ZD _ (ZD _ e)⟩
end
section
variable {X:Cx}{pins:List (Addr×Obj)}{σ:St}{H:Hp}{s:Shared}{h':Heap}
def Inv.vO{t':Nat}{ch:List Addr}(I:Inv X pins σ H s)(k:∀b o,b ∉ ch->s.heap.get? b=some o->h'.get? b=some o)(f:∀b∈ch,lV X pins H b):Inv X pins σ H { s with heap:=h',toks:=t' }:=by
 have CF:∀b u,H b=some u->b ∉ ch:=λb u e z=>by rw[(f b z).1]at e;cases e
 refine I.step (g':=s.gens) (d':=s.drawn) (ch:=ch) (λb hb=>⟨(f b hb).2.2.2.1,(f b hb).2.1,(f b hb).2.2.2.2.1,(f b hb).2.2.2.2.2⟩) (λb o _ _ hc e _=>k b o hc e) (λb o _ _ hc e _=>⟨o.slots,k b o hc e⟩) (λ_ _ _ _ n=>n)
  (λb o hc e=>⟨o,k b o hc e⟩) (λ_ _ e=>e) (λ_ _ _ e=>e) (λb ps e=>⟨#[],by rw[e];simp⟩) (λm hm=>?_) (λb u e=>?_) I.bare
 obtain⟨o,es,ep,ho,r⟩:=hm;exact⟨o,es,ep,k _ o (λz=>(f _ z).2.1 rfl) ho,r⟩;refine(I.hok b u e).stay (λc v hc q=>k c v ?_ q) (λ_ q=>q) λ_ _ q=>q;rcases hc with z|z
 rw[z];exact CF b u e;exact CF c _ z
end
abbrev NH(K:Zfr)(a:Addr):It :=
 ⟨λi H=>∃xs x,d9 K H a xs/\xs[i]?=some x,λi H x H'=>∃p y,x=.ref p/\H p=none/\H'=upd H p (.tup [.int i,y])/\∀xs,d9 K H a xs->xs[i]?=some y,λi H=>∃xs,d9 K H a xs/\xs.length=i⟩
def SW{P:Program}{w:World}{K:Zfr}{es:List Expr}{x1}{pos:Pos}(a e it:Addr)(hne:e≠it):
  Turn P w K (.Tuple es x1 pos) (NH K a) [e,it] e (λi h=>(∃old,IsEnum h e it i old)/\h.IsTupleIter it a i) where
 mem:=by simp
 obj:=λi h st b hb=>by
  obtain⟨⟨old,he⟩,o,e2,c,d⟩:=st;rcases ZY.mp hb with rfl|hb
  exact⟨_,he,λv z=>by
   have z':Data.fields _=Data.cell v:=z
   cases z'⟩
  have q:b=it:=by simpa using hb
  subst q;exact⟨o,e2,λv z=>by rw[d]at z;cases z⟩
 keep:=λi h h' st k=>⟨let ⟨old,he⟩:=st.1;⟨old,k e (by simp) _ he⟩,st.2.at λo q=>k it (by simp) o q⟩
 item:=by
  intro X hP hw hK hc i pins s σ H E I hf st hg;subst hP hw hK;obtain⟨xs,x,hq,hx⟩:=hg;obtain⟨its,rv,p,hz⟩:=I.tuple hq;obtain⟨u,hu,ru⟩:=rv.get hx;obtain⟨⟨old,he⟩,hit⟩:=st;have ht:s.heap.IsTuple a its.toArray:=p;have Kk:a≠it:=λz=>by
   obtain⟨o,e1,c1,_⟩:=hit;obtain⟨o2,e2,c2,_⟩:=ht;rw[z,e1]at e2;cases e2;exact absurd (c1.symm.trans c2) (by simp)
  have SX:e≠a:=λz=>by
   obtain⟨o2,e2,c2,_⟩:=ht;rw[<- z,he]at e2;cases e2;exact absurd c2 (by simp)
  have hl:=rv.length;have hi:i<its.toArray.size:=by
   have:=Zz.mp hu;obtain⟨q,_⟩:=this
   simpa using q
  refine wpAny_pyNext_enum_itemD (t9 (A:=X.A.in1) (I.ok.hd hc) it a Kk its.toArray) he ⟨hit,ht⟩ hi hne (by simp[hne,SX]) λy h1 tk hy ho hst hT hsz kk=>?_;have ey:y=u:=by
   have:its.toArray[i]?=some u:=by simpa using hu
   exact ZN (hy.symm.trans this)
  subst ey;refine⟨_,rfl,wpAny_letOwnedTupleGo_enum ho λh2 SY sb=>?_⟩;have hel:@LT.lt Nat _ e s.heap.objs.size:=ZR he;have hil:@LT.lt Nat _ it s.heap.objs.size:=by obtain⟨o,e1,_⟩:=hit;exact ZR e1
  have S0:H s.heap.objs.size=none:=I.hok.fresh (ZA _);have sb':Heap.SameBut e h1 h2:=sb;have I1:Inv X pins σ (upd H s.heap.objs.size (.tup [.int i,x])) { s with heap:=s.heap.push { cls:=.type "tuple",data:=.seq #[.int i tk,y] },toks:=s.toks } :=
   I.laid (λb u e=>ZD _ e) (ZA _) ⟨(by decide:2<=sizeLine),[.int i tk,y],.cons ⟨tk,rfl⟩ (.cons ru .nil),⟨_,ZX _ rfl,rfl,rfl,_,rfl⟩⟩
  have nn:∀b∈[e,it],@LT.lt Nat _ b s.heap.objs.size:=λb hb=>by
   rcases ZY.mp hb with rfl|hb
   exact hel;have q:b=it:=by simpa using hb
   rw[q];exact hil
  have hn:∀b∈[e,it],upd H s.heap.objs.size (.tup [.int i,x]) b=none:=λb hb=>by
   unfold upd;rw[if_neg (Z8 (nn b hb))];exact(hf b hb).1
  have I2:Inv X pins σ (upd H s.heap.objs.size (.tup [.int i,x])) { s with heap:=h2,toks:=tk+1 }:=by
   refine Inv.vO (s:={ s with heap:=s.heap.push { cls:=.type "tuple",data:=.seq #[.int i tk,y] },toks:=s.toks }) (h':=h2) I1 (ch:=[e,it]) (t':=tk+1) (λb o hb q=>?_) λb hb=>⟨hn b hb,(hf b hb).2⟩;have nb:b≠e/\b≠it:=by simpa using hb
   refine(sb'.2 b nb.1).trans ?_;rcases Heap.get?_push_cases q with⟨rfl,rfl⟩|q
   exact hT;exact kk b o nb.1 nb.2 q
  refine⟨.ref s.heap.objs.size,_,I2,rfl,⟨_,x,rfl,S0,rfl,λys vP=>by rw[I.nZ vP hq];exact hx⟩,⟨⟨y,?_⟩,?_⟩,hn⟩
  have:((i+1:Nat):Int)=(i:Int)+1:=by lk
  rw[this];exact SY;exact hst.1.extBut sb'.extBut (Ne.symm hne)
 done:=by
  intro X hP hw hK hc i pins s σ H E I hf st hg;subst hP hw hK;obtain⟨xs,hq,hx⟩:=hg;obtain⟨its,rv,p,hz⟩:=I.tuple hq;obtain⟨⟨old,he⟩,hit⟩:=st;have ht:s.heap.IsTuple a its.toArray:=p;have Kk:a≠it:=λz=>by
   obtain⟨o,e1,c1,_⟩:=hit;obtain⟨o2,e2,c2,_⟩:=ht;rw[z,e1]at e2;cases e2;exact absurd (c1.symm.trans c2) (by simp)
  have hl:=rv.length;have ei:its.toArray.size=i:=by simp;lk
  refine wpAny_pyNext_enum_endD (t9 (A:=X.A.in1) (I.ok.hd hc) it a Kk its.toArray) he (by rw[ei];exact⟨hit,ht⟩) λh1 eb=>⟨rfl,?_⟩;obtain⟨f0,f1,f2,f3,f4,f5⟩:=hf it (by simp);exact I.turned (t':=s.toks) (λb o hb q=>eb b o hb q) f0 f1 f3 f4 f5
 self:=λ_ _ _ _ _ st h=>let ⟨_,he⟩:=st.1;wpAny_pyIter_enum he h
abbrev xv(K:Zfr)(ta:TA):TI:=λσ H R=>ta σ H λvs H1=>∃a,vs=[.ref a]/\(∃xs,d9 K H1 a xs)/\R (NH K a) H1
def NI{X:Cx}{es:List Expr}{x1}{p0:Pos}{l:Expr}{ta:TA}{p pos:Pos}(hg:Gl X "enumerate")(hm:X.mg "enumerate" = none)(ha:PA X [l] ta)(hs:starEach [l] X.env=[(false,eval l X.env)]:=by rfl):
  PI X (.Tuple es x1 p0) (.Call (.Name "enumerate" p) [l] [] pos) (xv X.K ta):=by
 intro pins s σ H R I h;refine Call_ (BG I hg hm boot_enumerate (PyProof.Rows.callWith_type1 (cf (ha pos pins s σ H _ I h) λus s1 ⟨vs,H1,I1,r1,q1⟩=>?_) hs rfl));obtain⟨a,e,⟨xs,hq⟩,q⟩:=q1;subst e;cases r1 with
 |cons r rr =>
  cases rr;cases r;obtain⟨its,rv,p,hz⟩:=I1.tuple hq;refine SV (show s1.heap.IsTuple a its.toArray from p) λh1 he hi hsz kk=>?_;refine wpAny_pyIter_enum he ?_;refine⟨s1.heap.objs.size+1,[s1.heap.objs.size+1,s1.heap.objs.size],_,_,H1,rfl,I1.kept (t':=s1.toks) kk,SW a _ _ (Nat.succ_ne_self _),⟨⟨_,he⟩,hi⟩,λb hb=>?_,q⟩;have hb':@LE.le Nat _ s1.heap.objs.size b:=by
   rcases ZY.mp hb with rfl|hb
   exact ZaJ _;have e:b=s1.heap.objs.size:=by simpa using hb
   rw[e];exact ZA _
  exact I1.sf hb' (I1.hok.fresh hb')
section
open Sem (wp)
open PySem.AutoSeq1 (wpAny_loadPart')
open PySem.MeetsSeq PySem.MeetsSeq2 PySem.MeetsSeq3
def IntsAre.get{vs:List Value}{ns:List Int}(h:IntsAre vs ns):∀{i:Nat} {n:Int},ns[i]?=some n->∃t,vs[i]?=some (.int n t):=by
 induction h with
 |nil=>intro i n e;simp at e
 |cons a t h ih =>
  intro i n e;cases i with
  |zero=>exact⟨t,by simpa using e⟩
  |succ i=>simpa using ih (by simpa using e)
def ua(l:Addr)(items:Array Value)(n:Nat)(dd:Option Addr)(sl:Array (Option Value))(ns:List Int)(hi:IntsAre items.toList ns)(v:Int)(t:Tok)(j:Nat)(hj:ns[j]?=some v)(hb:∀i,i<j->ns[i]?≠some v):
  Meets (Builtin.«tuple.index» ⟨[.ref l,.int v t],[]⟩)
   (λ_ R s=>s.heap.get? l=some { cls:=.type "tuple",dict:=dd,data:=.seq items n,slots:=sl }/\R (.ok (.ret (.int (j:Int) s.toks))) { s with toks:=s.toks+1 }) :=
 .of_wp λprog w A R s h=>by
  obtain⟨hp,g,d,tk,os⟩:=s;obtain⟨hl,h⟩:=h;have z1:items.size=ns.length:=by rw[<- hi.length];simp
  have hjl:j<ns.length:=(Zz.mp hj).1
  wp_walk using wpAny_loadPart' hl
  have key:wpAny (model prog w) A.in1 (forIn (m:=Sem) [:min items.size items.size] ((none,()):Option Fin×Unit) (λ(i:Nat) _ =>
    match items[i]? with
    |some y=>do
     let b <- eqBool y (Value.int v t)
     if b=true then do
      let r <- retInt (i:Int)
      pure (ForInStep.done (some r,()))
     else pure (ForInStep.yield (none,()))
    |_=>pure (ForInStep.yield (none,()))))
   (λa s'=>a.1=some (.done (.ret (.int (j:Int) tk)))/\s'=⟨hp,g,d,tk+1,os⟩) (λe s'=>R (Except.error e) s') ⟨hp,g,d,tk,os⟩:=by
   rw[Std.Legacy.Range.forIn_eq_forIn_range'];have ez:([:min items.size items.size]:Std.Legacy.Range).size=ns.length:=by
    simp[Std.Legacy.Range.size,z1]
   rw[ez];refine wpAny_forIn_list _ (λrest b s'=>b.1=none/\s'=⟨hp,g,d,tk,os⟩/\∃k,k<=j/\rest=List.range' k (ns.length-k) 1) _ ?_ ?_ _ _ ⟨rfl,rfl,0,Zaa _,by simp⟩;rintro x rest b s' ⟨hb',rfl,k,hk,e⟩;have el:ns.length-k=(ns.length-(k+1))+1:=by lk
   rw[el,List.range'_succ]at e;injection e with e1 e2;subst e1;have nK:x<ns.length:=by lk
   obtain⟨t',ht'⟩:=IntsAre.get hi (Zy nK);have S1:items[x]?=some (.int ns[x] t'):=by rw[<- ht',Zao]
   simp only[S1];obtain⟨e,he,hiff⟩:=HT.RQ A.in1 ⟨hp,g,d,tk,os⟩ ns[x] t' v t;refine wpAny_bind (he prog w _ _ ?_);cases e with
   |true =>
    have ev:ns[x]=v:=hiff.mp rfl;have S2:x=j:=by
     rcases Zbd x j with h'|h'
     exact absurd (by rw[Zy nK,ev]) (hb x h');lk
    subst S2
    wp_walk
    first|exact⟨rfl,rfl⟩|trivial
   |false =>
    have ev:ns[x]≠v:=λq=>absurd (hiff.mpr q) ZC;have:x≠j:=λz=>ev (by subst z;rw[Zy nK]at hj;exact ZN hj)
    wp_walk
    exact⟨rfl,rfl,x+1,by lk,e2⟩
   rintro b s' ⟨hb',rfl,k,hk,e⟩
   have:(List.range' k (ns.length-k) 1).length=0:=by rw[<- e];rfl
   rw[List.length_range']at this;lk
  refine wpAny_mono key (λa s' ha=>?_) (λ_ _ z=>z);obtain⟨ha,rfl⟩:=ha;obtain⟨a1,a2⟩:=a;cases(show a1=_ from ha);exact wpAny_pure ⟨_,rfl,h⟩
end
section
variable {X:Cx}{K:Zfr}
abbrev qJ(K:Zfr):V->List V->Hp->VK->Prop:=λx vs H Q=>∃(a:Addr) (ns:List Int) (v:Int) (j:Nat),x=.ref a/\vs=[.int v]/\d9 K H a (ns.map V.int)/\ns[j]?=some v/\(∀i,i<j->ns[i]?≠some v)/\Q (.int (j:Int)) H
def S3:xh X "tuple.index" (qJ X.K):=by intro pins s σ H x xs v us Q I rx rv h;obtain⟨a,ns,y,j,rfl,rfl,hq,hj,hb,q⟩:=h;cases rx;obtain⟨u,rfl,t,rfl⟩:=vals1 rv;obtain⟨its,r,⟨⟨c,dd,dt,sl⟩,e,hc,hd,n,hdt⟩,hz⟩:=I.oK hq;cases(show c=.type "tuple" from hc);cases(show dt=.seq its.toArray n from hdt);refine call_meets F.slot_tuple_index ⟨_,e,rfl⟩ F.entry_tuple_index (F.args_tuple_index_2 _ _) (ua a its.toArray n dd sl ns (by simpa using JM r) y t j hj hb) ⟨e,?_⟩;exact⟨.int j,H,I.tok _,⟨_,rfl⟩,q⟩
def Kl(hK:X.K=K):xh X "tuple.index" (qJ K):=by subst hK;exact S3
def G8{o e:Expr}{es:List Expr}{to:TE}{t:TA}{name:Str}{apos cpos:Pos}{T id:String}{r:V->List V->Hp->VK->Prop}(hK:X.K=K)(pa:PlainAttrs T)(slot:Slot T name id)(hty:typeOf (.builtin id)=pure (.type "method_descriptor"))(hm:xh X id r)(ho:PE X o to)(ha:PA X (e :: es) t)
  (hbase:attributeBase o name X.env (eval o X.env)=eval o X.env:=by rfl)
  (hfew:((backTo cpos (starEach (e :: es) X.env)).all (λx=>!x.1) && (backToKw cpos (keywordEach [] X.env)).all (λx=>x.1.isSome)
   && decide ((e :: es).length+([]:List Keyword).length+(if([]:List Keyword).isEmpty then 0 else 1)<30))=true:=by rfl)
  (hline:(apos.endLine == cpos.line)=true:=by rfl) (hs:starEach (e :: es) X.env=(false,eval e X.env) :: starEach es X.env:=by rfl) (hplain:(backTo cpos (starEach es X.env)).any (·.1)=false:=by rfl) :
  PE X (.Call (.Attribute o name apos) (e :: es) [] cpos) (JV K T r to t):=by subst hK;exact nF pa slot hty hm ho ha hbase hfew hline hs hplain
end
open Builtin.Str
end L2
namespace L2
open PySem PySem.Spec PyProof.Rows
open Builtin.Str
end L2
namespace L2
open PySem PySem.Spec PyProof.Rows
section
variable {X:Cx}{K:Zfr}
abbrev eD(us:List Value)(ds:List PyData)(dx:PyData)(u:Value):Bool:=@decide (∃(i:Nat) (d:PyData),us[i]?=some u/\ds[i]?=some d/\PyData.eqv d dx=true) (Classical.propDecidable _)
def fD.get:∀{H:Hp} {vs:List V} {ds:List PyData},fD K H vs ds->∀{i:Nat} {v:V},vs[i]?=some v->∃d,ds[i]?=some d/\Rep K H v d
 |_,_,_,.nil,i,v,e=>by simp at e
 |_,_,_,.cons (d:=d) a b,0,v,e=>⟨d,by simp,by have:_=v:=ZN (by simpa using e);rw[<- this];exact a⟩
 |_,_,_,.cons a b,i+1,v,e=>by
  obtain⟨d,e1,r⟩:=fD.get b (i:=i) (by simpa using e);exact⟨d,by simpa using e1,r⟩
def fD.vQ:∀{H:Hp} {vs:List V} {ds:List PyData},fD K H vs ds->vs.length=ds.length
 |_,_,_,.nil=>rfl
 |_,_,_,.cons _ r=>by rw[Z2,Z2,fD.vQ r]
def Vals.Dz{xs:List V}{us:List Value}(r:Vals xs us){i:Nat}{u:Value}(h:us[i]?=some u):∃v,xs[i]?=some v/\RelV v u:=by have hi:=(Zz.mp h).1;have hl:=r.length;obtain⟨u',hu,ru⟩:=r.get (i:=i) (x:=xs[i]'⋯) (Zy _);rw[h]at hu;cases hu;exact⟨_,Zy _,ru⟩
open Classical in
def Km{pins:List (Addr×Obj)}{σ:St}{H:Hp}{s:Shared}{xs:List V}{us:List Value}{ds:List PyData}{x:V}{v:Value}{dx:PyData}(hu:X.A.units+64<cLine)(I:Inv X pins σ H s)(r:Vals xs us)(hr:fD X.K H xs ds)(rx:RelV x v)(hx:Rep X.K H x dx)(c1:∀d∈ds,d.canLay0=true)(c2:dx.canLay0=true)(c3:dx.depth<=60):
  ∀u∈us,SeqAt.EqAt X.A.in1 s u v (eD us ds dx u):=by
 intro u hm;obtain⟨bs,rb⟩:=hx.reads I rx;have key:∀(i:Nat) (d:PyData),us[i]?=some u->ds[i]?=some d->SeqAt.EqAt X.A.in1 s u v (PyData.eqv d dx):=λi d h1 h2=>by
  obtain⟨y,hy,ry⟩:=r.Dz h1;obtain⟨d',hd',rd⟩:=hr.get hy;rw[h2]at hd';cases hd';obtain⟨as,ra⟩:=rd.reads I ry;intro prog w E Q q;refine SeqAt.eqBoolOverData prog w X.A.in1 E s u v d dx as bs Q ra rb (c1 _ (ZF h2)) c2 ?_ q;have:X.A.in1.units<=X.A.units+2:=by
   first|exact Nat.le_add_right _ _|(show X.A.units<=_;lk)|(show X.A.units+1<=_;lk)
  lk
 obtain⟨i,hi⟩:=Zay hm;have hl1:=r.length;have hl2:=hr.vQ;have hil:=(Zz.mp hi).1;unfold eD;by_cases h:∃(i:Nat) (d:PyData),us[i]?=some u/\ds[i]?=some d/\PyData.eqv d dx=true;rw[decide_eq_true h];obtain⟨j,d,h1,h2,h3⟩:=h;have:=key j d h1 h2
 rwa [h3]at this
 rw[decide_eq_false h];have h2:ds[i]?=some (ds[i]'⋯):=Zy _;have k:=key i _ hi h2;cases hb:PyData.eqv (ds[i]'⋯) dx with
 |true=>exact absurd ⟨i,_,hi,h2,hb⟩ h
 |false=>rwa [hb]at k
open Classical in
def y4{xs:List V}{us:List Value}{ds:List PyData}{dx:PyData}(h1:us.length=ds.length):us.any (eD us ds dx)=ds.any λd=>PyData.eqv d dx:=by rw[Za7,List.any_eq_true,List.any_eq_true];constructor;rintro⟨u,hu,h⟩;unfold eD at h;obtain⟨i,d,_,h2,h3⟩:=of_decide_eq_true h;exact⟨d,ZF h2,h3⟩;rintro⟨d,hd,h⟩;obtain⟨i,hi⟩:=Zay hd;have hil:=(Zz.mp hi).1;refine⟨us[i]'⋯,Zas _,?_⟩;unfold eD;exact decide_eq_true ⟨i,d,Zy _,hi,h⟩
abbrev DA(K:Zfr)(neg:Bool):R2:=λx y H Q=>∃p xs ds dx,y=.ref p/\(jM K H p xs\/d9 K H p xs)/\fD K H xs ds/\Rep K H x dx/\(∀d∈ds,PyData.canLay0 d=true)/\PyData.canLay0 dx=true/\PyData.depth dx<=60/\Q (.bl (if neg then !ds.any (λd=>PyData.eqv d dx)else ds.any λd=>PyData.eqv d dx)) H
def G9(hu:X.A.units+64<cLine):kL X (compareOp .NotIn) (DA X.K true):=by
 intro pins s σ H x y v u Q I rx ry h;obtain⟨p,xs,ds,dx,rfl,hq,hr,hx,c1,c2,c3,q⟩:=h;cases ry;have e2:∀{its:List Value},Vals xs its->its.toArray.any (eD its ds dx)=ds.any λd=>PyData.eqv d dx:=λ{its} r=>by
  rw[show its.toArray.any (eD its ds dx)=its.any (eD its ds dx) by simp];exact y4 (xs:=xs) (by rw[<- r.length];exact hr.vQ)
 rcases hq with hq|hq
 obtain⟨its,r,pl,hz⟩:=I.list hq;refine SeqAt.notIn_listAt (eD its ds dx) pl.isList (λw hw=>Km hu I r hr rx hx c1 c2 c3 w (by simpa using hw)) ⟨.bl _,H,I,rfl,?_⟩;rw[e2 r];exact q;obtain⟨its,r,pl,hz⟩:=I.tuple hq;refine SeqAt.notIn_tupleAt (eD its ds dx) pl (λw hw=>Km hu I r hr rx hx c1 c2 c3 w (by simpa using hw)) ⟨.bl _,H,I,rfl,?_⟩;rw[e2 r];exact q
end
open Builtin.Str
end L2
namespace L2
open PySem PySem.Spec PyProof.Rows
open Builtin
end L2
namespace L2
open PySem PySem.Spec PyProof.Rows
abbrev DU(a:Addr)(xs:List (List Int×Addr×Value)):HO:=.ext λh=>(a == sysModules)=false/\xs.length<=sizeLine/\∃o es ep,h.get? a=some o/\o.ExactDict/\o.data=.dict es ep /\
 (∃(P:Program) (w:World),es.toList=xs.map (entryOfKey (tupleKind (intKind P w))))/\(xs.map (·.1)).Nodup
end L2
namespace L2
open PySem PySem.Spec PyProof.Rows PySem.SeqAt PySem.MeetsSeq
abbrev oR(A:Around)(s:Shared)(y x:Value)(r:Bool):Prop:=∀(prog:Program) (w:World) (E Q:Value->Shared->Prop),Q (.bool r) s->wpAny (model prog w) A (richCompare .Lt y x) Q E s
abbrev cU(e lt:Nat->Bool)(fin:Bool):List Nat->Bool
 |[]=>fin
 |i :: r=>if e i then cU e lt fin r else lt i
def S4(l m:Addr)(a b:Array Value)(n1 n2:Nat)(d1 d2:Option Addr)(s1 s2:Array (Option Value))(e lt:Nat->Bool):
  Meets (Builtin.«tuple.__lt__» ⟨[.ref l,.ref m],[]⟩) (λA R s=>s.heap.get? l=some { cls:=.type "tuple",dict:=d1,data:=.seq a n1,slots:=s1 }/\s.heap.get? m=some { cls:=.type "tuple",dict:=d2,data:=.seq b n2,slots:=s2 } /\
    (∀j (h1:j<a.size) (h2:j<b.size),EqAt A.in1 s a[j] b[j] (e j))/\(∀j (h1:j<a.size) (h2:j<b.size),e j=false->oR A.in1 s a[j] b[j] (lt j))/\R (.ok (.ret (.bool (cU e lt (decide (a.size<b.size)) (List.range (min a.size b.size)))))) s) :=
 .of_wp λprog w A R s h=>by
  obtain⟨hp,g,d,tk,os⟩:=s;obtain⟨hl,hm,he,hlt,h⟩:=h;have f2:=AutoSeq1.sub_tuple_tuple;have hZ:(a.toList.zip b.toList).length=min a.size b.size:=by simp
  wp_walk using wpAny_loadPart' hl,wpAny_loadPart' hm,wpAny_forIn_list _ (λrest q s'=>q.1=none/\s'=⟨hp,g,d,tk,os⟩/\∃i,rest=(a.toList.zip b.toList).drop i/\R (.ok (.ret (.bool (cU e lt (decide (a.size<b.size)) ((List.range (min a.size b.size)).drop i))))) ⟨hp,g,d,tk,os⟩) _
  case turn =>
   rintro⟨y,x⟩ rest q s' ⟨hq,rfl,i,hz,hR⟩;have hil:i<(a.toList.zip b.toList).length:=by
    rcases Zbd i (a.toList.zip b.toList).length with k|k
    ·exact k
    ·rw[Zbo k]at hz;cases hz
   have hmn:i<min a.size b.size:=hZ ▸ hil;have g1:i<a.size:=by lk
   have g2:i<b.size:=by lk
   rw[ZaY hil]at hz;injection hz with hyx hrest;have hy:y=a[i]:=by simpa using congrArg Prod.fst hyx
   have hx:x=b[i]:=by simpa using congrArg Prod.snd hyx
   subst hy hx;have hd:(List.range (min a.size b.size)).drop i=i :: (List.range (min a.size b.size)).drop (i+1):=by simp[ZaY,hmn]
   rw[hd,cU]at hR;refine wpAny_bind (he i g1 g2 prog w _ _ ?_);cases hei:e i with
   |true =>
    rw[hei]at hR
    wp_walk
    exact⟨rfl,rfl,i+1,hrest,hR⟩
   |false =>
    rw[hei]at hR;refine wpAny_bind (wpAny_rule (wpAny_bind (hlt i g1 g2 hei prog w _ _ ?_)))
    wp_walk
    exact⟨_,rfl,hR⟩
  case fin =>
   rintro⟨q1,q2⟩ s' ⟨hq,rfl,i,hz,hR⟩;simp only at hq;subst hq;have hge:min a.size b.size<=i:=by
    rcases Zbd i (a.toList.zip b.toList).length with k|k
    ·rw[ZaY k]at hz;cases hz
    ·exact hZ ▸ k
   rw[Zbo (by simpa using hge),cU]at hR
   wp_walk
   exact⟨_,rfl,by simpa[Builtin.Tuple.tupleCompareSizes]using hR⟩
  case h =>
   exact⟨rfl,rfl,0,rfl,by simpa using h⟩
def oR.tuples{A:Around}{s:Shared}{l m:Addr}{a b:Array Value}{e lt:Nat->Bool}(hl:s.heap.IsTuple l a)(hm:s.heap.IsTuple m b)(hu:A.units<cLine)
  (he:∀j (h1:j<a.size) (h2:j<b.size),EqAt A.in1 s a[j] b[j] (e j)) (hlt:∀j (h1:j<a.size) (h2:j<b.size),e j=false->oR A.in1 s a[j] b[j] (lt j)) :
  oR A s (.ref l) (.ref m) (cU e lt (decide (a.size<b.size)) (List.range (min a.size b.size))):=λprog w E Q h=>by
 obtain⟨⟨c1,d1,t1,s1⟩,o1,k1,n1,j1⟩:=hl;obtain⟨⟨c2,d2,t2,s2⟩,o2,k2,n2,j2⟩:=hm;simp only at k1 j1 k2 j2;subst k1 j1 k2 j2;exact richCompare_meets_room (op:=.Lt) ⟨_,o1,rfl⟩ ⟨_,o2,rfl⟩ F.slot_tuple_lt F.entry_tuple_lt (F.args_tuple_lt_2 _ _) (S4 l m a b n1 n2 d1 d2 s1 s2 e lt)
  ⟨o1,o2,he,hlt,show Value.bool (cU e lt (decide (a.size<b.size)) (List.range (min a.size b.size)))≠Value.notImplemented/\Q (.bool (cU e lt (decide (a.size<b.size)) (List.range (min a.size b.size)))) s from⟨(λx=>nomatch x),h⟩⟩ hu
mutual
abbrev lU:PyData->PyData->Bool
 |.int a,.int b=>decide (a<b)
 |.tuple xs,.tuple ys=>cz xs ys
 |_,_=>false
abbrev cz:List PyData->List PyData->Bool
 |[],[]=>false
 |[],_ :: _=>true
 |_ :: _,[]=>false
 |x :: xs,y :: ys=>if PyData.eqv x y then cz xs ys else lU x y
end
mutual
abbrev gf:PyData->PyData->Bool
 |.int _,.int _=>true
 |.tuple xs,.tuple ys=>cV xs ys
 |_,_=>false
abbrev cV:List PyData->List PyData->Bool
 |[],_=>true
 |_ :: _,[]=>true
 |x :: xs,y :: ys=>gf x y && cV xs ys
end
def NJ(e lt:Nat->Bool)(fin:Bool)(f:Nat->Nat):∀l:List Nat,cU e lt fin (l.map f)=cU (λi=>e (f i)) (λi=>lt (f i)) fin l
 |[]=>rfl
 |i :: r=>by
  show(if e (f i)then cU e lt fin (r.map f)else lt (f i))=if e (f i)then _ else lt (f i)
  rw[NJ e lt fin f r]
abbrev qK(xs ys:List PyData)(j:Nat):Bool:=lU (xs.getD j .none) (ys.getD j .none)
def NK:∀xs ys:List PyData,cU (pairEq xs ys) (qK xs ys) (decide (xs.length<ys.length)) (List.range (min xs.length ys.length))=cz xs ys
 |[],[]=>rfl
 |[],_ :: _=>by simp[cU,cz]
 |_ :: _,[]=>by simp[cU,cz]
 |x :: xs,y :: ys=>by
  have ih:=NK xs ys;have e1:min (x :: xs).length (y :: ys).length=min xs.length ys.length+1:=by simp only[Z2];lk
  have e2:decide ((x :: xs).length<(y :: ys).length)=decide (xs.length<ys.length):=by simp
  rw[e1,e2,List.range_succ_eq_map,cU,NJ];show(if PyData.eqv x y then cU (pairEq xs ys) (qK xs ys) (decide (xs.length<ys.length)) (List.range (min xs.length ys.length))else lU x y)=_;rw[ih,cz]
mutual
def Kn:∀(da db:PyData) (A:Around) (s:Shared) (a b:Value) (as bs:List Addr),Reads s.heap a da as->Reads s.heap b db bs->gf da db=true->da.canLay0=true->db.canLay0=true->A.units+min da.depth db.depth<cLine->oR A s a b (lU da db)
 |.int x,.int y,A,s,_,_,_,_,ra,rb,_,_,_,_=>by
  cases ra with
  |int _ t =>
   cases rb with
   |int _ u=>exactλprog w E Q h=>richCompare_gives (op:=.Lt) (typeIs_int s _ t) (typeIs_int s _ u) F.slot_int_lt F.entry_int_lt (F.args_int_lt_2 _ _) (gives_int_lt _ _ t u) (λx=>nomatch x) h
 |.tuple xs,.tuple ys,A,s,_,_,_,_,ra,rb,ok,ha,hb,hu=>by
  cases ra with
  |@tuple l o vs n _ NL h1 h2 h3 h4 =>
   cases rb with
   |@tuple l' o' vs' n' _ S5 k1 k2 k3 k4 =>
    have t1:s.heap.IsTuple l vs:=⟨_,h1,h2,_,h3⟩;have t2:s.heap.IsTuple l' vs':=⟨_,k1,k2,_,k3⟩;have n1:vs.size=xs.length:=by simpa using ReadsAll.length _ _ _ h4
    have n2:vs'.size=ys.length:=by simpa using ReadsAll.length _ _ _ k4
    show oR A s (.ref l) (.ref l') (cz xs ys);rw[<- NK xs ys,<- n1,<- n2];refine oR.tuples t1 t2 (room_here hu) (λj j1 j2=>?_) (λj j1 j2 _=>?_);have z:=eqAt_readsAll xs ys A.in1 s vs.toList vs'.toList _ _ h4 k4 ha hb (room_in hu) j (by simpa using j1) (by simpa using j2);simpa using z;have z:=NM xs ys A.in1 s vs.toList vs'.toList _ _ h4 k4 ok ha hb (room_in hu) j (by simpa using j1) (by simpa using j2);simpa using z
 |.int _,.none,_,_,_,_,_,_,_,_,ok,_,_,_=>nomatch ok
 |.int _,.bool _,_,_,_,_,_,_,_,_,ok,_,_,_=>nomatch ok
 |.int _,.str _,_,_,_,_,_,_,_,_,ok,_,_,_=>nomatch ok
 |.int _,.list _,_,_,_,_,_,_,_,_,ok,_,_,_=>nomatch ok
 |.int _,.tuple _,_,_,_,_,_,_,_,_,ok,_,_,_=>nomatch ok
 |.int _,.dict _,_,_,_,_,_,_,_,_,ok,_,_,_=>nomatch ok
 |.tuple _,.none,_,_,_,_,_,_,_,_,ok,_,_,_=>nomatch ok
 |.tuple _,.bool _,_,_,_,_,_,_,_,_,ok,_,_,_=>nomatch ok
 |.tuple _,.int _,_,_,_,_,_,_,_,_,ok,_,_,_=>nomatch ok
 |.tuple _,.str _,_,_,_,_,_,_,_,_,ok,_,_,_=>nomatch ok
 |.tuple _,.list _,_,_,_,_,_,_,_,_,ok,_,_,_=>nomatch ok
 |.tuple _,.dict _,_,_,_,_,_,_,_,_,ok,_,_,_=>nomatch ok
 |.none,_,_,_,_,_,_,_,_,_,ok,_,_,_=>by simp[gf]at ok
 |.bool _,_,_,_,_,_,_,_,_,_,ok,_,_,_=>by simp[gf]at ok
 |.str _,_,_,_,_,_,_,_,_,_,ok,_,_,_=>by simp[gf]at ok
 |.list _,_,_,_,_,_,_,_,_,_,ok,_,_,_=>by simp[gf]at ok
 |.dict _,_,_,_,_,_,_,_,_,_,ok,_,_,_=>by simp[gf]at ok
def NM:∀(xs ys:List PyData) (A:Around) (s:Shared) (vs ws:List Value) (as bs:List Addr),ReadsAll s.heap vs xs as->ReadsAll s.heap ws ys bs->cV xs ys=true->PyData.canLayAll0 xs=true->PyData.canLayAll0 ys=true->A.units+min (PyData.depthAll xs) (PyData.depthAll ys)<cLine->∀j (h1:j<vs.length) (h2:j<ws.length),oR A s vs[j] ws[j] (qK xs ys j)
 |[],_,_,_,_,_,_,_,ra,_,_,_,_,_,j,h1,_=>by cases ra;exact absurd h1 (Zaf _)
 |_ :: _,[],_,_,_,_,_,_,_,rb,_,_,_,_,j,_,h2=>by cases rb;exact absurd h2 (Zaf _)
 |x :: xs,y :: ys,A,s,_,_,_,_,ra,rb,ok,ha,hb,hu,j,h1,h2=>by
  have a':x.canLay0=true/\PyData.canLayAll0 xs=true:=by simpa[PyData.canLayAll0]using ha
  have b':y.canLay0=true/\PyData.canLayAll0 ys=true:=by simpa[PyData.canLayAll0]using hb
  have o':gf x y=true/\cV xs ys=true:=by simpa[cV]using ok
  cases ra with
  |cons r rs =>
   cases rb with
   |cons r' rs' =>
    cases j with
    |zero=>exact Kn x y A s _ _ _ _ r r' o'.1 a'.1 b'.1 (room_head hu)
    |succ j=>exact NM xs ys A s _ _ _ _ rs rs' o'.2 a'.2 b'.2 (room_tail hu) j (Nat.lt_of_succ_lt_succ h1) (Nat.lt_of_succ_lt_succ h2)
end
section
variable {prog:Program}{w:World}{A:Around}{R:Result->Shared->Prop}{I:Addr}{fp wr:List Addr}{n:Nat}{P:Nat->Value->Prop}{St:Nat->Heap->Prop}
abbrev iF(a b:Heap):Prop:=∀x o,a.get? x=some o->b.get? x=some o
abbrev y6(A:Around)(h0:Heap)(P:Nat->Value->Prop)(bt:Nat->Nat->Bool):Prop:=∀i j vi vj (s:Shared),iF h0 s.heap->P i vi->P j vj->oR A s vi vj (bt i j)
def Hc:(toString "min" ++ toString ".loop" : String)="min.loop" := by decide
def Ko(W:Walks prog w A.in1 I fp wr n P St)(bt:Nat->Nat->Bool){h0:Heap}(hcmp:y6 A.in1 h0 P bt)(S:Addr)(hSf:S ∉ fp)(y8:h0.get? S=none)(hw0:∀b∈wr,h0.get? b=none):
  ∀(k j:Nat) (s:Shared) (vb:Value) (c:Nat),n-(j+1)=k->j+1<=n->St (j+1) s.heap->P (argBest bt j) vb->iF h0 s.heap->s.heap.get? S=some { cls:=.type "list",dict:=none,data:=.seq #[vb,vb] c,slots:=#[] } ->
  (∀v h' tk,P (argBest bt (n-1)) v->iF h0 h'->R (.ok (.ret v)) { s with heap:=h',toks:=tk })->codeAny (model prog w) A (.builtin "min.loop" ⟨[.ref I,.none,.ref S],[]⟩) R s
 |0,j,s,vb,c,hk,hj,hst,He,hK,hS,hR=>by
  have DB:S ∉ wr:=λz=>hSf (W.sub S z);have hin:n=j+1:=by lk
  subst hin;refine codeAny_builtin F.entry_min_loop ?_;rw[Around.under_plainId F.plain_min_loop (A:=A) _];show wpAny (model prog w) A.in1 (seqItems? (.ref S) >>= _) _ _ _;refine wpAny_bind (wpAny_seqItems hS rfl ?_);show wpAny (model prog w) A.in1 (tryCatch (pyNext (.ref I)) _ >>= _) _ _ _;refine wpAny_bind (wpAny_tryCatch (W.done s _ _ hst λh' tk hk'=>?_));have hS':=hk' S _ DB hS;show wpAny (model prog w) A.in1 (updateSeq S (λ_=>#[]) >>= _) _ _ _;refine wpAny_bind (wpAny_updateSeq hS' rfl (wpAny_bind (wpAny_letGo (wpAny_pure (hR vb _ tk He λb o e=>?_)))));have hb1:b ∉ wr:=λz=>by rw[hw0 b z]at e;cases e
  have hb2:S≠b:=λz=>by rw[<- z,y8]at e;cases e
  exact(ZZ _ _ hb2).trans (hk' b o hb1 (hK b o e))
 |k+1,j,s,vb,c,hk,hj,hst,He,hK,hS,hR=>by
  have DB:S ∉ wr:=λz=>hSf (W.sub S z);have hlt:j+1<n:=by lk
  refine codeAny_builtin F.entry_min_loop ?_;rw[Around.under_plainId F.plain_min_loop (A:=A) _];show wpAny (model prog w) A.in1 (seqItems? (.ref S) >>= _) _ _ _;refine wpAny_bind (wpAny_seqItems hS rfl ?_);show wpAny (model prog w) A.in1 (tryCatch (pyNext (.ref I)) _ >>= _) _ _ _;refine wpAny_bind (wpAny_tryCatch (W.item (j+1) s _ _ hlt hst λv h' tk hP vR hk'=>?_));have hS':=hk' S _ DB hS;have DC:iF h0 h':=λb o e=>hk' b o (λz=>by rw[hw0 b z]at e;cases e) (hK b o e);show wpAny (model prog w) A.in1 (tryCatch (holding [v,v] (richCompare .Lt v vb >>= _)) _ >>= _) _ _ _;refine wpAny_bind (wpAny_tryCatch (wpAny_holding (wpAny_bind (hcmp (j+1) (argBest bt j) v vb _ DC hP He prog w _ _ ?_))));refine wpAny_bind (wpAny_holding (wpAny_truthy_bool (wpAny_bind (wpAny_letGo (wpAny_pure ?_)))));cases hb:bt (j+1) (argBest bt j)with
  |true =>
   simp only[if_true];refine wpAny_bind (wpAny_updateSeq hS' rfl (wpAny_bind (wpAny_letGo ?_)));rw[Hc];have Kq:iF h0 (h'.update S (Obj.mapSeq λ_=>#[v,v])):=λb o e=>(ZZ _ _ (λz=>by rw[<- z,y8]at e;cases e)).trans (DC b o e);refine wpAny_pure ⟨plainId_quiet F.plain_min_loop _,Ko W bt hcmp S hSf y8 hw0 k (j+1) _ v _ ⋯ hlt (W.frame _ _ _ vR λb Kr o e=>?_) (by simp only[argBest,hb,if_true];exact hP) Kq (Zak _ hS' rfl) λv' h'' ub DE uc=>hR v' h'' ub DE uc⟩;exact(ZZ _ _ (λz:S=b=>hSf (z ▸ Kr))).trans e
  |false =>
   simp only[Zah,if_false];refine wpAny_bind (wpAny_letGo ?_);rw[Hc];exact wpAny_pure ⟨plainId_quiet F.plain_min_loop _,Ko W bt hcmp S hSf y8 hw0 k (j+1) _ vb c ⋯ hlt vR (by simp only[argBest,hb,Zah,if_false];exact He) DC hS' λv' h'' ub DE uc=>hR v' h'' ub DE uc⟩
def S6(W:Walks prog w A.in1 I fp wr n P St)(bt:Nat->Nat->Bool){h0:Heap}(hcmp:y6 A.in1 h0 P bt)(S:Addr)(hSf:S ∉ fp)(y8:h0.get? S=none)(hw0:∀b∈wr,h0.get? b=none)(hn:0<n){s:Shared}{c:Nat}(hst:St 0 s.heap)(hK:iF h0 s.heap)
  (hS:s.heap.get? S=some { cls:=.type "list",dict:=none,data:=.seq #[] c,slots:=#[] }) (hR:∀v h' tk,P (argBest bt (n-1)) v->iF h0 h'->R (.ok (.ret v)) { s with heap:=h',toks:=tk }) :
  codeAny (model prog w) A (.builtin "min.loop" ⟨[.ref I,.none,.ref S],[]⟩) R s:=by
 have DB:S ∉ wr:=λz=>hSf (W.sub S z);refine codeAny_builtin F.entry_min_loop ?_;rw[Around.under_plainId F.plain_min_loop (A:=A) _];show wpAny (model prog w) A.in1 (seqItems? (.ref S) >>= _) _ _ _;refine wpAny_bind (wpAny_seqItems hS rfl ?_);show wpAny (model prog w) A.in1 (tryCatch (pyNext (.ref I)) _ >>= _) _ _ _;refine wpAny_bind (wpAny_tryCatch (W.item 0 s _ _ hn hst λv h' tk hP vR hk'=>?_));have hS':=hk' S _ DB hS;have DC:iF h0 h':=λb o e=>hk' b o (λz=>by rw[hw0 b z]at e;cases e) (hK b o e);show wpAny (model prog w) A.in1 (updateSeq S (λ_=>#[v,v]) >>= _) _ _ _;refine wpAny_bind (wpAny_updateSeq hS' rfl ?_);rw[Hc];have Kq:iF h0 (h'.update S (Obj.mapSeq λ_=>#[v,v])):=λb o e=>(ZZ _ _ (λz=>by rw[<- z,y8]at e;cases e)).trans (DC b o e);refine wpAny_pure ⟨plainId_quiet F.plain_min_loop _,Ko W bt hcmp S hSf y8 hw0 _ 0 _ v _ rfl hn (W.frame _ _ _ vR λb Kr o e=>?_) hP Kq (Zak _ hS' rfl) λv' h'' ub DE uc=>hR v' h'' ub DE uc⟩;exact(ZZ _ _ (λz:S=b=>hSf (z ▸ Kr))).trans e
end
section
variable {prog:Program}{w:World}{A:Around}{E:Value->Shared->Prop}{s:Shared}
def S7{p:Addr}{its:Array Value}{bt:Nat->Nat->Bool}{Q:Value->Shared->Prop}(hh:A.handled=none)(hl:s.heap.IsList p its)(hn:0<its.size)(hcmp:y6 A.in1 s.heap (λi v=>its[i]?=some v) bt)
  (hQ:∀v h' tk,its[argBest bt (its.size-1)]?=some v->iF s.heap h'->Q v { s with heap:=h',toks:=tk }):wpAny (model prog w) A (call (.builtin "min") [.ref p]) Q E s:=by
 have hlt:p<s.heap.objs.size:=by obtain⟨_,e,_⟩:=hl;exact ZR e
 have e0:s.heap.get? s.heap.objs.size=none:=by
  cases q:s.heap.get? s.heap.objs.size with
  |none=>rfl
  |some o=>exact absurd (ZR q) (Za5 _)
 have e1:s.heap.get? (s.heap.objs.size+1)=none:=by
  cases q:s.heap.get? (s.heap.objs.size+1)with
  |none=>rfl
  |some o=>exact absurd (ZR q) (Nat.not_lt_of_le (ZaJ _))
 refine call_function_tree F.kind_min F.plain_min F.entry_min (F.args_min1 _) ?_;show wpAny (model prog w) A.in1 (Builtin.Builtins.bindParams "min" ["key","default"] 0 ⟨[],[]⟩ >>= _) _ _ _;refine wpAny_bind (wpAny_of_eq (show Builtin.Builtins.bindParams "min" ["key","default"] 0 ⟨[],[]⟩=pure [none,none]from rfl) (wpAny_bind (wpAny_pure ?_)));refine wpAny_bind (wpAny_pyIter_list hl (wpAny_bind (wpAny_newObj_type ?_)));have hsz:(s.heap.push { cls:=.type "list_iterator",data:=.fields #[.ref p,.int 0 0] }).objs.size=s.heap.objs.size+1:=ZaP ..;have hne:p≠s.heap.objs.size:=Z8 hlt;rw[Hc];have k1:iF s.heap ((s.heap.push { cls:=.type "list_iterator",data:=.fields #[.ref p,.int 0 0] }).push { cls:=.type "list",data:=.seq #[] }):=λb o e=>ZD _ (ZD _ e);refine wpAny_pure ⟨plainId_quiet F.plain_min_loop _,?_⟩;show codeAny (model prog w) A (.builtin "min.loop" ⟨[.ref s.heap.objs.size,.none,.ref (s.heap.push { cls:=.type "list_iterator",data:=.fields #[.ref p,.int 0 0] }).objs.size],[]⟩) _ _;rw[hsz];refine S6 (c:=0) (Walks.list (A:=A.in1) hh s.heap.objs.size p hne its) bt hcmp (s.heap.objs.size+1) (λz=>?_) e1 (λb hb=>?_) hn ?_ k1 ?_ λv h' tk hv hk=>hQ v h' tk hv hk;rcases ZY.mp z with z|z
 exact absurd z (Nat.succ_ne_self _)
 have:s.heap.objs.size+1=p:=ZU.mp z
 exact absurd hlt (by rw[<- this];exact Nat.not_lt_of_le (ZaJ _));rw[ZU.mp hb];exact e0;exact⟨⟨_,ZD _ (ZX _ rfl),rfl,rfl⟩,(hl.push _).push _⟩;rw[<- hsz];exact ZX _ rfl
end
def DF{h:Heap}:∀{us:List Value} {ds:List PyData} {as:List Addr} {i:Nat} {v:Value},ReadsAll h us ds as->us[i]?=some v->∃as',Reads h v (ds.getD i .none) as'/\ds.getD i .none∈ds
 |_,_,_,_,_,.nil,e=>by simp at e
 |_,_,_,0,_,.cons r _,e=>by simp at e;subst e;exact⟨_,r,ZK⟩
 |_,_,_,i+1,v,.cons _ rs,e=>by
  obtain⟨as',r,m⟩:=DF (i:=i) (v:=v) rs (by simpa using e);exact⟨as',r,ZE _ m⟩
section
variable {X:Cx}
abbrev n9(ds:List PyData)(i j:Nat):Bool:=lU (ds.getD i .none) (ds.getD j .none)
abbrev og(ds:List PyData):Nat:=argBest (n9 ds) (ds.length-1)
abbrev xw(K:Zfr):List V->Hp->VK->Prop:=λxs H Q=>∃(p:Addr) (vs:List V) (ds:List PyData),xs=[.ref p]/\jM K H p vs/\fD K H vs ds/\0<ds.length/\(∀a∈ds,∀b∈ds,gf a b=true)/\(∀a∈ds,a.canLay0=true/\a.depth<=50)/\∃v,vs[og ds]?=some v/\Q v H
def NP(hc:X.calm=true)(hu:X.A.units+64<cLine):fe X (.builtin "min") (xw X.K):=by
 intro pins s σ H xs us Q I r h;obtain⟨p,vs,ds,rfl,hq,hr,hn,hok,hlay,v0,hv0,q⟩:=h;obtain⟨u,rfl,ru⟩:=vals1 r;cases ru;obtain⟨its,rv,pl,_⟩:=I.list hq;obtain⟨as,ra⟩:=fD.reads I hr rv;have hlen:its.length=ds.length:=ReadsAll.length _ _ _ ra;refine S7 (bt:=n9 ds) (I.ok.hd hc) pl.isList (by rw[ZM];lk) (λi j vi vj s' hK hi hj=>?_) λv h' tk hv hk=>?_;have hi':its[i]?=some vi:=by simpa using hi
 have hj':its[j]?=some vj:=by simpa using hj
 obtain⟨a1,r1,m1⟩:=DF ra hi';obtain⟨a2,r2,m2⟩:=DF ra hj';have b1:=(hlay _ m1).2;have b2:=(hlay _ m2).2;exact Kn _ _ _ s' _ _ _ _ (Reads.keeps hK r1) (Reads.keeps hK r2) (hok _ m1 _ m2) (hlay _ m1).1 (hlay _ m2).1 (by show X.A.units+1+_<cLine;lk);have hv':its[og ds]?=some v:=by
  have e:its.toArray.size-1=ds.length-1:=by rw[ZM,hlen]
  rw[e]at hv;unfold og;simpa using hv
 obtain⟨u,NQ,ru⟩:=Vals.get rv hv0;rw[hv']at NQ;cases NQ;exact⟨v0,H,I.kept hk,ru,q⟩
end
end L2
namespace L2
open PySem PySem.Spec PyProof.Rows PySem.W
section
variable {lt:Nat->Nat->Bool}{n0:Nat}{cmp:Nat->Nat->(Bool->Shared->Prop)->Shared->Prop}{s:Shared}
structure Ord(lt:Nat->Nat->Bool):Prop where
 tr:∀a b c,lt b a=false->lt c b=false->lt c a=false
 as:∀a b,lt a b=true->lt b a=false
def Ord.rf(o:Ord lt)(a:Nat):lt a a=false:=by
 cases h:lt a a with
 |false=>rfl
 |true=>have:=o.as a a h;rw[h]at this;cases this
abbrev P(p:Array Nat)(i:Nat):Nat:=p.getD i 0
abbrev sA(lt:Nat->Nat->Bool)(p:Array Nat)(k:Nat):Prop:=∀i j,i<=j->j<k->lt (P p j) (P p i)=false
abbrev xx(lt:Nat->Nat->Bool)(p:Array Nat)(k:Nat):Prop:=∀i j,i<=j->j<k->lt (P p i) (P p j)=false
structure Arr(n0:Nat)(p:Array Nat):Prop where
 sz:p.size=n0
 pm:p.toList.Perm (List.range n0)
def Arr.bd{p:Array Nat}(h:Arr n0 p)(hn:0<n0)(i:Nat):P p i<n0:=by
 unfold P;rw[Zaq];cases e:p[i]? with
 |none=>exact hn
 |some x =>
  have:x∈p.toList:=by
   rw[<- Zao]at e;exact ZF e
  exact Zai.mp (h.pm.subset this)
def xy{p:Array Nat}{i j:Nat}(hj:j<=p.size)(k:Nat):P (kas_rev p i j) k=if i<=k/\k<j then P p (i+j-1-k)else P p k:=by unfold P kas_rev;rw[Zaq,getElem?_mirror_all hj];split<;>rw[Zaq]
def Arr.rev{p:Array Nat}(h:Arr n0 p)(i j:Nat):Arr n0 (kas_rev p i j):=⟨(mirror_size _ _ _ _).trans h.sz,(Array.perm_iff_toList_perm.mp (mirror_perm p i j _)).trans h.pm⟩
def NR{p:Array Nat}{k d:Nat}(hk:k<p.size)(hd:d<=k)(m:Nat):P (bubble p k d) m=if m=k-d then P p k else if k-d<m/\m<=k then P p (m-1)else P p m:=by unfold P;simp only[Zaq];rw[getElem?_bubble hk d hd];split;rfl;split<;>rfl
def Arr.S8{p:Array Nat}(h:Arr n0 p)(k d:Nat):Arr n0 (bubble p k d):=⟨(bubble_size _ _ _).trans h.sz,(Array.perm_iff_toList_perm.mp (bubble_perm p k d)).trans h.pm⟩
variable (o:Ord lt)(hn:0<n0)(hc:∀i j (C:Bool->Shared->Prop),i<n0->j<n0->C (lt i j) s->cmp i j C s)
include o hn hc
def Ks{p:Array Nat}(ha:Arr n0 p){Q:Nat->Shared->Prop}:∀(f n:Nat),sA lt p n->1<=n->(∀m,n<=m->m<=n+f->sA lt p m->(m<n+f->lt (P p m) (P p (m-1))=true)->Q m s)->(kas_asc p f n).kasWp cmp Q s
 |0,n,hs,h1,q=>q n (ZA _) (ZA _) hs λh=>absurd h (Za5 _)
 |f+1,n,hs,h1,q=>by
  refine hc _ _ _ (ha.bd hn n) (ha.bd hn (n-1)) ?_;show(if lt (P p n) (P p (n-1))=true then KasT.ret n else kas_asc p f (n+1)).kasWp cmp Q s;cases hb:lt (P p n) (P p (n-1))with
  |true=>exact q n (ZA _) ⋯ hs λ_=>hb
  |false =>
   refine Ks ha f (n+1) (λi j hij hj=>?_) ⋯ λm m1 m2 m3 m4=>q m ⋯ ⋯ m3 λh=>m4 ⋯;by_cases hjn:j<n;exact hs i j hij hjn
   have:j=n:=by lk
   subst this;by_cases hin:i=j;subst hin;exact o.rf _;exact o.tr _ (P p (j-1)) _ (hs i (j-1) ⋯ ⋯) hb
def Hf{Q:Array Nat×Nat×Nat->Shared->Prop}:∀(f:Nat) (p:Array Nat) (n q:Nat),Arr n0 p->xx lt p n->q+1<=n->n+f<=n0->(∀i j,n-(q+1)<=i->i<n->n-(q+1)<=j->j<n->lt (P p i) (P p j)=false) ->
  (∀p' n' q',Arr n0 p'->xx lt p' n'->q' + 1<=n'->n<=n'->n'<=n+f->(∀i j,n' - (q' + 1)<=i->i<n'->n' - (q' + 1)<=j->j<n'->lt (P p' i) (P p' j)=false)->Q (p',n',q') s)->(kas_desc f p n q).kasWp cmp Q s
 |0,p,n,q,ha,hd,h1,hf,he,hQ=>hQ p n q ha hd h1 (ZA _) (ZA _) he
 |f+1,p,n,q,ha,hd,h1,hf,he,hQ=>by
  refine hc _ _ _ (ha.bd hn n) (ha.bd hn (n-1)) ?_;show(if lt (P p n) (P p (n-1))=true then(if q > 0 then kas_desc f (kas_rev p (n-(q+1)) n) (n+1) 0 else kas_desc f p (n+1) 0)else .ask (P p (n-1)) (P p n) λd=>if d=true then .ret (p,n,q)else kas_desc f p (n+1) (q+1)).kasWp cmp Q s;cases hb:lt (P p n) (P p (n-1))with
  |true =>
   rw[if_pos rfl];have hx:=o.as _ _ hb;have DG:∀p':Array Nat,xx lt p' n->P p' n=P p n->lt (P p' (n-1)) (P p n)=false->xx lt p' (n+1):=λp' h e1 e2 i j hij hj=>by
    by_cases hjn:j<n;exact h i j hij hjn
    have:j=n:=by lk
    subst this;by_cases hin:i=j;subst hin;exact o.rf _;rw[e1];exact o.tr _ (P p' (j-1)) _ e2 (h i (j-1) ⋯ ⋯)
   have one:∀p':Array Nat,∀i j,n+1-(0+1)<=i->i<n+1->n+1-(0+1)<=j->j<n+1->lt (P p' i) (P p' j)=false:=λp' i j a b c d=>by
    have e1:i=n:=by lk
    have e2:j=n:=by lk
    subst e1;subst e2;exact o.rf _
   by_cases hq:q > 0;rw[if_pos hq];have hns:n<=p.size:=by rw[ha.sz];lk
   have er:=λk=>xy (p:=p) (i:=n-(q+1)) hns k;refine Hf f _ (n+1) 0 (ha.rev _ _) (DG _ (λi j hij hj=>?_) ?_ ?_) ⋯ ⋯ (one _) λp' n' q' a b c d e g=>hQ p' n' q' a b c ⋯ ⋯ g;rw[er i,er j];by_cases hi:n-(q+1)<=i;rw[if_pos ⟨hi,by lk⟩,if_pos ⟨by lk,hj⟩];exact he _ _ ⋯ ⋯ ⋯ ⋯;rw[if_neg ⋯];by_cases hj':n-(q+1)<=j;rw[if_pos ⟨hj',hj⟩];exact hd _ _ ⋯ ⋯;rw[if_neg ⋯];exact hd i j hij hj;rw[er n,if_neg ⋯];rw[er (n-1),if_pos ⟨by lk,by lk⟩];exact o.tr _ (P p (n-1)) _ hx (he _ _ ⋯ ⋯ ⋯ ⋯);rw[if_neg hq];exact Hf f p (n+1) 0 ha (DG p hd rfl hx) ⋯ ⋯ (one _) λp' n' q' a b c d e g=>hQ p' n' q' a b c ⋯ ⋯ g
  |false =>
   rw[if_neg ∅];refine hc _ _ _ (ha.bd hn (n-1)) (ha.bd hn n) ?_;cases hb2:lt (P p (n-1)) (P p n)with
   |true=>exact hQ p n q ha hd h1 (ZA _) ⋯ he
   |false =>
    refine Hf f p (n+1) (q+1) ha (λi j hij hj=>?_) ⋯ ⋯ (λi j a b c d=>?_) λp' n' q' a b c d e g=>hQ p' n' q' a b c ⋯ ⋯ g;by_cases hjn:j<n;exact hd i j hij hjn
    have:j=n:=by lk
    subst this;by_cases hin:i=j;subst hin;exact o.rf _;exact o.tr _ (P p (j-1)) _ hb2 (hd i (j-1) ⋯ ⋯);by_cases hi:i=n;subst hi;by_cases hj:j=i;subst hj;exact o.rf _;exact o.tr _ (P p (i-1)) _ (he (i-1) j ⋯ ⋯ ⋯ ⋯) hb;by_cases hj:j=n;subst hj;exact o.tr _ (P p (j-1)) _ hb2 (he i (j-1) ⋯ ⋯ ⋯ ⋯);exact he i j ⋯ ⋯ ⋯ ⋯
def NS{p:Array Nat}{n nrem:Nat}{Q:Nat×Array Nat->Shared->Prop}(ha:Arr n0 p)(hd:xx lt p n)(h1:1<=n)(hr:n<=nrem)(hz:nrem<=n0)(hQ:∀m p',Arr n0 p'->sA lt p' m->n<=m->m<=nrem->Q (m,p') s):(kas_tail3 n nrem p).kasWp cmp Q s:=by
 unfold kas_tail3;rw[KasT.kasWp_bind];have hns:n<=p.size:=by rw[ha.sz];lk
 refine Ks o hn hc (ha.rev 0 n) (nrem-n) n (λi j hij hj=>?_) h1 λm m1 m2 m3 _=>hQ m _ (ha.rev 0 n) m3 m1 ⋯;rw[xy hns,xy hns,if_pos ⟨by lk,hj⟩,if_pos ⟨by lk,by lk⟩];exact hd _ _ ⋯ ⋯
def NT{p:Array Nat}{n nrem:Nat}{Q:Nat×Array Nat->Shared->Prop}(ha:Arr n0 p)(hd:xx lt p (n+1))(hr:n+1<=nrem)(hz:nrem<=n0)(hQ:∀m p',Arr n0 p'->sA lt p' m->1<=m->m<=nrem->Q (m,p') s):(kas_descPart n nrem p).kasWp cmp Q s:=by
 unfold kas_descPart;rw[KasT.kasWp_bind];refine Hf o hn hc (nrem-(n+1)) p (n+1) 0 ha hd ⋯ ⋯ (λi j a b c d=>?_) λp' n' q' a b c d e g=>?_;have e1:i=n:=by lk
 have e2:j=n:=by lk
 subst e1;subst e2;exact o.rf _;show(if q' > 0 then kas_tail3 n' nrem (kas_rev p' (n' - (q' + 1)) n')else kas_tail3 n' nrem p').kasWp cmp Q s;by_cases hq:q' > 0;rw[if_pos hq];have hns:n'<=p'.size:=by rw[a.sz];lk
 have er:=λk=>xy (p:=p') (i:=n' - (q' + 1)) hns k;refine NS o hn hc (a.rev _ _) (λi j hij hj=>?_) ⋯ ⋯ hz λm p2 x y z w=>hQ m p2 x y ⋯ w;rw[er i,er j];by_cases hi:n' - (q' + 1)<=i;rw[if_pos ⟨hi,by lk⟩,if_pos ⟨by lk,hj⟩];exact g _ _ ⋯ ⋯ ⋯ ⋯;rw[if_neg ⋯];by_cases hj':n' - (q' + 1)<=j;rw[if_pos ⟨hj',hj⟩];exact b _ _ ⋯ ⋯;rw[if_neg ⋯];exact b i j hij hj;rw[if_neg hq];exact NS o hn hc a b ⋯ ⋯ hz λm p2 x y z w=>hQ m p2 x y ⋯ w
def S9{p:Array Nat}{Q:Nat×Array Nat->Shared->Prop}(ha:Arr n0 p)(hQ:∀m p',Arr n0 p'->sA lt p' m->1<=m->m<=n0->Q (m,p') s):(kas_count n0 p).kasWp cmp Q s:=by
 unfold kas_count;rw[KasT.kasWp_bind];refine Ks o hn hc ha (n0-1) 1 (λi j hij hj=>?_) (ZA _) λn m1 m2 hs hl=>?_;have e1:i=0:=by lk
 have e2:j=0:=by lk
 subst e1;subst e2;exact o.rf _;by_cases he:n=n0;subst he;simp only[beq_self_eq_true,if_true];exact hQ n p ha hs m1 (ZA _);have hne:(n == n0)=false:=by simpa using he
 simp only[hne,Zah,if_false];have hlt:=hl ⋯;have hx:=o.as _ _ hlt;have grow:∀p':Array Nat,xx lt p' n->P p' n=P p n->lt (P p' (n-1)) (P p n)=false->xx lt p' (n+1):=λp' h e1 e2 i j hij hj=>by
  by_cases hjn:j<n;exact h i j hij hjn
  have:j=n:=by lk
  subst this;by_cases hin:i=j;subst hin;exact o.rf _;rw[e1];exact o.tr _ (P p' (j-1)) _ e2 (h i (j-1) ⋯ ⋯)
 by_cases h1:n > 1;rw[if_pos h1];refine hc _ _ _ (ha.bd hn 0) (ha.bd hn (n-1)) ?_;cases hb:lt (P p 0) (P p (n-1))with
 |true =>
  show(if lt (P p 0) (P p (n-1))=true then KasT.ret (n,p)else kas_descPart n n0 (kas_rev p 0 n)).kasWp cmp Q s;rw[hb,if_pos rfl];exact hQ n p ha hs m1 ⋯
 |false =>
  have all:∀i j,i<n->j<n->lt (P p i) (P p j)=false:=λi j hi hj=>o.tr (P p j) (P p (n-1)) (P p i) (hs j (n-1) ⋯ ⋯) (o.tr (P p (n-1)) (P p 0) (P p i) hb (hs 0 i ⋯ hi));have hns:n<=p.size:=by rw[ha.sz];lk
  show(if lt (P p 0) (P p (n-1))=true then KasT.ret (n,p)else kas_descPart n n0 (kas_rev p 0 n)).kasWp cmp Q s;rw[hb,if_neg ∅];refine NT o hn hc (ha.rev 0 n) (grow _ (λi j hij hj=>?_) ?_ ?_) ⋯ (ZA _) λm p' a b c d=>hQ m p' a b c d;rw[xy hns,xy hns,if_pos ⟨by lk,by lk⟩,if_pos ⟨by lk,hj⟩];exact all _ _ ⋯ ⋯;rw[xy hns,if_neg ⋯];rw[xy hns,if_pos ⟨by lk,by lk⟩,show 0+n-1-(n-1)=0 by lk];exact o.tr (P p n) (P p (n-1)) (P p 0) hx hb
 rw[if_neg h1]
 have:n=1:=by lk
 subst this;refine NT o hn hc ha (grow p (λi j hij hj=>?_) rfl hx) ⋯ (ZA _) λm p' a b c d=>hQ m p' a b c d;have e1:i=0:=by lk
 have e2:j=0:=by lk
 subst e1;subst e2;exact o.rf _
def Kt{p:Array Nat}{k:Nat}{Q:Nat->Shared->Prop}(ha:Arr n0 p)(hs:sA lt p k):∀(f l r:Nat),r<=l+f->l<=r->r<=k->(∀i,i<l->lt (P p k) (P p i)=false)->(∀i,r<=i->i<k->lt (P p k) (P p i)=true) ->
  (∀m,m<=k->(∀i,i<m->lt (P p k) (P p i)=false)->(∀i,m<=i->i<k->lt (P p k) (P p i)=true)->Q m s)->(kas_place p k f l r).kasWp cmp Q s
 |0,l,r,hf,hlr,hrk,h1,h2,q=>by
  have:l=r:=by lk
  subst this;exact q l hrk h1 h2
 |f+1,l,r,hf,hlr,hrk,h1,h2,q=>by
  unfold kas_place;by_cases hge:l >= r;rw[if_pos hge]
  have:l=r:=by lk
  subst this;exact q l hrk h1 h2;rw[if_neg hge];refine hc _ _ _ (ha.bd hn k) (ha.bd hn ((l+r) / 2)) ?_;show(if lt (P p k) (P p ((l+r) / 2))=true then kas_place p k f l ((l+r) / 2)else kas_place p k f ((l+r) / 2+1) r).kasWp cmp Q s;cases hb:lt (P p k) (P p ((l+r) / 2))with
  |true =>
   rw[if_pos rfl];refine Kt ha hs f l ((l+r) / 2) ⋯ ⋯ ⋯ h1 (λi i1 i2=>?_) q;cases hx:lt (P p k) (P p i)with
   |true=>rfl
   |false =>
    have:=o.tr (P p ((l+r) / 2)) (P p i) (P p k) (hs _ _ i1 i2) hx;rw[hb]at this;cases this
  |false =>
   rw[if_neg ∅];refine Kt ha hs f ((l+r) / 2+1) r ⋯ ⋯ hrk (λi i1=>?_) h2 q;exact o.tr (P p i) (P p ((l+r) / 2)) (P p k) (hs _ _ ⋯ ⋯) hb
def NU{Q:Array Nat->Shared->Prop}:∀(f:Nat) (p:Array Nat) (k:Nat),Arr n0 p->sA lt p k->1<=k->k+f=n0->(∀p',Arr n0 p'->sA lt p' n0->Q p' s)->(kas_bin f p k).kasWp cmp Q s
 |0,p,k,ha,hs,h1,hf,q=>q p ha (by rw[<- hf];exact hs)
 |f+1,p,k,ha,hs,h1,hf,q=>by
  unfold kas_bin;rw[KasT.kasWp_bind];refine Kt o hn hc ha hs k 0 k ⋯ ⋯ (ZA _) (λi h=>absurd h (Zaf _)) (λi a b=>by lk) λl hl Tb h2'=>?_;have hk:k<p.size:=by rw[ha.sz];lk
  refine NU f _ (k+1) (ha.S8 _ _) (λi j hij hj=>?_) ⋯ ⋯ q;rw[NR hk ⋯,NR hk ⋯,show k-(k-l)=l by lk];by_cases hi:i=l;rw[if_pos hi];by_cases hj':j=l;rw[if_pos hj'];exact o.rf _;rw[if_neg hj',if_pos ⟨by lk,by lk⟩];exact o.as _ _ (h2' (j-1) ⋯ ⋯);rw[if_neg hi];by_cases hj':j=l;rw[if_pos hj',if_neg ⋯];exact Tb i ⋯;rw[if_neg hj'];by_cases hi2:l<i;rw[if_pos (show l<j/\j<=k by lk),if_pos (show l<i/\i<=k by lk)];exact hs _ _ ⋯ ⋯;by_cases hj2:l<j;rw[if_pos (show l<j/\j<=k by lk),if_neg (show ¬(l<i/\i<=k) by lk)];exact hs _ _ ⋯ ⋯;rw[if_neg (show ¬(l<j/\j<=k) by lk),if_neg (show ¬(l<i/\i<=k) by lk)];exact hs _ _ hij ⋯
def Tc{Q:Array Nat->Shared->Prop}(q:∀p',Arr n0 p'->sA lt p' n0->Q p' s):(kas_sort n0).kasWp cmp Q s:=by
 unfold kas_sort;rw[KasT.kasWp_bind];have ha:Arr n0 (List.toArray (List.range n0)):=⟨by simp,by simp⟩;refine S9 o hn hc ha λm p' a b c d=>?_;show(if m<n0 then kas_bin (n0-max m 1) p' (max m 1)else KasT.ret p').kasWp cmp Q s;rw[show max m 1=m by lk];by_cases h:m<n0;rw[if_pos h];exact NU o hn hc (n0-m) p' m a b c ⋯ q;rw[if_neg h]
 have:m=n0:=by lk
 subst this;exact q p' a b
end
abbrev pQ(fin:Bool):List PyData->List PyData->Bool
 |x :: xs,y :: ys=>if PyData.eqv x y then pQ fin xs ys else lU x y
 |_,_=>fin
def NV:∀xs ys:List PyData,pQ (decide (xs.length<ys.length)) xs ys=cz xs ys
 |[],[]=>rfl
 |[],_ :: _=>by simp[pQ,cz]
 |_ :: _,[]=>by simp[pQ,cz]
 |x :: xs,y :: ys=>by
  have e:decide ((x :: xs).length<(y :: ys).length)=decide (xs.length<ys.length):=by simp
  rw[e];show(if PyData.eqv x y=true then pQ (decide (xs.length<ys.length)) xs ys else lU x y)=if PyData.eqv x y=true then cz xs ys else lU x y
  rw[NV xs ys]
abbrev xA(pD:Bool):PyData->Bool
 |.tuple (.int _ :: _)=>!pD
 |.tuple (.tuple _ :: _)=>pD
 |_=>false
section
variable {prog:Program}{w:World}{A:Around}{E:Value->Shared->Prop}{s:Shared}
def NW{b fin:Bool}{Q:Bool->Shared->Prop}:∀(xs ys:List PyData) (vs ws:List Value) (as bs:List Addr) (i:Nat),ReadsAll s.heap vs xs as->ReadsAll s.heap ws ys bs->cV xs ys=true->PyData.canLayAll0 xs=true->PyData.canLayAll0 ys=true->A.units+min (PyData.depthAll xs) (PyData.depthAll ys)<cLine ->
  (b=true->i=0->∀x r,xs=x :: r->∃n,x=.int n)->Q (pQ fin xs ys) s->KatLex prog w A b fin Q (vs.zip ws) i s
 |[],_,_,_,_,_,i,ra,rb,_,_,_,_,_,q=>by cases ra;exact q
 |_ :: _,[],_,_,_,_,i,ra,rb,_,_,_,_,_,q=>by cases rb;cases ra;exact q
 |x :: xs,y :: ys,_,_,_,_,i,ra,rb,ok,ha,hb,hu,hf,q=>by
  have a':x.canLay0=true/\PyData.canLayAll0 xs=true:=by simpa[PyData.canLayAll0]using ha
  have b':y.canLay0=true/\PyData.canLayAll0 ys=true:=by simpa[PyData.canLayAll0]using hb
  have o':gf x y=true/\cV xs ys=true:=by simpa[cV]using ok
  cases ra with
  |cons r rs =>
   cases rb with
   |cons r' rs' =>
    refine kat_cons (SeqAt.eqAt_reads x y A s _ _ _ _ r r' a'.1 b'.1 (SeqAt.room_head hu) prog w _ _ ?_);cases he:PyData.eqv x y with
    |true =>
     refine kat_yes (NW xs ys _ _ _ _ (i+1) rs rs' o'.2 a'.2 b'.2 (SeqAt.room_tail hu) (λ_ z=>absurd z (Nat.succ_ne_zero _)) ?_);rw[pQ,he,if_pos rfl]at q;exact q
    |false =>
     rw[pQ,he,if_neg ∅]at q;refine kat_no ?_;cases hbi:(b && i == 0)with
     |true =>
      have hb1:b=true/\i=0:=by simpa using hbi
      obtain⟨n,rfl⟩:=hf hb1.1 hb1.2 x xs rfl;cases y with
      |int m =>
       cases r with
       |int _ t =>
        cases r' with
        |int _ u=>exact oneLt_int q
      |none=>cases o'.1
      |bool _=>cases o'.1
      |str _=>cases o'.1
      |list _=>cases o'.1
      |tuple _=>cases o'.1
      |dict _=>cases o'.1
     |false=>exact kat_one _ _ (Kn x y A s _ _ _ _ r r' o'.1 a'.1 b'.1 (SeqAt.room_head hu) prog w _ _ q)
def Td{pD:Bool}{vs:List Value}{ds:List PyData}{as:List Addr}{i j:Nat}{C:Bool->Shared->Prop}(ra:ReadsAll s.heap vs ds as)(hh:∀d∈ds,xA pD d=true)(hok:∀a∈ds,∀b∈ds,gf a b=true)(hlay:∀a∈ds,a.canLay0=true/\a.depth<=50)(hu:A.units+52<cLine)
  (hi:i<vs.length) (hj:j<vs.length) (q:C (n9 ds i j) s):kas_ask prog w A (tuples' (!pD)) vs i j C s:=by
 obtain⟨a1,r1,m1⟩:=DF (i:=i) (v:=vs.getD i Value.none) ra (by rw[ZG,Zy hi];rfl);obtain⟨a2,r2,m2⟩:=DF (i:=j) (v:=vs.getD j Value.none) ra (by rw[ZG,Zy hj];rfl);have ok:=hok _ m1 _ m2;have l1:=hlay _ m1;have l2:=hlay _ m2;have h1:=hh _ m1;unfold n9 at q;unfold kas_ask;generalize vs.getD i Value.none=v at r1;generalize vs.getD j Value.none=v' at r2;generalize ds.getD i .none=d at r1 ok l1 h1 q;generalize ds.getD j .none=d' at r2 ok l2 q;cases d with
 |tuple xs =>
  cases d' with
  |tuple ys =>
   cases r1 with
   |@tuple l o us n _ NL g1 g2 g3 g4 =>
    cases r2 with
    |@tuple l' o2 us' n' _ S5 k1 k2 k3 k4 =>
     have n1:us.size=xs.length:=by simpa using SeqAt.ReadsAll.length _ _ _ g4
     have n2:us'.size=ys.length:=by simpa using SeqAt.ReadsAll.length _ _ _ k4
     have dp:PyData.depthAll xs+1<=50:=l1.2;refine kat_lt g1 g3 k1 k3 ?_;rw[n1,n2];refine NW xs ys _ _ _ _ 0 g4 k4 ok l1.1 l2.1 ⋯ (λhb _ x r e=>?_) (by rw[NV];exact q);subst e;have hT:pD=false:=by simpa using hb
     subst hT;cases x with
     |int n=>exact⟨n,rfl⟩
     |none=>cases h1
     |bool _=>cases h1
     |str _=>cases h1
     |list _=>cases h1
     |tuple _=>cases h1
     |dict _=>cases h1
  |none=>cases ok
  |bool _=>cases ok
  |str _=>cases ok
  |list _=>cases ok
  |int _=>cases ok
  |dict _=>cases ok
 |none=>cases h1
 |bool _=>cases h1
 |str _=>cases h1
 |list _=>cases h1
 |int _=>cases h1
 |dict _=>cases h1
def NX{pD:Bool}{h:Heap}:∀{ds:List PyData} {vs:List Value} {as:List Addr},ReadsAll h vs ds as->(∀d∈ds,xA pD d=true)->∃fs,KatTups h vs fs/\fs.length=vs.length/\∀f∈fs,(pD=false/\∃n t,f=.int n t)\/(pD=true/\∃a o,f=.ref a/\h.get? a=some o/\o.cls=.type "tuple")
 |[],_,_,r,_=>by cases r;exact⟨[],trivial,rfl,λf hf=>nomatch hf⟩
 |d :: ds,_,_,r,hh=>by
  cases r with
  |cons r rs =>
   obtain⟨fs,t,hl,hf⟩:=NX rs λd hd=>hh d (ZE _ hd);have h1:=hh d ZK;cases d with
   |tuple xs =>
    cases r with
    |@tuple l o us n _ NL g1 g2 g3 g4 =>
     cases xs with
     |nil=>cases h1
     |cons x xs =>
      have hz:∃u r,us.toList=u :: r/\∃NY,Reads h u x NY:=by
       generalize us.toList=L at g4;cases g4 with
       |cons q _=>exact⟨_,_,rfl,_,q⟩
      obtain⟨u,r0,eL,NY,q⟩:=hz;have e0:us[0]?=some u:=by rw[<- Zao,eL];rfl
      refine⟨u :: fs,⟨⟨l,o,us,n,rfl,g1,g2,g3,e0⟩,t⟩,by simp[hl],λf hf'=>?_⟩;rcases ZY.mp hf' with rfl|hf'
      cases x with
      |int n =>
       cases q with
       |int _ t=>exact .inl ⟨by simpa[xA]using h1,_,_,rfl⟩
      |tuple _ =>
       cases q with
       |tuple k1 k2 k3 k4=>exact .inr ⟨by simpa[xA]using h1,_,_,rfl,k1,k2⟩
      |none=>cases h1
      |bool _=>cases h1
      |str _=>cases h1
      |list _=>cases h1
      |dict _=>cases h1
      exact hf f hf'
   |none=>cases h1
   |bool _=>cases h1
   |str _=>cases h1
   |list _=>cases h1
   |int _=>cases h1
   |dict _=>cases h1
def Te{pD:Bool}{vs:List Value}{ds:List PyData}{as:List Addr}{Q:SortKind->Shared->Prop}(ra:ReadsAll s.heap vs ds as)(hh:∀d∈ds,xA pD d=true)(hn:0<vs.length)(q:Q (tuples' (!pD)) s):wpAny (model prog w) A (keyKind' vs.toArray) Q E s:=by
 obtain⟨fs,t,hl,hf⟩:=NX ra hh;cases pD with
 |false =>
  refine kat_kind (T:=.type "int") t ⋯ (λv hv=>?_) ∅ q;rcases hf v hv with⟨_,n,t,rfl⟩|⟨z,_⟩
  exact Looks.of_pure rfl;cases z
 |true =>
  refine kat_kind (T:=.type "tuple") t ⋯ (λv hv=>?_) ∅ q;rcases hf v hv with⟨z,_⟩|⟨_,a,o,rfl,ho,hc⟩
  cases z;rw[<- hc];exact(Looks.ld ho).andThen .now
end
abbrev rE(a:Addr)(h h':Heap):Prop:=∀b o,b≠a->h.get? b=some o->h'.get? b=some o
abbrev nL(vs:List Value)(p:Array Nat):Array Value:=List.toArray (p.toList.map λi=>vs.getD i Value.none)
def Tf(vs:List Value):nL vs (List.toArray (List.range vs.length))=vs.toArray:=by
 unfold nL
 congr 1
 refine List.ext_getElem? λi=>?_;rw[ZO];by_cases h:i<vs.length;rw[Zy (by simpa using h)];simp[h];rw[ZaG (by simpa using h),ZaG (by simpa using h)];rfl
section
variable {prog:Program}{w:World}{A:Around}{E:Value->Shared->Prop}{s:Shared}{lt:Nat->Nat->Bool}
def Tg{a:Addr}{vs:List Value}{n:Nat}{R:PySem.Fin->Shared->Prop}(ho:s.heap.get? a=some (seqObj "list" vs.toArray n))(h64:vs.length<64)(o:Ord lt)
  (hk:2<=vs.length->∀s':Shared,rE a s.heap s'.heap->∃κ,(∀Q:SortKind->Shared->Prop,Q κ s'->wpAny (model prog w) A (keyKind' vs.toArray) Q E s')/\∀i j (C:Bool->Shared->Prop),i<vs.length->j<vs.length->C (lt i j) s'->kas_ask prog w A κ vs i j C s')
  (h:∀p:Array Nat,Arr vs.length p->sA lt p vs.length->R (.done (.ret .none)) { s with heap:=sortedHeap s.heap a vs (nL vs p) }):wpAny (model prog w) A (Builtin.«list.sort» ⟨[.ref a],[]⟩) R E s:=by
 rw[list_sort_plain];have halt:a<s.heap.objs.size:=ZR ho;have hsl:sizeLine=sizeLine:=rfl;have ud:vs.length<=sizeLine:=Z3 (ZaK h64) ∅;refine wpAny_bind (listItems_at ho rfl (wpAny_bind (listUpdate_at ho rfl ?_ (by rw[ZM];exact ud) (Zaa _))));obtain⟨e1,NZ⟩:∃e1,(s.heap.update a (Obj.mapSeq λ_=>(#[]:Array Value))).get? a=some (seqObj "list" #[] e1):=⟨_,get?_update_seq ho λ_=>#[]⟩;refine wpAny_bind (seqEpoch_at NZ rfl (wpAny_bind (wpAny_newTuple (wpAny_bind (wpAny_newList (wpAny_holding ?_) (Zaa _))) (by show vs.length<=_;exact ud))));have ne1:a≠(s.heap.update a (Obj.mapSeq λ_=>(#[]:Array Value))).objs.size:=by rw[Heap.size_update];exact Z8 halt
 have ho6:(((s.heap.update a (Obj.mapSeq λ_=>(#[]:Array Value))).push (seqObj "tuple" vs.toArray 0)).push (seqObj "list" #[] 0)).get? a=some (seqObj "list" #[] e1):=ZD _ (ZD _ NZ);have kb:rE a s.heap (((s.heap.update a (Obj.mapSeq λ_=>(#[]:Array Value))).push (seqObj "tuple" vs.toArray 0)).push (seqObj "list" #[] 0)):=λb o hb e=>ZD _ (ZD _ ((ZZ _ _ (Ne.symm hb)).trans e));show wpAny (model prog w) A _ R E { s with heap:=((s.heap.update a (Obj.mapSeq λ_=>(#[]:Array Value))).push (seqObj "tuple" vs.toArray 0)).push (seqObj "list" #[] 0) };dsimp only;by_cases h2:vs.toArray.size<2;rw[if_pos h2,if_pos h2];refine wpAny_bind (wpAny_pure ?_);rw[StateT.run_pure];refine wpAny_bind (wpAny_pure ?_);dsimp only;have eo:(arrOf (SortSt.mk' general' (vs.toArray.zip vs.toArray) #[] 7 none)).map (·.2)=nL vs (List.toArray (List.range vs.length)):=by
  rw[Tf];show(vs.toArray.zip vs.toArray).map (·.2)=vs.toArray;apply Array.toList_inj.mp;simp[List.map_snd_zip]
 refine wpAny_bind (seqEpoch_at ho6 rfl ?_);rw[eo];refine wpAny_bind (listUpdate_at ho6 rfl ?_ (Zaa _) (by unfold nL;rw[ZM,Zx,ZaC,ZM,ZaN];lk));simp only[bne_self_eq_false,Zah,if_false];refine wpAny_pure (h _ ⟨by simp,by simp⟩ λi j hij hj=>?_);have e:i=j:=by rw[ZM]at h2;lk
 subst e;exact o.rf _;rw[if_neg h2,if_neg h2];have h2':2<=vs.length:=by rw[ZM]at h2;lk
 obtain⟨κ,hkk,Ku⟩:=hk h2' { s with heap:=((s.heap.update a (Obj.mapSeq λ_=>(#[]:Array Value))).push (seqObj "tuple" vs.toArray 0)).push (seqObj "list" #[] 0) } kb;refine wpAny_bind (hkk _ ?_);have run:=kat_run (prog:=prog) (w:=w) (A:=A) (E:=E) (κ:=κ) (ks:=vs) (vs:=vs) (s:={ s with heap:=((s.heap.update a (Obj.mapSeq λ_=>(#[]:Array Value))).push (seqObj "tuple" vs.toArray 0)).push (seqObj "list" #[] 0) }) (Q:=λst' s'=>∃p:Array Nat,arrOf st'=p.map (kas_item (vs.toArray.zip vs.toArray))/\failedOf st'=none/\s'={ s with heap:=((s.heap.update a (Obj.mapSeq λ_=>(#[]:Array Value))).push (seqObj "tuple" vs.toArray 0)).push (seqObj "list" #[] 0) }/\Arr vs.length p/\sA lt p vs.length)
  (G:=λp s'=>s'={ s with heap:=((s.heap.update a (Obj.mapSeq λ_=>(#[]:Array Value))).push (seqObj "tuple" vs.toArray 0)).push (seqObj "list" #[] 0) }/\Arr vs.length p/\sA lt p vs.length) rfl h2' h64 (λp st' s' _ x y z=>⟨p,x,y,z⟩)
  (Tc o ⋯ Ku λp' x y=>⟨rfl,x,y⟩)
 refine wpAny_bind (wpAny_mono run ?_ λ_ _ z=>z);rintro⟨⟨⟩,st'⟩ s' ⟨p,har,hf,rfl,hA,hS⟩;dsimp only;have eo:(arrOf st').map (·.2)=nL vs p:=kat_snds rfl har;refine wpAny_bind (seqEpoch_at ho6 rfl ?_);rw[eo];refine wpAny_bind (listUpdate_at ho6 rfl ?_ (Zaa _) (by unfold nL;rw[ZM,Zx,ZaC,hA.sz];lk));rw[hf];simp only[bne_self_eq_false,Zah,if_false];exact wpAny_pure (h p hA hS)
def Ti{l:Addr}{vs:List Value}{Q:Value->Shared->Prop}(hl:s.heap.IsList l vs.toArray)(h64:vs.length<64)(o:Ord lt)
  (hk:2<=vs.length->∀(s':Shared) (E':Value->Shared->Prop),iF s.heap s'.heap->∃κ,(∀Q:SortKind->Shared->Prop,Q κ s'->wpAny (model prog w) A.in1.in1 (keyKind' vs.toArray) Q E' s')/\∀i j (C:Bool->Shared->Prop),i<vs.length->j<vs.length->C (lt i j) s'->kas_ask prog w A.in1.in1 κ vs i j C s')
  (h:∀p:Array Nat,Arr vs.length p->sA lt p vs.length->Q (.ref (s.heap.objs.size+1)) { s with heap:=sortedAll s.heap vs (nL vs p) }):wpAny (model prog w) A (call (.builtin "sorted") [.ref l]) Q E s:=by
 have ud:vs.length<=sizeLine:=Z3 (ZaK h64) ∅;refine Calls.call_function_entry kind_sorted plain_sorted entry_sorted (args_sorted1 _) ?_;unfold Builtin.«sorted»;refine wpAny_bind (m:=checkCount "sorted" 1 1 _) (wpAny_pure (wpAny_bind (collect_list hl (wpAny_bind (wpAny_newList ?_ ud)) ud)));have hsz:((s.heap.push (seqObj "list" #[] 0)).update s.heap.objs.size (Obj.mapSeq (· ++ vs.toArray))).objs.size=s.heap.objs.size+1:=(Heap.size_update _ _ _).trans (size_push' _ _);have yr:(((s.heap.push (seqObj "list" #[] 0)).update s.heap.objs.size (Obj.mapSeq (· ++ vs.toArray))).push (seqObj "list" vs.toArray 0)).get? (s.heap.objs.size+1)=some (seqObj "list" vs.toArray 0):=hsz ▸ ZX _ rfl;show wpAny (model prog w) _ _ _ _ { s with heap:=((s.heap.push (seqObj "list" #[] 0)).update s.heap.objs.size (Obj.mapSeq (· ++ vs.toArray))).push (seqObj "list" vs.toArray 0) };rw[hsz];have k1:iF s.heap (((s.heap.push (seqObj "list" #[] 0)).update s.heap.objs.size (Obj.mapSeq (· ++ vs.toArray))).push (seqObj "list" vs.toArray 0)):=λb o e=>ZD _ ((ZZ _ _ (Ne.symm (Z8 (ZR e)))).trans (ZD _ e));refine wpAny_bind (wpAny_holding (wpAny_call_entry slot_list_sort ⟨_,yr,rfl⟩ entry_list_sort (Tg yr h64 o (λh2 s' kb=>hk h2 s' _ λb o' e=>kb b o' (λz=>?_) (k1 b o' e)) λp a1 a2=>⟨_,rfl,?_⟩) (args_list_sort _)))
 have:=ZR e
 rw[z]at this;exact absurd this (Nat.not_lt_of_le (ZaJ _));exact wpAny_pure ⟨_,rfl,h p a1 a2⟩
end
mutual
def Kv:∀(a b:PyData),gf a b=true->(PyData.eqv a b=true↔a=b)
 |.int x,.int y,_=>by show((x == y)=true)↔_;simp
 |.tuple xs,.tuple ys,h=>by show PyData.eqvAll xs ys=true↔_;rw[N0 xs ys h];simp
 |.int _,.none,h=>nomatch h
 |.int _,.bool _,h=>nomatch h
 |.int _,.str _,h=>nomatch h
 |.int _,.list _,h=>nomatch h
 |.int _,.tuple _,h=>nomatch h
 |.int _,.dict _,h=>nomatch h
 |.tuple _,.none,h=>nomatch h
 |.tuple _,.bool _,h=>nomatch h
 |.tuple _,.int _,h=>nomatch h
 |.tuple _,.str _,h=>nomatch h
 |.tuple _,.list _,h=>nomatch h
 |.tuple _,.dict _,h=>nomatch h
 |.none,_,h=>by simp[gf]at h
 |.bool _,_,h=>by simp[gf]at h
 |.str _,_,h=>by simp[gf]at h
 |.list _,_,h=>by simp[gf]at h
 |.dict _,_,h=>by simp[gf]at h
def N0:∀(xs ys:List PyData),cV xs ys=true->(PyData.eqvAll xs ys=true↔xs=ys)
 |[],[],_=>by simp[PyData.eqvAll]
 |[],_ :: _,_=>by simp[PyData.eqvAll]
 |_ :: _,[],_=>by simp[PyData.eqvAll]
 |x :: xs,y :: ys,h=>by
  have h':gf x y=true/\cV xs ys=true:=by simpa[cV]using h
  rw[PyData.eqvAll,ZV,Kv x y h'.1,N0 xs ys h'.2];simp
end
def DH{x y:PyData}{xs ys:List PyData}(h:gf x y=true):cz (x :: xs) (y :: ys)=true↔(x=y/\cz xs ys=true)\/(x≠y/\lU x y=true):=by rw[cz];by_cases e:x=y;rw[if_pos ((Kv x y h).mpr e)];simp[e];rw[if_neg (λz=>e ((Kv x y h).mp z))];simp[e]
mutual
def Kw:∀a:PyData,lU a a=false
 |.int x=>by simp[lU]
 |.tuple xs=>by show cz xs xs=false;exact N1 xs
 |.none=>rfl
 |.bool _=>rfl
 |.str _=>rfl
 |.list _=>rfl
 |.dict _=>rfl
def N1:∀xs:List PyData,cz xs xs=false
 |[]=>rfl
 |x :: xs=>by
  rw[cz];split;exact N1 xs;exact Kw x
end
mutual
def Kx:∀(a b:PyData),gf a b=true->gf b a=true->lU a b=false->lU b a=false->a=b
 |.int x,.int y,_,_,h1,h2=>by
  have h1:=of_decide_eq_false h1;have h2:=of_decide_eq_false h2;rw[show x=y by lk]
 |.tuple xs,.tuple ys,o1,o2,h1,h2=>by rw[N2 xs ys o1 o2 h1 h2]
 |.int _,.none,h,_,_,_=>nomatch h
 |.int _,.bool _,h,_,_,_=>nomatch h
 |.int _,.str _,h,_,_,_=>nomatch h
 |.int _,.list _,h,_,_,_=>nomatch h
 |.int _,.tuple _,h,_,_,_=>nomatch h
 |.int _,.dict _,h,_,_,_=>nomatch h
 |.tuple _,.none,h,_,_,_=>nomatch h
 |.tuple _,.bool _,h,_,_,_=>nomatch h
 |.tuple _,.int _,h,_,_,_=>nomatch h
 |.tuple _,.str _,h,_,_,_=>nomatch h
 |.tuple _,.list _,h,_,_,_=>nomatch h
 |.tuple _,.dict _,h,_,_,_=>nomatch h
 |.none,_,h,_,_,_=>by simp[gf]at h
 |.bool _,_,h,_,_,_=>by simp[gf]at h
 |.str _,_,h,_,_,_=>by simp[gf]at h
 |.list _,_,h,_,_,_=>by simp[gf]at h
 |.dict _,_,h,_,_,_=>by simp[gf]at h
def N2:∀(xs ys:List PyData),cV xs ys=true->cV ys xs=true->cz xs ys=false->cz ys xs=false->xs=ys
 |[],[],_,_,_,_=>rfl
 |[],_ :: _,_,_,h,_=>by simp[cz]at h
 |_ :: _,[],_,_,_,h=>by simp[cz]at h
 |x :: xs,y :: ys,o1,o2,h1,h2=>by
  have a:gf x y=true/\cV xs ys=true:=by simpa[cV]using o1
  have b:gf y x=true/\cV ys xs=true:=by simpa[cV]using o2
  have n1:¬((x=y/\cz xs ys=true)\/(x≠y/\lU x y=true)):=λz=>by rw[<- DH a.1]at z;rw[h1]at z;cases z
  have n2:¬((y=x/\cz ys xs=true)\/(y≠x/\lU y x=true)):=λz=>by rw[<- DH b.1]at z;rw[h2]at z;cases z
  by_cases e:x=y;subst e;rw[N2 xs ys a.2 b.2 (by cases q:cz xs ys with|false=>rfl|true=>exact absurd (.inl ⟨rfl,q⟩) n1) (by cases q:cz ys xs with|false=>rfl|true=>exact absurd (.inl ⟨rfl,q⟩) n2)];exact absurd (Kx x y a.1 b.1 (by cases q:lU x y with|false=>rfl|true=>exact absurd (.inr ⟨e,q⟩) n1) (by cases q:lU y x with|false=>rfl|true=>exact absurd (.inr ⟨Ne.symm e,q⟩) n2)) e
end
mutual
def Ky:∀(a b c:PyData),gf a b=true->gf b c=true->gf a c=true->lU a b=true->lU b c=true->lU a c=true
 |.int x,.int y,.int z,_,_,_,h1,h2=>by
  have h1:=of_decide_eq_true h1;have h2:=of_decide_eq_true h2;exact decide_eq_true ⋯
 |.tuple xs,.tuple ys,.tuple zs,o1,o2,o3,h1,h2=>N3 xs ys zs o1 o2 o3 h1 h2
 |.int _,.int _,.none,_,h,_,_,_=>nomatch h
 |.int _,.int _,.bool _,_,h,_,_,_=>nomatch h
 |.int _,.int _,.str _,_,h,_,_,_=>nomatch h
 |.int _,.int _,.list _,_,h,_,_,_=>nomatch h
 |.int _,.int _,.tuple _,_,h,_,_,_=>nomatch h
 |.int _,.int _,.dict _,_,h,_,_,_=>nomatch h
 |.tuple _,.tuple _,.none,_,h,_,_,_=>nomatch h
 |.tuple _,.tuple _,.bool _,_,h,_,_,_=>nomatch h
 |.tuple _,.tuple _,.str _,_,h,_,_,_=>nomatch h
 |.tuple _,.tuple _,.list _,_,h,_,_,_=>nomatch h
 |.tuple _,.tuple _,.int _,_,h,_,_,_=>nomatch h
 |.tuple _,.tuple _,.dict _,_,h,_,_,_=>nomatch h
 |.int _,.none,_,h,_,_,_,_=>nomatch h
 |.int _,.bool _,_,h,_,_,_,_=>nomatch h
 |.int _,.str _,_,h,_,_,_,_=>nomatch h
 |.int _,.list _,_,h,_,_,_,_=>nomatch h
 |.int _,.tuple _,_,h,_,_,_,_=>nomatch h
 |.int _,.dict _,_,h,_,_,_,_=>nomatch h
 |.tuple _,.none,_,h,_,_,_,_=>nomatch h
 |.tuple _,.bool _,_,h,_,_,_,_=>nomatch h
 |.tuple _,.int _,_,h,_,_,_,_=>nomatch h
 |.tuple _,.str _,_,h,_,_,_,_=>nomatch h
 |.tuple _,.list _,_,h,_,_,_,_=>nomatch h
 |.tuple _,.dict _,_,h,_,_,_,_=>nomatch h
 |.none,_,_,h,_,_,_,_=>by simp[gf]at h
 |.bool _,_,_,h,_,_,_,_=>by simp[gf]at h
 |.str _,_,_,h,_,_,_,_=>by simp[gf]at h
 |.list _,_,_,h,_,_,_,_=>by simp[gf]at h
 |.dict _,_,_,h,_,_,_,_=>by simp[gf]at h
def N3:∀(xs ys zs:List PyData),cV xs ys=true->cV ys zs=true->cV xs zs=true->cz xs ys=true->cz ys zs=true->cz xs zs=true
 |[],[],_,_,_,_,h,_=>by simp[cz]at h
 |[],_ :: _,[],_,_,_,_,h=>by simp[cz]at h
 |[],_ :: _,_ :: _,_,_,_,_,_=>by simp[cz]
 |_ :: _,[],_,_,_,_,h,_=>by simp[cz]at h
 |_ :: _,_ :: _,[],_,_,_,_,h=>by simp[cz]at h
 |x :: xs,y :: ys,z :: zs,o1,o2,o3,h1,h2=>by
  have a:gf x y=true/\cV xs ys=true:=by simpa[cV]using o1
  have b:gf y z=true/\cV ys zs=true:=by simpa[cV]using o2
  have c:gf x z=true/\cV xs zs=true:=by simpa[cV]using o3
  rw[DH a.1]at h1;rw[DH b.1]at h2;rw[DH c.1];rcases h1 with⟨rfl,h1⟩|⟨n1,h1⟩
  rcases h2 with⟨rfl,h2⟩|⟨n2,h2⟩
  exact .inl ⟨rfl,N3 xs ys zs a.2 b.2 c.2 h1 h2⟩;exact .inr ⟨n2,h2⟩;rcases h2 with⟨rfl,h2⟩|⟨n2,h2⟩
  exact .inr ⟨n1,h1⟩;have h3:=Ky x y z a.1 b.1 c.1 h1 h2;exact .inr ⟨(λe=>by rw[e,Kw]at h3;cases h3),h3⟩
end
def N4{ds:List PyData}(hok:∀a∈ds,∀b∈ds,gf a b=true)(hn:ds≠[]):Ord λi j=>n9 ds (min i (ds.length-1)) (min j (ds.length-1)):=by
 have mem:∀i,ds.getD (min i (ds.length-1)) .none∈ds:=λi=>by
  have hl:0<ds.length:=Zby.mpr hn;rw[ZG,Zy ⋯];exact Zas _
 have as:∀a∈ds,∀b∈ds,lU a b=true->lU b a=false:=λa ha b hb h=>by
  cases q:lU b a with
  |false=>rfl
  |true=>have:=Ky a b a (hok a ha b hb) (hok b hb a ha) (hok a ha a ha) h q;rw[Kw]at this;cases this
 refine⟨λa b c h1 h2=>?_,λa b h=>as _ (mem a) _ (mem b) h⟩;have ma:=mem a;have mb:=mem b;have mc:=mem c;unfold n9 at h1 h2 ⊢;generalize ds.getD (min a (ds.length-1)) .none=x at *;generalize ds.getD (min b (ds.length-1)) .none=y at *;generalize ds.getD (min c (ds.length-1)) .none=z at *;cases q:lU z x with
 |false=>rfl
 |true =>
  cases q1:lU x y with
  |true =>
   have:=Ky z x y (hok z mc x ma) (hok x ma y mb) (hok z mc y mb) q q1;rw[h2]at this;cases this
  |false =>
   have:=Kx x y (hok x ma y mb) (hok y mb x ma) q1 h1;subst this;rw[h2]at q;cases q
section
variable {X:Cx}
abbrev uf(K:Zfr):List V->Hp->VK->Prop:=λxs H Q=>∃(p:Addr) (vs:List V) (ds:List PyData),xs=[.ref p]/\jM K H p vs/\fD K H vs ds/\ds.length<64/\(∀a∈ds,∀b∈ds,gf a b=true)/\(∀a∈ds,a.canLay0=true/\a.depth<=50)/\(∃pD,∀d∈ds,xA pD d=true) /\
 ∀(l:Addr) (is:List Nat),H l=none->is.Perm (List.range ds.length)->(is.map λi=>ds.getD i .none).Pairwise (λa b=>lU b a=false)->Q (.ref l) (upd H l (.lst (is.map λi=>vs.getD i .non)))
def N5{vs:List V}{its:List Value}(r:Vals vs its):∀(is:List Nat),(∀i∈is,i<vs.length)->Vals (is.map λi=>vs.getD i .non) (is.map λi=>its.getD i Value.none)
 |[],_=>.nil
 |i :: is,h=>by
  have hi:=h i ZK;obtain⟨u,hu,ru⟩:=Vals.get r (Zy hi);refine .cons ?_ (N5 r is λj hj=>h j (ZE _ hj));show RelV (vs.getD i .non) (its.getD i Value.none);rw[ZG,ZG,Zy hi,hu];exact ru
def Tj(hu:X.A.units+64<cLine):fe X (.builtin "sorted") (uf X.K):=by
 intro pins s σ H xs us Q I r h;obtain⟨p,vs,ds,rfl,hq,hr,h64,hok,hlay,⟨pD,hT⟩,q⟩:=h;obtain⟨u,rfl,ru⟩:=vals1 r;cases ru;obtain⟨its,rv,pl,_⟩:=I.list hq;obtain⟨as,ra⟩:=fD.reads I hr rv;have hlen:its.length=ds.length:=SeqAt.ReadsAll.length _ _ _ ra;have hvl:vs.length=its.length:=rv.length;have o:Ord λi j=>n9 ds (min i (ds.length-1)) (min j (ds.length-1)):=by
  by_cases hn:ds=[];subst hn;exact⟨λ_ _ _ _ _=>rfl,λ_ _ _=>rfl⟩;exact N4 hok hn
 refine Ti pl.isList ⋯ o (λh2 s' E' hK=>⟨tuples' (!pD),λQ' q'=>Te (ReadsAll.keeps hK ra) hT ⋯ q',λi j C hi hj c=>?_⟩) λpp a1 a2=>?_;refine Td (ReadsAll.keeps hK ra) hT hok hlay (by show X.A.units+1+1+52<cLine;lk) hi hj ?_;rw[show min i (ds.length-1)=i by lk,show min j (ds.length-1)=j by lk]at c;exact c;have hb:∀ i∈pp.toList,i < ds.length:=λi hi=>by
  have:=Zai.mp (a1.pm.subset hi);lk
 have hpl:pp.toList.length=ds.length:=by rw[ZaC,a1.sz,hlen]
 obtain⟨e,he⟩:=sortedAll_at s.heap its (nL its pp);refine⟨.ref (s.heap.objs.size+1),_,I.laid (t':=s.toks) (o:=.lst (pp.toList.map λi=>vs.getD i .non)) (λb o q=>sortedAll_old q) (ZaJ _) ?_,rfl,q _ pp.toList (I.hok.fresh (ZaJ _)) (by rw[<- hlen];exact a1.pm) ?_⟩;refine⟨by rw[Zx,hpl];exact Z3 (ZaK h64) ∅,pp.toList.map λi=>its.getD i Value.none,e,N5 rv _ λi hi=>by rw[hvl,hlen];exact hb i hi,?_⟩
 have:nL its pp=(pp.toList.map λi=>its.getD i Value.none).toArray:=rfl;rw[<- this];exact he
 rw[ZaX,ZaI];intro i j hi hj hij;have:=a2 i j (ZaK hij) (by rw[hlen,<- hpl];exact hj);have e1:P pp i=pp.toList[i]:=by unfold P;rw[Zaq,<- Zao,Zy hi];rfl
 have e2:P pp j=pp.toList[j]:=by unfold P;rw[Zaq,<- Zao,Zy hj];rfl
 have b1:=hb _ (Zas hi);have b2:=hb _ (Zas hj);simp only[e1,e2,show min pp.toList[i] (ds.length-1)=pp.toList[i] by lk,show min pp.toList[j] (ds.length-1)=pp.toList[j] by lk]at this;exact this
end
end L2
namespace L2
open PySem PySem.Spec PyProof.Rows
end L2
namespace L2
open PySem PySem.Spec PyProof.Rows PySem.W
end L2
namespace L2
open PySem PySem.Spec PyProof.Rows
open Builtin
end L2
namespace L2
open PySem PySem.Spec PyProof.Rows
end L2
namespace L2
open PySem PySem.Spec PyProof.Rows PySem.W
end L2
namespace L2
open PySem PySem.Spec PyProof.Rows
structure DI(fs:List Addr)(e:Addr)(oe:Obj)(vs:Array Value)(T:Addr)(h h':Heap):Prop where
 exc:∃o ws,h'.get? e=some o/\o.cls=oe.cls/\o.dict=oe.dict/\o.data=.fields ws/\ws.size=vs.size/\ws[1]?=some (.ref T)
 new:h.objs.size<=T
 head:∃o ts,h'.get? T=some o/\o.data=.fields ts/\ts[3]?=some .none
 keep:∀b o,h.get? b=some o->b≠e->vs[1]?≠some (.ref b)->b ∉ fs->h'.get? b=some o
 slot:∀b o,h.get? b=some o->b≠e->vs[1]?≠some (.ref b)->∃sl,h'.get? b=some { o with slots:=sl }
 old:∀b,b≠e->vs[1]?=some (.ref b)->∃o ts,h'.get? b=some o/\o.data=.fields ts/\ts[3]?=some .none
section
variable {M:Model}{A:Around}{E:Value->Shared->Prop}{s:Shared}
def N6{base:Heap}{env:Env}{outer:List Env}{L e:Addr}{oe:Obj}{vs:Array Value}{hd0:Value}{hn:Bool}{Q:Unit->Shared->Prop}(hfr:A.frames=some (env :: outer))(hl:s.heap.FunFrames base (env :: outer))
  (hf:env.frame=some L) (he:s.heap.get? e=some oe) (hd:oe.data=.fields vs) (hs:1<vs.size)
  (h:∀h' T,(∃o ws,h'.get? e=some o/\o.cls=oe.cls/\o.dict=oe.dict/\o.data=.fields ws/\ws.size=vs.size/\ws[1]?=some (.ref T))->s.heap.objs.size<=T->(∃o ts,h'.get? T=some o/\o.data=.fields ts/\ts[3]?=some .none) ->
   (∀b o,s.heap.get? b=some o->b≠e->b ∉ frs (env :: outer)->h'.get? b=some o)->(∀b o,s.heap.get? b=some o->b≠e->∃sl,h'.get? b=some { o with slots:=sl })->Q () { s with heap:=h' }) :
  wpAny M A (do let a <- frameOf env;let pl <- entryPlaceOf L hn;let b <- EntryCells.newEntry hd0 a .none (rawInt L) .none pl;setField (.ref e) 1 b) (λ_ s'=>wpAny M A (setFlight (.ref e) none) Q E s') E s:=by
 have ne:e ∉ frs (env :: outer):=λz=>by
  obtain⟨_,o,q,nf⟩:=hl.mem z;rw[he]at q;cases q;exact nf vs hd
 refine wpAny_bind (wpAny_frameOf_fun hfr hl hf λh1 so=>wpAny_bind (wpAny_entryPlaceOf λpl ip=>?_));obtain⟨To,N7,Tp⟩:=so;have e1:h1.get? e=some oe:=by rw[N7 e ne];exact he
 unfold EntryCells.newEntry newFields;refine wpAny_bind (wpAny_newObj_type ?_ (ip.sizeOk5 _ _ _ _ _));generalize htd:([hd0,Value.ref L,Value.none,rawInt L,Value.none] ++ (if pl.isEmpty then List.replicate 6 Value.none else pl)).toArray=td;have t3:3<td.size:=by
  rw[<- htd];simp only[ZM,ZH,Z2,Za8];lk
 generalize hob:({ cls:=.type "traceback",dict:=none,data:=.fields td }:Obj)=ob;have N8:ob.data=.fields td:=by rw[<- hob]
 have Tq:ob.isFreed=false:=by rw[<- hob];rfl
 have e2:=ZD ob e1;refine wpAny_setField e2 hd hs ?_;have nT:h1.objs.size≠e:=Zbu (ZR e1);have d3:=Obj.data_mapFields hd (·.setIfInBounds 1 (Value.ref h1.objs.size));have e3:=Zak (Obj.mapFields (·.setIfInBounds 1 (Value.ref h1.objs.size))) e2 (Obj.isFreed_of_fields d3);have T3:((h1.push ob).update e (Obj.mapFields (·.setIfInBounds 1 (Value.ref h1.objs.size)))).get? h1.objs.size=some ob:=by
  rw[ZZ _ _ (Ne.symm nT)];exact ZX h1 Tq
 unfold setFlight;refine wpAny_bind (wpAny_field e3 d3 (x:=.ref h1.objs.size) (by simp[hs]) ?_);rw[if_pos (by simp)];have d4:=Obj.data_mapFields N8 (·.setIfInBounds 3 ((none:Option Addr).elim Value.none λf=>rawInt f));refine wpAny_setField T3 N8 t3 (h _ h1.objs.size ⟨_,_,?_,Obj.cls_mapFields _ _,?_,d3,by simp,by simp[hs]⟩ ?_ ⟨_,_,Zak _ T3 (Obj.isFreed_of_fields d4),d4,?_⟩ (λb o q n1 n2=>?_) λb o q n1=>?_);rw[ZZ _ _ nT];exact e3;obtain⟨c0,d0,N9,s0⟩:=oe;cases N9<;>first|rfl|cases hd
 rw[To];exact ZA _;simp[t3];have q1:h1.get? b=some o:=by rw[N7 b n2];exact q
 rw[ZZ _ _ (Zbu (ZR q1)),ZZ _ _ (Ne.symm n1)];exact ZD _ q1;obtain⟨sl,q1⟩:=Tp b o q;refine⟨sl,?_⟩;rw[ZZ _ _ (Zbu (ZR q1)),ZZ _ _ (Ne.symm n1)];exact ZD _ q1
def noted{base:Heap}{env:Env}{outer:List Env}{L e:Addr}{oe:Obj}{vs:Array Value}{Q:Unit->Shared->Prop}(hfr:A.frames=some (env :: outer))(hl:s.heap.FunFrames base (env :: outer))(hf:env.frame=some L)
  (he:s.heap.get? e=some oe) (hd:oe.data=.fields vs) (ht:vs[1]?=some .none\/∃T oT ts,vs[1]?=some (.ref T)/\T≠e/\s.heap.get? T=some oT/\oT.data=.fields ts/\ts[3]?=some .none)
  (h:∀h' T,DI (frs (env :: outer)) e oe vs T s.heap h'->Q () { s with heap:=h' }):wpAny M A (noteFrame (.ref e) env) (λ_ s'=>wpAny M A (setFlight (.ref e) none) Q E s') E s:=by
 unfold noteFrame;simp only[hf];rcases ht with h1|⟨T0,oT,ts,h1,nT,hT,dT,h3⟩
 refine wpAny_bind (wpAny_field he hd h1 ?_);rw[if_neg ∅];refine N6 hfr hl hf he hd (ZaD.mp h1).1 λh' T a1 a2 a3 a4 a5=>h h' T ⟨a1,a2,a3,λb o q n1 _ n3=>a4 b o q n1 n3,λb o q n1 _=>a5 b o q n1,λb _ z=>by rw[h1]at z;cases z⟩;refine wpAny_bind (wpAny_field he hd h1 ?_);rw[if_pos (by simp)];refine wpAny_bind (wpAny_field hT dT h3 ?_);rw[if_neg (by simp[rawInt])];refine wpAny_bind (wpAny_setField hT dT (ZaD.mp h3).1 ?_);have d2:=Obj.data_mapFields dT (·.setIfInBounds 3 Value.none);have T2:=Zak (Obj.mapFields (·.setIfInBounds 3 Value.none)) hT (Obj.isFreed_of_fields d2);have vS:∀b,b≠T0->(s.heap.update T0 (Obj.mapFields (·.setIfInBounds 3 Value.none))).get? b=s.heap.get? b:=λb n=>ZZ _ _ (Ne.symm n);have rec':∀b o,s.heap.get? b=some o->(∀ws,o.data≠.fields ws)->b≠T0:=λb o q n z=>by rw[z,hT]at q;cases q;exact n ts dT
 have Tr:(ts.setIfInBounds 3 Value.none)[3]?=some .none:=by simp[(ZaD.mp h3).1]
 have Ts:T0 ∉ frs (env :: outer):=λz=>by
  obtain⟨_,o,q,nf⟩:=hl.mem z;rw[hT]at q;cases q;exact nf ts dT
 refine N6 hfr (hl.of_keeps λb o q n=>⟨o,by rw[vS b (rec' b o q n)];exact q,rfl⟩) hf (by rw[vS e (Ne.symm nT)];exact he) hd (ZaD.mp h1).1 λh' T a1 a2 a3 a4 a5=>h h' T ⟨a1,?_,a3,λb o q n1 n2 n3=>?_,λb o q n1 n2=>?_,λb n1 z=>?_⟩;have z:=a2;dsimp only at z;rw[Heap.size_after_update]at z;exact z;have nb:b≠T0:=λz=>n2 (by rw[z];exact h1);exact a4 b o (by dsimp only;rw[vS b nb];exact q) n1 n3;have nb:b≠T0:=λz=>n2 (by rw[z];exact h1);exact a5 b o (by dsimp only;rw[vS b nb];exact q) n1;rw[h1]at z;cases z;exact⟨_,_,a4 T0 _ T2 n1 Ts,d2,Tr⟩
end
abbrev y9:Option Addr->Value
 |none=>.none
 |some T=>.ref T
abbrev XO(a C:Addr)(dx tr:Option Addr):HO:=.ext λh=>∃o vs,h.get? a=some o/\o.cls=.ref C/\o.dict=dx/\o.data=.fields vs/\vs[1]?=some (y9 tr)
abbrev XT(T:Addr):HO:=.ext λh=>∃o ts,h.get? T=some o/\o.data=.fields ts/\ts[3]?=some .none
abbrev Exc(H:Hp)(a C:Addr)(dx:Option Addr):Prop:=∃tr,H a=some (XO a C dx tr)/\∀T,tr=some T->T≠a/\H T=some (XT T)
abbrev XS(a:Addr)(H H':Hp):Prop:=(∃C dx tr za,H a=some (XO a C dx tr)/\H' a=some (XO a C dx za))/\∀b,b≠a->∀o,H b=some o->H' b=some o
section
variable {P:Program}{w:World}{H H' H2:Hp}{h h':Heap}{a C T:Addr}{dx tr:Option Addr}{o:HO}
def XO.ok(e:∃o vs,h.get? a=some o/\o.cls=.ref C/\o.dict=dx/\o.data=.fields vs/\vs[1]?=some (y9 tr)):bD P w H h a (XO a C dx tr) :=
 ⟨e,let ⟨o,_,q,_⟩:=e;⟨o,q⟩,λh1 h2 ⟨o,vs,q,r⟩ k=>⟨o,vs,k o q,r⟩⟩
def XT.ok(e:∃o ts,h.get? T=some o/\o.data=.fields ts/\ts[3]?=some .none):bD P w H h T (XT T) :=
 ⟨e,let ⟨o,_,q,_⟩:=e;⟨o,q⟩,λh1 h2 ⟨o,vs,q,r⟩ k=>⟨o,vs,k o q,r⟩⟩
def XO.of(ok:jN P w H h)(e:H a=some (XO a C dx tr)):∃o vs,h.get? a=some o/\o.cls=.ref C/\o.dict=dx/\o.data=.fields vs/\vs[1]?=some (y9 tr):=(ok a _ e).1
def XT.of(ok:jN P w H h)(e:H T=some (XT T)):∃o ts,h.get? T=some o/\o.data=.fields ts/\ts[3]?=some .none:=(ok T _ e).1
def bD.there(x:bD P w H h a o):∃ob,h.get? a=some ob:=by
 cases o with
 |lst xs=>obtain⟨_,_,_,_,e⟩:=x;exact⟨_,e⟩
 |tup xs=>obtain⟨_,_,_,_,e,_⟩:=x;exact⟨_,e⟩
 |dK kvs=>obtain⟨_,_,_,_,o,_,_,e,_⟩:=x;exact⟨_,e⟩
 |dT kvs=>obtain⟨_,_,_,_,o,_,_,e,_⟩:=x;exact⟨_,e⟩
 |set S n=>obtain⟨o,_,_,_,e,_⟩:=x;exact⟨_,e⟩
 |ins C dx fs=>obtain⟨_,_,_,e,_⟩:=x;exact⟨_,e⟩
 |own y=>obtain⟨_,e⟩:=x;exact⟨_,e⟩
 |xd fs=>obtain⟨_,⟨_,_,_,e,_⟩,_⟩:=x;exact⟨_,e⟩
 |iE lo hi=>obtain⟨_,_,_,e⟩:=x;exact⟨_,e⟩
 |mJ ob u=>obtain⟨e,_⟩:=x;exact⟨_,e⟩
 |wO ps=>exact⟨_,(show h.get? a=some _ from x)⟩
 |met f y=>exact⟨_,(show h.get? a=some _ from x)⟩
 |ext φ=>obtain⟨_,e,_⟩:=x;exact e
def jN.none_of(ok:jN P w H h)(e:h.get? a=none):H a=none:=by
 cases q:H a with
 |none=>rfl
 |some o=>obtain⟨ob,z⟩:=(ok a o q).there;rw[e]at z;cases z
def XO.inj{C':Addr}{BR za:Option Addr}(e:XO a C dx tr=XO a C' BR za):C=C'/\dx=BR:=by
 have q:(λh:Heap=>∃o vs,h.get? a=some o/\o.cls=.ref C/\o.dict=dx/\o.data=.fields vs/\vs[1]?=some (y9 tr))=(λh:Heap=>∃o vs,h.get? a=some o/\o.cls=.ref C'/\o.dict=BR/\o.data=.fields vs/\vs[1]?=some (y9 za)):=by
  unfold XO at e;injection e
 let ob:Obj:={ cls:=.ref C,dict:=dx,data:=.fields #[.none,y9 tr] }
 let h0:Heap:={ objs:=Array.replicate (a+1) ob }
 have e0:h0.get? a=some ob:=by
  refine Heap.get?_some_iff.mpr ⟨?_,rfl⟩;simp[h0]
 have z:=(congrFun q h0).mp ⟨ob,_,e0,rfl,rfl,rfl,rfl⟩;obtain⟨o',vs,e1,e2,e3,_⟩:=z;rw[e0]at e1;cases e1;exact⟨Value.ref.inj e2,e3⟩
def XS.trans(x:XS a H H')(y:XS a H' H2):XS a H H2:=by obtain⟨⟨C,dx,tr,Ze,e1,e2⟩,k⟩:=x;obtain⟨⟨C',BR,Tt,Tv,e3,e4⟩,k'⟩:=y;rw[e2]at e3;obtain⟨rfl,rfl⟩:=XO.inj (ZN e3);exact⟨⟨C,dx,tr,Tv,e1,e4⟩,λb n o q=>k' b n o (k b n o q)⟩
end
section
variable {X:Cx}{pins:List (Addr×Obj)}{σ:St}{H:Hp}{s:Shared}{a C:Addr}{dx:Option Addr}
def Inv.noted{A:Around}{E:Value->Shared->Prop}{Q:Unit->Shared->Prop}(I:Inv X pins σ H s)(hst:X.stack=X.env :: X.outer)(hf:X.env.frame=some X.env.locals)(hA:A.frames=some X.stack)(x:Exc H a C dx)
  (h:∀h' H',XS a H H'->Exc H' a C dx->Inv X pins σ H' { s with heap:=h' }->Q () { s with heap:=h' }) :
  wpAny (model X.prog X.w) A (noteFrame (.ref a) X.env) (λ_ s'=>wpAny (model X.prog X.w) A (setFlight (.ref a) none) Q E s') E s:=by
 obtain⟨tr,ea,et⟩:=x;obtain⟨oe,vs,he,hc,hdx,hd,h1⟩:=XO.of I.hok ea;have DJ:∀b,H b=none->vs[1]?≠some (.ref b):=λb nb z=>by
  rw[h1]at z;cases tr with
  |none=>cases z
  |some T=>cases z;rw[(et _ rfl).2]at nb;cases nb
 have vT:∀b,H b=none->b≠a:=λb nb z=>by rw[z,ea]at nb;cases nb
 refine L2.noted (by rw[hA,hst]) (hst ▸ I.stack) hf he hd ?_ λh' T N=>?_;cases tr with
 |none=>exact .inl h1
 |some T=>obtain⟨oT,ts,q1,q2,q3⟩:=XT.of I.hok (et T rfl).2;exact .inr ⟨T,oT,ts,h1,(et T rfl).1,q1,q2,q3⟩
 have HT:H T=none:=I.hok.fresh N.new;have Ta:T≠a:=vT T HT;have gT:∀b o,s.heap.get? b=some o->b≠T:=λb o q=>Z8 (Z5 (ZR q) N.new)
 let H':Hp:=upd (upd H a (XO a C dx (some T))) T (XT T)
 have Hb:∀b,b≠a->∀o,H b=some o->H' b=some o:=λb n o q=>by
  show upd (upd H a _) T _ b=_;rw[dO (λz=>by rw[z,HT]at q;cases q),dO n];exact q
 have Ha:H' a=some (XO a C dx (some T)):=by
  show upd (upd H a _) T _ a=_;rw[dO (Ne.symm Ta),mK]
 have Oa:H' T=some (XT T):=mK;have Hn:∀b o,s.heap.get? b=some o->H b=none->H' b=none:=λb o q n=>by
  show upd (upd H a _) T _ b=_;rw[dO (gT b o q),dO (vT b n)];exact n
 have xs:XS a H H':=⟨⟨C,dx,tr,some T,ea,Ha⟩,Hb⟩;have sC:∀b u,H b=some u->(∀φ,u≠.ext φ)->b≠a:=λb u q n z=>by rw[z,ea]at q;cases q;exact n _ rfl
 have un:Un (frs X.stack) [] H H' s.heap h':=by
  rw[hst]
  refine⟨λb o q n1 n2 _=>N.keep b o q (vT b n1) (DJ b n1) n2,λb o q n1 _ _=>N.slot b o q (vT b n1) (DJ b n1),λb o q n _=>Hn b o q n,λb o q _=>?_,
   λb xs q=>Hb b (sC b _ q λφ z=>nomatch z) _ q,λb o u q=>Hb b (sC b _ q λφ z=>nomatch z) _ q,λb ps q=>⟨#[],by rw[Za9];exact Hb b (sC b _ q λφ z=>nomatch z) _ q⟩⟩
  by_cases n1:b=a;subst n1;obtain⟨o',_,q',_⟩:=N.exc;exact⟨o',q'⟩;by_cases n2:vs[1]?=some (.ref b);obtain⟨o',_,q',_⟩:=N.old b n1 n2;exact⟨o',q'⟩;obtain⟨sl,q'⟩:=N.slot b o q n1 n2;exact⟨_,q'⟩
 have hok:jN X.prog X.w H' h':=λb u q=>by
  by_cases n0:b=T;subst n0;rw[Oa]at q;cases q;exact XT.ok N.head;by_cases n1:b=a;subst n1;rw[Ha]at q;cases q;obtain⟨o',ws,p1,p2,p3,p4,p5,p6⟩:=N.exc;exact XO.ok ⟨o',ws,p1,by rw[p2];exact hc,by rw[p3];exact hdx,p4,p6⟩;have qb:H b=some u:=by
   have z:upd (upd H a (XO a C dx (some T))) T (XT T) b=some u:=q;rw[dO n0,dO n1]at z;exact z
  by_cases n2:vs[1]?=some (.ref b);rw[h1]at n2;cases tr with
  |none=>cases n2
  |some T0 =>
   cases n2;rw[(et b rfl).2]at qb;cases qb;exact XT.ok (N.old b n1 h1)
  have Ob:∀c v,H c=some v->c ∉ frs X.stack:=λc v z y=>by rw[I.oJ c y]at z;cases z
  refine(I.hok b u qb).stay (λc v hc' r=>?_) (λc r=>Hb c (sC c _ r λφ z=>nomatch z) _ r) λc xs r=>Hb c (sC c _ r λφ z=>nomatch z) _ r;rcases hc' with rfl|hc'
  exact N.keep c v r n1 n2 (hst ▸ Ob c u qb);refine N.keep c v r (sC c _ hc' λφ z=>nomatch z) (λz=>?_) (hst ▸ Ob c _ hc');rw[h1]at z;cases tr with
  |none=>cases z
  |some T0=>cases z;rw[(et c rfl).2]at hc';cases hc'
 exact h h' H' xs ⟨some T,Ha,λT' e=>by cases e;exact⟨Ta,Oa⟩⟩ (I.call (ch:=[]) un hok I.bare λb z=>absurd z (by simp))
abbrev rF(P:Program)(w:World):qF:=λouter H s E e s'=>∃a C dx H',e=.ref a/\s'.os=s.os/\AllBare s'.gens/\Un (frs outer) [] H H' s.heap s'.heap/\jN P w H' s'.heap/\Exc H' a C dx/\∀zb,XS a H' zb->E (.ref a) none zb
end
section
variable {P:Program}{w:World}{K:Zfr}{mg:Str->Option Value}{base:Heap}{N:List Str}{qual:Str}{scope:Scope}{f:Addr}{cd:Value}{A:Around}{outer:List Env}{s0:Shared}{H0:Hp}{E:XK}
def leave{pins:List (Addr×Obj)}{σ:St}{H:Hp}{s:Shared}{a C:Addr}{dx:Option Addr}(I:Inv (dY (rF P w) P w K mg base N qual scope f cd A outer s0 H0 E) pins σ H s)(x:Exc H a C dx)(h:∀zb,XS a H zb->E (.ref a) none zb):
  (dY (rF P w) P w K mg base N qual scope f cd A outer s0 H0 E).xe (.ref a) s:=by
 show wpAny _ _ («leaving» _ (.ref a)) _ _ s;unfold «leaving»;refine wpAny_bind (Inv.noted I rfl rfl I.ok.frames x λh' H' xs x' I'=>?_);exact⟨a,C,dx,H',rfl,I'.os,I'.bare,I'.base,I'.hok,x',λzb y=>h zb (xs.trans y)⟩
def zc:Passes (rF P w) (dY (rF P w) P w K mg base N qual scope f cd A outer s0 H0 E) E:=by rintro pins σ H s e s' I ⟨a,C,dx,H',rfl,os,bare,un,hok,x,h⟩;exact leave (I.rg os un hok bare λb z=>absurd z (by simp)) x h
end
section
variable {X:Cx}{pins:List (Addr×Obj)}{σ:St}{H:Hp}{s:Shared}{a C:Addr}{dx:Option Addr}
def Inv.Kz{h':Heap}{o:HO}(I:Inv X pins σ H s)(kp:∀b u,s.heap.get? b=some u->h'.get? b=some u)(hn:s.heap.get? a=none)(new:bD X.prog X.w (upd H a o) h' a o):Inv X pins σ (upd H a o) { s with heap:=h' }:=by
 have Ha:H a=none:=I.hok.none_of hn;have ne:∀b u,H b=some u->b≠a:=λb u q=>ym q Ha;have up:∀b u,H b=some u->upd H a o b=some u:=λb u q=>by rw[dO (ne b u q)];exact q
 have hok:jN X.prog X.w (upd H a o) h':=λb u q=>by
  by_cases hb:b=a;subst hb;rw[mK]at q;cases q;exact new;rw[dO hb]at q;exact(I.hok b u q).stay (λc v _ r=>kp c v r) (λc r=>up c _ r) λc xs r=>up c _ r
 have un:Un (frs X.stack) [] H (upd H a o) s.heap h' :=
  ⟨λb u q _ _ _=>kp b u q,λb u q _ _ _=>⟨u.slots,kp b u q⟩,λb u q n _=>by rw[dO (λz=>by rw[z,hn]at q;cases q)];exact n,λb u q _=>⟨u,kp b u q⟩,λb xs q=>up b _ q,λb x y q=>up b _ q,λb ps q=>⟨#[],by rw[Za9];exact up b _ q⟩⟩
 exact I.call (ch:=[]) un hok I.bare λb z=>absurd z (by simp)
def Inv.flight{M:Model}{A:Around}{E:Value->Shared->Prop}{Q:Unit->Shared->Prop}(I:Inv X pins σ H s)(x:Exc H a C dx)(h:∀h',Inv X pins σ H { s with heap:=h' }->Q () { s with heap:=h' }):wpAny M A (setFlight (.ref a) none) Q E s:=by
 obtain⟨tr,ea,et⟩:=x;obtain⟨oe,vs,he,hc,hdx,hd,h1⟩:=XO.of I.hok ea;cases tr with
 |none =>
  unfold setFlight;refine wpAny_bind (wpAny_field he hd h1 ?_);exact wpAny_pure (h s.heap I)
 |some T =>
  obtain⟨Ta,eT⟩:=et T rfl;obtain⟨oT,ts,q1,q2,q3⟩:=XT.of I.hok eT;have lt:3<ts.size:=(ZaD.mp q3).1;have d2:=Obj.data_mapFields q2 (·.setIfInBounds 3 Value.none);have T2:=Zak (Obj.mapFields (·.setIfInBounds 3 Value.none)) q1 (Obj.isFreed_of_fields d2);have vS:∀b u,b≠T->s.heap.get? b=some u->(s.heap.update T (Obj.mapFields (·.setIfInBounds 3 Value.none))).get? b=some u:=λb u n q=>by rw[ZZ _ _ (Ne.symm n)];exact q
  have nT:∀b,H b=none->b≠T:=λb n z=>by rw[z,eT]at n;cases n
  refine wpAny_setFlight_none he hd h1 q1 q2 lt (h _ (I.call (ch:=[]) ⟨λb u q n _ _=>vS b u (nT b n) q,λb u q n _ _=>⟨u.slots,vS b u (nT b n) q⟩,λb u q n _=>n,λb u q _=>?_,λ_ _ q=>q,λ_ _ _ q=>q,λb ps q=>⟨#[],by rw[Za9];exact q⟩⟩ ?_ I.bare λb z=>absurd z (by simp)));by_cases z:b=T;subst z;exact⟨_,T2⟩;exact⟨u,vS b u z q⟩;intro b u q;by_cases z:b=T;subst z;rw[eT]at q;cases q;exact XT.ok ⟨_,_,T2,d2,by simp[lt]⟩;refine(I.hok b u q).stay (λc v hc' r=>vS c v ?_ r) (λc r=>r) λc xs r=>r;rcases hc' with rfl|hc'
  exact z;rintro rfl;rw[eT]at hc';cases hc'
end
@[reducible]def Cx.tr(X:Cx)(pins:List (Addr×Obj))(W:St->Addr->Hp->Prop):Cx :=
 { X with pn:=X.pn ++ pins,xe:=λe s=>∃σ H a C dx,e=.ref a/\Inv X pins σ H s/\Exc H a C dx/\∀H2,XS a H H2->W σ a H2 }
@[reducible]def Cx.held(X:Cx)(a:Addr):Cx:={ X with A:=X.A.mark (some (.ref a)),calm:=false,xe:=λ_ _=>False }
section
variable {X:Cx}{pins:List (Addr×Obj)}{σ:St}{H:Hp}{s:Shared}{W:St->Addr->Hp->Prop}{a:Addr}
def Cx.Ok.tr(ok:X.Ok):(X.tr pins W).Ok:=⟨ok.mod,ok.kind,ok.glob,ok.blt,ok.above,ok.inj,ok.has,ok.wQ,ok.hd,ok.frames,ok.stk,ok.CB,ok.bs,ok.sS,ok.pO,ok.qB,ok.kQ,ok.uR⟩
def Cx.Ok.lX(ok:(X.tr pins W).Ok):X.Ok:=⟨ok.mod,ok.kind,ok.glob,ok.blt,ok.above,ok.inj,ok.has,ok.wQ,ok.hd,ok.frames,ok.stk,ok.CB,ok.bs,ok.sS,ok.pO,ok.qB,ok.kQ,ok.uR⟩
def Inv.tr(I:Inv X pins σ H s):Inv (X.tr pins W) [] σ H s:=⟨I.ok.tr,I.os,I.bare,I.base,I.loc,I.cell,I.free,I.fX,λp hp=>I.pin p (by rw[Zad]at hp;exact hp),I.hok,I.len⟩
def Inv.lX{kK:List (Addr×Obj)}(I:Inv (X.tr pins W) kK σ H s):Inv X pins σ H s:=⟨I.ok.lX,I.os,I.bare,I.base,I.loc,I.cell,I.free,I.fX,λp hp=>I.pin p (ZaL _ hp),I.hok,I.len⟩
def SP.lX{kK:List (Addr×Obj)}{D:Ends}{f:Flow}{s':Shared}(h:SP (X.tr pins W) kK D f s'):SP X pins D f s':=by
 cases f with
 |next=>obtain⟨σ',H',I,q⟩:=h;exact⟨σ',H',I.lX,q⟩
 |brk=>obtain⟨σ',H',I,q⟩:=h;exact⟨σ',H',I.lX,q⟩
 |cont=>obtain⟨σ',H',I,q⟩:=h;exact⟨σ',H',I.lX,q⟩
 |ret u=>obtain⟨v,σ',H',I,r,q⟩:=h;exact⟨v,σ',H',I.lX,r,q⟩
def Cx.Ok.held(ok:X.Ok):(X.held a).Ok:=⟨ok.mod,ok.kind,ok.glob,ok.blt,ok.above,ok.inj,ok.has,ok.wQ,λz=>(by cases z),ok.frames,ok.stk,ok.CB,ok.bs,ok.sS,ok.pO,ok.qB,ok.kQ,ok.uR⟩
def Inv.held(I:Inv X pins σ H s):Inv (X.held a) pins σ H s:=⟨I.ok.held,I.os,I.bare,I.base,I.loc,I.cell,I.free,I.fX,I.pin,I.hok,I.len⟩
def Inv.oS(ok:X.Ok)(I:Inv (X.held a) pins σ H s):Inv X pins σ H s:=⟨ok,I.os,I.bare,I.base,I.loc,I.cell,I.free,I.fX,I.pin,I.hok,I.len⟩
def Inv.unbind{M:Model}{A:Around}{E:Value->Shared->Prop}{i:Nat}{n:Str}{pos:Pos}{Q:Unit->Shared->Prop}(I:Inv X pins σ H s)(hN:X.N.Nodup)(hi:X.N[i]?=some n)(hk:X.env.scope.names.lookup n=some .local)
  (h:∀s',Inv X pins (σ.set i none) H s'->Q () s'):wpAny M A (do bindName X.env n .none;unbindBehindTheSuite X.env n pos) Q E s:=by
 obtain⟨m,hn,hl⟩:=id I.loc;have hcls:(X.env.scope.kind == .class || (X.env.scope.kind == .module && X.env.locals != X.env.globals))=false:=by rw[I.ok.kind];rfl
 have tq:=I.tq;refine wpAny_nameGoes_keeps hk hn hcls λh' v hn' hs=>h _ ?_;have low:∀b o,X.s₀.heap.get? b=some o->b≠X.env.locals:=λb o e=>Z8 (Z5 (ZR e) I.ok.above);have up:∀b o,b≠X.env.locals->s.heap.get? b=some o->h'.get? b=some o:=λb o n q=>(hs.2 b n).trans q;refine⟨I.ok,I.os,I.bare,⟨λb o e n hb hx=>up b o (low b o e) (I.base.keep b o e n hb hx),λb o e n hb hx=>?_,I.base.free,λb o e hx=>?_,I.base.tups,I.base.nI,I.base.oE⟩,⟨_,hn',λj y v' e1 e2 e3=>?_⟩,λy c e=>?_,I.free,I.fX,λp hp=>?_,λb ob e=>?_,by simpa using I.len⟩;obtain⟨sl,e1⟩:=I.base.slot b o e n hb hx;exact⟨sl,up b _ (low b o e) e1⟩;obtain⟨o',e1⟩:=I.base.there b o e hx;exact⟨o',up b _ (low b o e) e1⟩;have hj:j≠i:=λz=>by
  subst z;by_cases hl':j<σ.length;rw[ZI hl']at e2;cases e2;rw[ZaG (by rw[Zae];lk)]at e2;cases e2
 rw[ZJ (Ne.symm hj)]at e2;obtain⟨u',r',q⟩:=hl j y v' e1 e2 e3;refine⟨u',r',?_⟩;have yn:y≠n:=λz=>hj (JB hN e1 (z ▸ hi));rcases q with⟨k,e⟩|⟨k,c,e,z⟩
 exact .inl ⟨k,by simp[yn,e]⟩;exact .inr ⟨k,c,e,z.sameBut hs (tq y c e)⟩;obtain⟨w',z⟩:=I.cell y c e;exact⟨w',z.sameBut hs (tq y c e)⟩;obtain⟨e,n',ne,nf,d⟩:=I.pin p hp;exact⟨up _ _ ne e,n',ne,nf,d⟩;refine(I.hok b ob e).stay (λc w' hc q=>up c w' ?_ q) (λ_ q=>q) λ_ _ q=>q;rintro rfl;rcases hc with rfl|hc
 rw[I.free]at e;cases e;rw[I.free]at hc;cases hc
end
abbrev DK(K:Zfr)(tb:(St->Addr->Hp->Prop)->TS)(F:Addr)(i:Nat)(ts:TS):TS:=λD σ H =>
 tb (λσ1 a H1=>∃C dx tr,H1 a=some (XO a C dx tr)/\PySem.W.mroIn K C (.ref F)=some true /\
  ts { nx:=λσ2 H2=>D.nx (σ2.set i none) H2,bk:=λσ2 H2=>D.bk (σ2.set i none) H2,ct:=λσ2 H2=>D.ct (σ2.set i none) H2,rt:=D.rt } (σ1.set i (some (.ref a))) H1) D σ H
abbrev ug(sp:Sp)(W:St->Addr->Hp->Prop)(t:TA):TE:=λσ H Q=>t σ H λvs H1=>sp vs H1 Q λu _ H2=>∃a,u=.ref a/\W σ a H2
section
variable {X:Cx}{k:Nat}{f:Addr}{fd:FuncData}{ps:List Str}{sp:Sp}{x:Str}{p pos:Pos}{e:Expr}{es:List Expr}{t:TA}{pins:List (Addr×Obj)}{W:St->Addr->Hp->Prop}
def Tw(F:aJ X.prog X.w X.K X.mg X.base (rF X.prog X.w) k f fd ps sp)(hr:dQ k X.A)(hg:Gl X x)(hm:X.mg x=some (.ref f))(hk:PySem.W.keepIn X.K (.ref f)=true)(hb:Binds X.K fd ps [])
  (ha:PA (X.tr pins W) (e :: es) t) (hdb:(x == ("__debug__" : Str))=false:=by decide) (he:starEach (e :: es) X.env=(false,eval e X.env) :: starEach es X.env:=by rfl) (hpl:(backTo pos (starEach es X.env)).any (·.1)=false:=by rfl) :
  PE (X.tr pins W) (.Call (.Name x p) (e :: es) [] pos) (ug sp W t):=by
 intro kK s σ H Q I h;refine wpAny_Call_Name_kw (BF I hg hm ?_ hdb);refine PySem.W.callWith_K (h₀:=X.base) I.ok.mod.BD hk (cf (ha pos kK s σ H _ I h) λus s1 ⟨vs,H1,I1,r,q⟩=>⟨I1.oH,?_⟩) he hpl;have hl:us.length=ps.length:=by rw[<- r.length];exact F.len _ _ _ _ q
 have hbd:=hb s1 us I1.oH (by rw[Zad];exact hl);rw[Zad]at hbd;refine wpAny_call (codeAny_mono (F.run X.A X.stack s1 H1 ⟨us,[]⟩ us vs Q _ hr I1.vI hbd r q) λr s' hq=>?_);cases r with
 |error e =>
  obtain⟨a,C,dx,H',rfl,os,bare,un,hok,x,hw⟩:=hq;refine⟨σ,H',a,C,dx,rfl,(I1.rg os un hok bare λb z=>absurd z (by simp)).lX,x,λH2 y=>?_⟩;obtain⟨a',ea,w⟩:=hw H2 y;cases ea;exact w
 |ok fl =>
  cases fl with
  |ret u=>exact I1.after hq
  |next=>exact False.elim hq
  |brk=>exact False.elim hq
  |cont=>exact False.elim hq
end
end L2
namespace L2
open PySem PySem.Spec PyProof.Rows PySem.W
structure xB(K:Frag)(C:Addr):Prop where
 ga:findIn K (.ref C) "__getattribute__" = some (some (.builtin "BaseException.__getattribute__"))
 gt:findIn K (.ref C) "__getattr__" = some none
 hd:hasDictIn K C=true
 bx:mroIn K C (.type "BaseException")=some true
 ob:mroIn K C (.type "object")=some true
 cl:findIn K (.ref C) "__class__" = some (some (.builtin "object.__class__"))
 gs:specialIn K (.builtin "object.__class__") "__get__" = some (some (.builtin "getset_descriptor.__get__"))
 tk:takesIn K (.builtin "object.__class__")=some true
section
variable {prog:Program}{w:World}{A:Around}{E:Value->Shared->Prop}{s:Shared}{K:Frag}{a C:Addr}{ox:Obj}{odo:Option Obj}{name:Str}
def Tx{M:Model}{nv:Value}{Q:Unit->Shared->Prop}(X:K.In s.heap)(I:InstAt s.heap a ox C odo)(e:xB K C)(hq:Q () s):wpAny M A (checkBuiltinCall "BaseException.__getattribute__" ⟨[.ref a,nv],[]⟩) Q E s:=by
 have hk:builtinKind "BaseException.__getattribute__" = some .slot:=by decide +kernel
 have hsplit:splitId "BaseException.__getattribute__" = some ("BaseException","__getattribute__"):=by decide +kernel
 have ha:=F.args_bexc_ga (.ref a) nv;have LT:=I.type (M:=M);have LB:=looks_mroIn (M:=M) X e.bx;obtain⟨h,g,d,t,os⟩:=s;simp only[checkBuiltinCall,hk,hsplit];refine wpAny_bind ?_;unfold isInstance;refine wpAny_bind (LT.at (LB.at ?_))
 repeat (first|assumption|wp_step)
def zd{tk:Tok}{fill expr:Bool}{Q:Value->Shared->Prop}(X:K.In s.heap)(I:InstAt s.heap a ox C odo)(e:xB K C)
  (h:∀A' (R:Fin->Shared->Prop) E',(∀v s',handedOut v=pure v->Q v s'->R (.done (.ret v)) s')->wpAny (model prog w) A' (Builtin.«object.__getattribute__» ⟨[.ref a,.str name tk],[]⟩) R E' s) :
  wpAny (model prog w) A (getAttrBy (.ref a) (.str name tk) fill expr) Q E s:=by
 have f3:=F.attrBase_ValueError.ga.bind (.ref a);have LT:=I.type (M:=model prog w);have L1:=looks_findIn (M:=model prog w) X e.ga;have L2:=looks_findIn (M:=model prog w) X e.gt;have Zf:(expr && onTheHeap (Value.builtin "BaseException.__getattribute__"))=false:=by cases expr<;>rfl
 have Tz:(Value.builtin "BaseException.__getattribute__" == Value.builtin "object.__getattribute__")=false:=by decide +kernel
 have Zg:(onTheHeap (Value.ref C) && Value.builtin "BaseException.__getattribute__" == Value.builtin "object.__getattribute__")=false:=by rw[Tz];rfl
 obtain⟨hh,g,d,t,os⟩:=s;unfold getAttrBy
 repeat (any_goals (first|assumption|with_reducible refine LT.at ?_|with_reducible refine L1.at ?_|with_reducible refine L2.at ?_|wp_step))
 refine codeAny_call_builtin F.attrBase_ValueError.ga.plain F.entry_bexc_ga (Tx X I e ?_);refine h _ _ _ λv s' hv q=>?_;dsimp only;rw[hv];exact wpAny_pure q
def TB{tk:Tok}{v:Value}{R:Fin->Shared->Prop}(X:K.In s.heap)(I:InstAt s.heap a ox C odo)(hf:findObj K C odo name=some (.value v))(h:R (.done (.ret v)) s):
  wpAny (model prog w) A (Builtin.«object.__getattribute__» ⟨[.ref a,.str name tk],[]⟩) R E s:=by
 have LT:=I.type (M:=model prog w);have LF:=looks_find (M:=model prog w) X I hf;obtain⟨hh,g,d,t,os⟩:=s
 repeat (any_goals (first|assumption|with_reducible refine LT.at ?_|with_reducible refine LF.at ?_|wp_step))
def TC{v:Value}{expr:Bool}{Q:Value->Shared->Prop}(X:K.In s.heap)(I:InstAt s.heap a ox C odo)(e:xB K C)(hf:findObj K C odo name=some (.value v))(hv:handedOut v=pure v)(h:Q v { s with toks:=s.toks+1 }):
  wpAny (model prog w) A (getAttr (.ref a) name expr) Q E s:=by
 obtain⟨hh,g,d,t,os⟩:=s;unfold getAttr
 repeat (any_goals (first|assumption|with_reducible refine zd (s:=⟨hh,g,d,t+1,os⟩) X I e (λA' R E' k=>TB (s:=⟨hh,g,d,t+1,os⟩) X I hf (k _ _ hv ?_))|wp_step))
end
end L2
namespace L2
open PySem PySem.Spec PyProof.Rows
end L2
namespace L2
open PySem PySem.Spec PyProof.Rows PySem.W PySem.Builtin PySem.Builtin.ObjectAttr
abbrev TF:List Value:=[.type "ValueError",.type "Exception",.type "BaseException",.type "object"]
abbrev rG:List Value->Bool
 |[]=>false
 |v :: r=>(v :: r) == TF || (match v with|.ref _=>rG r|_=>false)
def Oc(self:Value):∀{l:List Value},rG l=true->refuseLoop self "__setattr__" l=pure ()/\l.contains (.type "object")=true
 |[],e=>by cases e
 |v :: r,e=>by
  unfold rG at e;rcases Bool.or_eq_true_iff.mp e with e|e
  ·rw[beq_iff_eq.mp e];exact⟨PySem.F.store_ValueError.passes self,by decide +kernel⟩
  ·split at e
   ·next c =>
    obtain⟨h1,h2⟩:=Oc self (l:=r) e;exact⟨by rw[refuseLoop_ref];exact h1,by rw[Zbk,h2,Bool.or_true]⟩
   ·cases e
structure uX(K:Frag)(C:Addr):Prop where
 sa:findIn K (.ref C) "__setattr__" = some (some (.builtin "object.__setattr__"))
 hd:hasDictIn K C=true
 po:(clsIn K C).any (λcd=>rG cd.mro)=true
section
variable {prog:Program}{w:World}{A:Around}{E:Value->Shared->Prop}{s:Shared}{K:Frag}{a C:Addr}{ox:Obj}{odo:Option Obj}{name:Str}{v:Value}
def Oe{R:Result->Shared->Prop}{tk:Tok}(X:K.In s.heap)(I:InstAt s.heap a ox C odo)(e:uX K C)(ht:takerIn K C name=some none)
  (h:∀b,wpAny (model prog w) A.in1 (storeInOwnDict (.ref a) (.ref C) (.str name tk) name v b)
   (λfin s'=>match fin with|.done f=>R (.ok f) s'|.again c'=>c'.quiet=true/\codeAny (model prog w) A c' R s') (λe s'=>R (.error e) s') s) :
  codeAny (model prog w) A (.call (.builtin "object.__setattr__") ⟨[.ref a,.str name tk,v],[]⟩) R s:=by
 have SF:=PySem.F.store_object;obtain⟨cd,hc,ho⟩:=any_some e.po;obtain⟨o1,o2⟩:=Oc (.ref a) ho;have ne:cd.mro.isEmpty=false:=by
  cases q:cd.mro with
  |nil=>rw[q]at ho;cases ho
  |cons _ _=>rfl
 have sub:Looks (model prog w) s.heap (isInstance (.ref a) (.type "object")) true:=I.type.andThen (looks_mroIn X (by unfold mroIn;rw[hc,ZaE,if_neg (by rw[ne];decide),o2]));refine codeAny_call_builtin SF.slot.plain SF.entry (@check_slot (model prog w) _ _ s "object.__setattr__" "object" "__setattr__" (.ref a) [.str name tk,v] [] _ SF.kind SF.split sub (SF.args (.ref a) (.str name tk) v) ?_);obtain⟨attr,ha,hr⟩:=Zal.mp ht;have LM:Looks (model prog w) s.heap (mroOf (.ref C)) cd.mro:=(looks_clsIn X hc).andThen .now;have LT:Looks (model prog w) s.heap (storeTaker? attr) none:=by
  cases attr with
  |none=>exact .now
  |some u =>
   obtain⟨b,hb,hn⟩:=Z4.mp hr;cases b with
   |true=>cases hn
   |false=>exact(looks_takesIn X hb).andThen .now
 rw[osa_eq,refuse_eq];refine wpAny_bind (wpAny_bind (I.type.here (wpAny_bind (LM.here ?_))));rw[o1];exact wpAny_pure (wpAny_bind (I.type.here (wpAny_bind ((looks_findIn X ha).here (wpAny_bind (LT.here (h _)))))))
def TH{Q:Unit->Shared->Prop}(X:K.In s.heap)(hx:s.heap.get? a=some ox)(hc:ox.cls=.ref C)(hdx:ox.dict=none){vs:Array Value}(hdt:ox.data=.fields vs)(e:uX K C)(ht:takerIn K C name=some none)
  (h:∀h' d tk,s.heap.objs.size<=d->h'.get? a=some { ox with dict:=some d }->h'.Ns1 d (λy=>if y=name then some v else none)->(∀b o,b≠a->s.heap.get? b=some o->h'.get? b=some o)->Q () { s with heap:=h',toks:=tk }) :
  wpAny (model prog w) A (setAttr (.ref a) name v) Q E s:=by
 obtain⟨oc,od,KA,osl⟩:=ox;dsimp only at hc hdx hdt;subst hc hdx hdt;have J:InstAt s.heap a ⟨.ref C,none,.fields vs,osl⟩ C none:=⟨hx,rfl,rfl,trivial⟩;refine set_plain X J e.sa (Oe (s:={ s with toks:=s.toks+1 }) X J e ht λb=>?_);obtain⟨cd,hcd,hd'⟩:=any_some e.hd;refine wpAny_bind (wpAny_pure (wpAny_bind (wpAny_bind (wpAny_loadPart hx (wpAny_bind (Looks.here (s:={ s with toks:=s.toks+1 }) (looks_clsIn X hcd) ?_))))));rw[hd',if_neg ∅];dsimp only;rw[if_neg (by simp[typeHasDict])];have x1:(s.heap.push { cls:=.type "dict",data:=.dict #[] }).get? a=some ⟨.ref C,none,.fields vs,osl⟩:=ZD _ hx;have ns:a≠s.heap.objs.size:=Z8 (ZR hx);refine wpAny_bind (wpAny_alloc' (wpAny_bind (wpAny_update' x1 (wpAny_pure ?_))));have gd:((s.heap.push { cls:=.type "dict",data:=.dict #[] }).update a λo=>{ cls:=o.cls,dict:=some s.heap.objs.size,data:=o.data,slots:=o.slots }).get? s.heap.objs.size=some { cls:=.type "dict",data:=.dict #[] } :=
  (Heap.get?_update_ne _ _ _ _ ns.symm).trans (Heap.get?_push_at rfl rfl)
 have nd:((s.heap.push { cls:=.type "dict",data:=.dict #[] }).update a λo=>{ cls:=o.cls,dict:=some s.heap.objs.size,data:=o.data,slots:=o.slots }).Ns s.heap.objs.size (λ_=>none) :=
  ⟨_,#[],_,gd,rfl,λe he=>absurd he (by simp),λ_=>rfl⟩
 show wpAny _ _ (storeInDict s.heap.objs.size (.str name s.toks) name v) _ _ _;unfold storeInDict newKeyGuard;refine wpAny_bind (wpAny_pure (wpAny_bind (wpAny_nsSet1 (Heap.Ns1.of_empty nd) λh' hn hs=>?_)));obtain⟨oD,esD,TJ,KC,KD,KG⟩:=hn.count (Within.cons name v Within.nil);refine wpAny_bind (wpAny_lookBehind KC (by rw[KD];exact pastItsLine_dict (Z3 KG (by rw[Z2,Za8,sizeLine_eq];lk))) ?_);refine wpAny_pure (h h' s.heap.objs.size _ (ZA _) ((hs.2 a ns).trans (Zak _ x1 rfl)) hn λb o nb q=>?_);exact(hs.2 b (Z8 (ZR q))).trans ((Heap.get?_update_ne _ _ _ _ nb).trans (ZD _ q))
def TK{Q:Unit->Shared->Prop}{d:Addr}{mA:Str->Option Value}{nms:List Str}(X:K.In s.heap)(hx:s.heap.get? a=some ox)(hc:ox.cls=.ref C)(hdx:ox.dict=some d){vs:Array Value}(hdt:ox.data=.fields vs)(hn:s.heap.Ns1 d mA)(e:uX K C)(ht:takerIn K C name=some none)
  (hw:Within mA nms) (hsz:nms.length+1<=sizeLine) (h:∀h' tk,Heap.SameBut d s.heap h'->h'.Ns1 d (λy=>if y=name then some v else mA y)->Q () { s with heap:=h',toks:=tk }) :
  wpAny (model prog w) A (setAttr (.ref a) name v) Q E s:=by
 obtain⟨oc,od,KA,osl⟩:=ox;dsimp only at hc hdx hdt;subst hc hdx hdt;obtain⟨odd,es,ep,e1,_⟩:=id hn;have J:InstAt s.heap a ⟨.ref C,some d,.fields vs,osl⟩ C (some odd):=⟨hx,rfl,rfl,e1⟩;refine set_plain X J e.sa (Oe (s:={ s with toks:=s.toks+1 }) X J e ht λb=>?_);obtain⟨cd,hcd,hd'⟩:=any_some e.hd;refine wpAny_bind (wpAny_pure (wpAny_bind (wpAny_bind (wpAny_loadPart hx (wpAny_bind (Looks.here (s:={ s with toks:=s.toks+1 }) (looks_clsIn X hcd) ?_))))));rw[hd',if_neg ∅];refine wpAny_pure ?_;show wpAny _ _ (storeInDict d (.str name s.toks) name v) _ _ _;unfold storeInDict newKeyGuard;refine wpAny_bind (wpAny_pure (wpAny_bind (wpAny_nsSet1 (s:={ s with toks:=s.toks+1 }) hn λh' hn2 hs2=>?_)));obtain⟨oD,esD,TJ,KC,KD,KG⟩:=hn2.count (Within.cons name v hw);refine wpAny_bind (wpAny_lookBehind KC (by rw[KD];exact pastItsLine_dict (Z3 KG (by rw[Z2];lk))) ?_);exact wpAny_pure (h h' _ hs2 hn2)
end
abbrev Og(K:Frag)(ta tv:TE)(f:Str):TS:=λD σ H=>tv σ H λy H1=>ta σ H1 λx H2=>∃a C tr,x=.ref a/\uX K C/\takerIn K C f=some none /\
 ((H2 a=some (XO a C none tr)/\∀ d,H2 d=none->d≠a->D.nx σ (upd (upd H2 a (XO a C (some d) tr)) d (.xd [(f,y)]))) \/
   ∃d fs,H2 a=some (XO a C (some d) tr)/\H2 d=some (.xd fs)/\fs.length<=10/\D.nx σ (upd H2 d (.xd ((f,y) :: fs))))
section
variable {X:Cx}{pins:List (Addr×Obj)}{σ:St}{H:Hp}{s:Shared}{a C:Addr}{tr:Option Addr}{f:Str}{y:V}{u:Value}
def Oh{fs:List (Str×V)}{mA:Str->Option Value}(r:∀g,mX (fs.lookup g) (mA g))(ry:RelV y u):∀g,mX (((f,y) :: fs).lookup g) (if g=f then some u else mA g):=λg=>by
 rw[Zaw];by_cases e:g=f;subst e;rw[if_pos rfl,beq_self_eq_true];exact ry;rw[if_neg e,show(g == f)=false from by simpa using e];exact r g
def Inv.DL{A:Around}{E:Value->Shared->Prop}{Q:Unit->Shared->Prop}(I:Inv X pins σ H s)(ea:H a=some (XO a C none tr))(e:uX X.K C)(ht:takerIn X.K C f=some none)(ry:RelV y u)
  (h:∀s' d,H d=none->d≠a->Inv X pins σ (upd (upd H a (XO a C (some d) tr)) d (.xd [(f,y)])) s'->Q () s'):wpAny (model X.prog X.w) A (setAttr (.ref a) f u) Q E s:=by
 obtain⟨ox,vs,hx,hc,hdx,hdt,h1⟩:=XO.of I.hok ea;refine TH I.oH hx hc hdx hdt e ht λh' d tk hd g1 g2 kp=>?_;have Hd:H d=none:=I.hok.fresh hd;have da:d≠a:=λz=>by rw[z,ea]at Hd;cases Hd
 refine h _ d Hd da ?_;have Hb:∀b o,b≠a->H b=some o->upd (upd H a (XO a C (some d) tr)) d (.xd [(f,y)]) b=some o:=λb o n q=>by rw[dO (λz=>by rw[z,Hd]at q;cases q),dO n];exact q
 have sC:∀b o,H b=some o->(∀φ,o≠.ext φ)->b≠a:=λb o q n z=>by rw[z,ea]at q;cases q;exact n _ rfl
 have low:∀b o,s.heap.get? b=some o->b≠d:=λb o q=>Z8 (Z5 (ZR q) hd)
 refine I.call (ch:=[]) ⟨λb o q n _ _=>kp b o (λz=>by rw[z,ea]at n;cases n) q,λb o q n _ _=>⟨o.slots,kp b o (λz=>by rw[z,ea]at n;cases n) q⟩,λb o q n _=>?_,λb o q _=>?_,
  λb xs q=>Hb b _ (sC b _ q λφ z=>by cases z) q,λb o v q=>Hb b _ (sC b _ q λφ z=>by cases z) q,λb ps q=>⟨#[],by rw[Za9];exact Hb b _ (sC b _ q λφ z=>by cases z) q⟩⟩ ?_ I.bare λb z=>absurd z (by simp)
 rw[dO (low b o q),dO (λz=>by rw[z,ea]at n;cases n)];exact n;by_cases z:b=a;subst z;exact⟨_,g1⟩;exact⟨o,kp b o z q⟩;intro b o q;by_cases z:b=d;subst z;rw[mK]at q;cases q;exact⟨_,g2,Oh (fs:=[]) (λg=>trivial) ry⟩;rw[dO z]at q;by_cases z2:b=a;subst z2;rw[mK]at q;cases q;exact XO.ok ⟨_,vs,g1,hc,rfl,hdt,h1⟩;rw[dO z2]at q;refine(I.hok b o q).stay (λc w' hc' r=>kp c w' ?_ r) (λc r=>Hb c _ (sC c _ r λφ z=>by cases z) r) λc xs r=>Hb c _ (sC c _ r λφ z=>by cases z) r;rcases hc' with rfl|hc'
 exact z2;exact sC c _ hc' λφ z=>by cases z
def Inv.DM{A:Around}{E:Value->Shared->Prop}{Q:Unit->Shared->Prop}{d:Addr}{fs:List (Str×V)}(I:Inv X pins σ H s)(ea:H a=some (XO a C (some d) tr))(ed:H d=some (.xd fs))(hl:fs.length<=10)(e:uX X.K C)(ht:takerIn X.K C f=some none)(ry:RelV y u)
  (h:∀s',Inv X pins σ (upd H d (.xd ((f,y) :: fs))) s'->Q () s'):wpAny (model X.prog X.w) A (setAttr (.ref a) f u) Q E s:=by
 obtain⟨ox,vs,hx,hc,hdx,hdt,h1⟩:=XO.of I.hok ea;obtain⟨mA,hn,rf⟩:=(show bD X.prog X.w H s.heap d (.xd fs)from I.hok d _ ed);have wi:Within mA (fs.map (·.1)):=λg hg=>by
  cases q:fs.lookup g with
  |some v =>
   have:=PySem.mem_of_lookup q;exact ZL.mpr ⟨(g,v),this,rfl⟩
  |none =>
   have z:=rf g;rw[q]at z;cases m:mA g with
   |none=>exact absurd m hg
   |some w=>rw[m]at z;exact z.elim
 refine TK I.oH hx hc hdx hdt hn e ht wi (by rw[Zx,sizeLine_eq];lk) λh' tk sb hn2=>h _ ?_;have kp:∀b o,b≠d->s.heap.get? b=some o->h'.get? b=some o:=λb o n q=>(sb.2 b n).trans q;have nd:∀b o,H b=some o->(∀ws,o≠.xd ws)->b≠d:=λb o q n z=>by rw[z,ed]at q;cases q;exact n _ rfl
 have Hb:∀b o,H b=some o->(∀ws,o≠.xd ws)->upd H d (.xd ((f,y) :: fs)) b=some o:=λb o q n=>by rw[dO (nd b o q n)];exact q
 obtain⟨od,es,ep,gd,_⟩:=id hn2
 refine I.call (ch:=[]) ⟨λb o q n _ _=>kp b o (λz=>by rw[z,ed]at n;cases n) q,λb o q n _ _=>⟨o.slots,kp b o (λz=>by rw[z,ed]at n;cases n) q⟩,λb o q n _=>by rw[dO (λz=>by rw[z,ed]at n;cases n)];exact n,λb o q _=>?_,
  λb xs q=>Hb b _ q (λws z=>by cases z),λb o v q=>Hb b _ q (λws z=>by cases z),λb ps q=>⟨#[],by rw[Za9];exact Hb b _ q (λws z=>by cases z)⟩⟩ ?_ I.bare λb z=>absurd z (by simp)
 by_cases z:b=d;subst z;exact⟨_,gd⟩;exact⟨o,kp b o z q⟩;intro b o q;by_cases z:b=d;subst z;rw[mK]at q;cases q;exact⟨_,hn2,Oh rf ry⟩;rw[dO z]at q;refine(I.hok b o q).stay (λc w' hc' r=>kp c w' ?_ r) (λc r=>Hb c _ r λws z=>by cases z) λc xs r=>Hb c _ r λws z=>by cases z
 rcases hc' with rfl|hc'
 exact z;exact nd c _ hc' λws z=>by cases z
variable {o value:Expr}{ta tv:TE}{pos pos':Pos}
def TL(ha:PE X o ta)(hv:PE X value tv)(hs:swapsWith value (some (.Attribute o f pos')) pos.line X.env=pure false):PS X (.Assign [.Attribute o f pos'] value pos) (Og X.K ta tv f):=by
 intro pins s σ H D I h;refine plainObj_wpAny_Assign_Attribute (cf (hv pins s σ H _ I h) λu s1 ⟨y,H1,I1,ry,q⟩=>cf (ha pins s1 σ H1 _ I1 q) λov s2 ⟨x,H2,I2,rx,a,C,tr,ex,e,ht,q2⟩=>?_) hs;subst ex;obtain rfl:ov=Value.ref a:=rx;rcases q2 with⟨ea,q2⟩|⟨d,fs,ea,ed,hl,q2⟩
 exact I2.DL ea e ht ry λs3 d h1 h2 I3=>⟨σ,_,I3,q2 d h1 h2⟩;exact I2.DM ea ed hl e ht ry λs3 I3=>⟨σ,_,I3,q2⟩
end
end L2
namespace L2
open PySem PySem.Spec PyProof.Rows PySem.W
abbrev kS(K:Frag)(C:Addr)(bmB:List Value)(newId:String)(f:Addr):Bool:=match K.lookup C with
 |some ⟨.type "type",_,.cls cd,sl⟩=>(match cd.mro,sl.toList with
  |.ref C' :: bm,[_,_,_,_,some (.builtin n),_]=>C' == C && n == newId && !cd.hasDel && tailIn K bmB bm && nsOkIn K cd.ns && nsIn K cd.ns "__init__" == some (some (.ref f))
  |_,_=>false)
 |_=>false
def TM{K:Frag}{h:Heap}{N:Addr}{mN:Str->Option Value}{n:Str}{v:Value}(X:K.In h)(G:h.Ns N mN)(e:nsIn K N n=some (some v)):mN n=some v:=by
 obtain⟨o,es,ep,ho,hd,_,hf⟩:=G;unfold nsIn at e;split at e
 ·next c d es' n' sl q =>
  have z:=X _ _ q;rw[ho]at z;cases z;cases hd;split at e
  ·next en he =>
   cases e;rw[<- hf];unfold nsFind findBy;rw[<- Array.find?_toList,he];rfl
  ·split at e<;>cases e
 ·cases e
def Oi{K:Frag}{h:Heap}{C f:Addr}{bmB:List Value}{newId:String}(X:K.In h)(q:kS K C bmB newId f=true):
  ∃bm N nm qn bs hdct sn sub ab col dd k0 k1 k2 k3 k5 mN,h.get? C=some (excClassObj nm qn C N bs bm hdct sn sub ab col dd k0 k1 k2 k3 k5 newId)/\h.Ns N mN/\mN "__init__" = some (.ref f)/\OwnTail h bmB bm:=by
 unfold kS at q;split at q
 ·next dd cd sl ho =>
  split at q
  ·next C' bm k0 k1 k2 k3 n k5 hm hs =>
   simp only[ZV,beq_iff_eq,Bool.not_eq_true']at q;obtain⟨⟨⟨⟨⟨e1,e2⟩,e3⟩,e4⟩,e5⟩,e6⟩:=q;subst e1 e2;obtain⟨nm,bs,mro,ns,qn,hd,sn,sub,ab,col,del⟩:=cd;obtain⟨l⟩:=sl;dsimp only at hm hs e3 e5 e6;subst hm e3 hs;have G:h.Ns ns (h.nsMap ns):=.of_isNs (isNs_of_in X e5);exact⟨bm,ns,nm,qn,bs,hd,sn,sub,ab,col,dd,k0,k1,k2,k3,k5,_,X _ _ ho,G,TM X G e6,tail_of_in X e4⟩
  ·cases q
 ·cases q
section
variable {prog:Program}{w:World}{A:Around}{E:Value->Shared->Prop}{h:Heap}{g:Array GenState}{d:Drawn}{t:Nat}{os:OsState}
variable {nm q:Str}{C N:Addr}{bs bm bmB:List Value}{hdct:Bool}{sn:List Str}{sub:List Value}{ab:Bool}{col:Option Bool}{dd:Option Addr}{k0 k1 k2 k3 k5:Option Value}{B newId initId:String}
def TN(F:ExcBaseFacts B newId initId bmB)(T:OwnTail h bmB bm){mN:Str->Option Value}{rest:List Value}{f:Addr}{oI:Obj}{Q:PySem.Fin->Shared->Prop}
  (hC:h.get? C=some (excClassObj nm q C N bs bm hdct sn sub ab col dd k0 k1 k2 k3 k5 newId)) (hn:h.Ns N mN) (hi:mN "__init__" = some (.ref f)) (hf:h.get? f=some oI) (hfc:oI.cls=.type "function")
  (hq:∀h' e,Heap.MadeExcOf h h' e (.ref C) rest->wpAny (model prog w) A (call (.ref f) (.ref e :: rest)) (λr s'=>r=.none/\Q (.done (.ret (.ref e))) s') E ⟨h',g,d,t,os⟩) (hrest:rest.length<=sizeLine) :
  wpAny (model prog w) A (Builtin.«type.__call__» ⟨.ref C :: rest,[]⟩) Q E ⟨h,g,d,t,os⟩:=by
 repeat (first|with_reducible refine wpAny_loadPart_at hC ?_|with_reducible refine wpAny_madeBy_exc hC ?_|wp_step)
 refine codeAny_call_builtin_code (Code.quiet_builtin _ F.quiet) (wpAny_check_new_subT F T hC (codeAny_exc_new_subT F T hC ?_ hrest));show wpAny _ _ _ _ _ _;generalize e1:({ cls:=.type "tuple",data:=.seq rest.toArray }:Obj)=o1;generalize e2:({ cls:=.ref C,data:=.fields #[.ref h.objs.size,.none,.none,.none,.bool false,.none] }:Obj)=o2;have f1:o1.isFreed=false:=by rw[<- e1];rfl
 have f2:o2.isFreed=false:=by rw[<- e2];rfl
 have kp:∀b o,h.get? b=some o->((h.push o1).push o2).get? b=some o:=λb o z=>ZD _ (ZD _ z);have gE:((h.push o1).push o2).get? (h.objs.size+1)=some o2:=Heap.get?_push_at (by simp only[ZaP]) f2;have Oj:((h.push o1).push o2).get? (h.objs.size+1)=some { cls:=.ref C,data:=.fields #[.ref h.objs.size,.none,.none,.none,.bool false,.none] }:=by rw[gE,<- e2]
 have cC:(Value.ref C :: bm).contains (.ref C)=true:=by simp
 have Ol:=kp _ _ hC;have hn1:((h.push o1).push o2).Ns N mN:=hn.keeps kp;have T1:=T.keeps kp;unfold isInstance
 repeat (first|with_reducible refine wpAny_loadPart_at Oj ?_|(with_reducible refine wpAny_isSubtype_exc Ol ?_;rw[cC])|wp_step)
 show wpAny _ _ (typeLookup (.ref C) _) _ _ _;refine wpAny_typeLookup_tail Ol hn1 T1 F.mroIs F.init.lookup ?_;rw[hi];refine wpAny_holding (wpAny_bind ?_);unfold bindSpecial;refine wpAny_bind (wpAny_typeOf (T:="function") ⟨_,kp _ _ hf,hfc⟩ ?_);rw[if_pos ∅];refine wpAny_pure (wpAny_bind (wpAny_mono (hq _ (h.objs.size+1) ⟨kp,Heap.get?_none_of_le (ZaJ _),h.objs.size,Oj,Heap.get?_none_of_le (ZA _),?_⟩) (λr s' hr=>?_) λ_ _ x=>x))
 ·rw[ZD o2 (Heap.get?_push_at rfl f1),e1]
 ·obtain⟨rfl,hQ⟩:=hr
  wp_walk
  exact hQ
def TQ(F:ExcBaseFacts B newId initId bmB)(T:OwnTail h bmB bm){mN:Str->Option Value}{rest:List Value}{f:Addr}{oI:Obj}{Q:Value->Shared->Prop}
  (hC:h.get? C=some (excClassObj nm q C N bs bm hdct sn sub ab col dd k0 k1 k2 k3 k5 newId)) (hn:h.Ns N mN) (hi:mN "__init__" = some (.ref f)) (hf:h.get? f=some oI) (hfc:oI.cls=.type "function")
  (hq:∀h' e,Heap.MadeExcOf h h' e (.ref C) rest->wpAny (model prog w) (A.under (.builtin "type.__call__" ⟨.ref C :: rest,[]⟩)) (call (.ref f) (.ref e :: rest)) (λr s'=>r=.none/\Q (.ref e) s') E ⟨h',g,d,t,os⟩) (hrest:rest.length<=sizeLine) :
  wpAny (model prog w) A (call (.ref C) rest) Q E ⟨h,g,d,t,os⟩:=by
 have f1:=tc_lookup;have f2:=tc_bind (.ref C);have hT:(⟨h,g,d,t,os⟩:Shared).TypeIs (.ref C) "type" := ⟨_,hC,rfl⟩;refine wpAny_call (codeAny_of_tree ?_);show wpAny _ _ (callAny (.ref C) _) _ _ _
 repeat (any_goals (first|assumption|with_reducible refine wpAny_loadPart_at hC ?_|wp_step))
 refine⟨rfl,?_⟩;exact codeAny_call_builtin_at (Code.quiet_builtin _ (by decide +kernel)) entry_typeCall (wpAny_check_type_call_sub hC (TN F T hC hn hi hf hfc (λh' e hm=>hq h' e hm) hrest))
end
def Om{M:Model}{A:Around}{E:Value->Shared->Prop}{env:Env}{s:Shared}{x:Sem Value}{K:Frag}{Q:Flow->Shared->Prop}(hh:A.handled=none)
  (h:wpAny M A x (λv s1=>∃e C dx vs sl,v=.ref e/\K.In s1.heap/\s1.heap.get? e=some ⟨.ref C,dx,.fields vs,sl⟩/\vs[1]?=some .none/\mroIn K C (.type "BaseException")=some true/\typeIn K (.ref C)=some (.type "type")/\E (.ref e) s1) E s) :
  wpAny M A (raiseStmt env (some x) none) Q E s:=by
 unfold raiseStmt;refine wpAny_bind (wpAny_mono h (λv s1 h1=>?_) λ_ _ z=>z);obtain⟨e,C,dx,vs,sl,rfl,X,he,h1,hm,ht,hE⟩:=h1;obtain⟨oC,lC,cC⟩:=Z4.mp (show(K.lookup C).map (·.cls)=some (.type "type")from ht);have gC:=X _ _ lC;have LB:=looks_mroIn (M:=M) X hm;obtain⟨hp,g,d,tk,os⟩:=s1
 repeat (first|with_reducible refine wpAny_loadPart_at he ?_|(with_reducible refine wpAny_loadPart_at gC ?_;rw[cC])|with_reducible refine LB.at ?_|with_reducible refine wpAny_field he rfl h1 ?_|wp_step)
 exact wpAny_raiseNew_none hh hE
structure Oo(K:Frag)(mg:Str->Option Value)(x:Str)(C f:Addr)(bmB:List Value)(newId:String):Prop where
 m:mg x=some (.ref C)
 k:kS K C bmB newId f=true
 fn:isFn K (.ref f)=true
 kp:keepIn K (.ref C)=true
abbrev uh(C:Addr)(sp:Sp)(t:TA):TE:=λσ H Q=>t σ H λvs H1=>vs.length<=10/\∀a,H1 a=none->sp (.ref a :: vs) (upd H1 a (XO a C none none)) (λv H2=>v=.non/\Q (.ref a) H2) E0
section
variable {X:Cx}{k:Nat}{f C:Addr}{fd:FuncData}{ps:List Str}{sp:Sp}{x:Str}{p pos:Pos}{e:Expr}{es:List Expr}{t:TA}{B newId initId:String}{bmB:List Value}
def TR{pins:List (Addr×Obj)}{σ:St}{H:Hp}{s:Shared}{Q:VK}{us:List Value}{vs:List V}(FB:ExcBaseFacts B newId initId bmB)(M:Oo X.K X.mg x C f bmB newId)(F:aJ X.prog X.w X.K X.mg X.base b6 k f fd ps sp)(hr:dQ (k+1) X.A)(hb:Binds X.K fd ps [])
  (I:Inv X pins σ H s) (r:Vals vs us) (hl:vs.length<=10) (h:∀a,H a=none->sp (.ref a :: vs) (upd H a (XO a C none none)) (λv H2=>v=.non/\Q (.ref a) H2) E0) :
  wpAny (model X.prog X.w) X.A (call (.ref C) us) (EP X pins σ Q) X.xe s:=by
 obtain⟨bm,NN,nm,qn,bs,hdct,sn,sub,ab,col,dd,k0,k1,k2,k3,k5,mN,hC,hN,hni,T⟩:=Oi I.oH M.k;obtain⟨oI,lI,cI⟩:=Z4.mp (show(X.K.lookup f).map (·.cls)=some (.type "function")from beq_iff_eq.mp M.fn);obtain⟨hp,g,d,tk,os⟩:=s;refine TQ FB T hC hN hni (I.oH _ _ lI) cI (λh' a hm=>?_) (by rw[<- r.length,sizeLine_eq];lk);obtain⟨t0,ht,_,_⟩:=hm.there;have I2:=I.Kz (o:=XO a C none none) hm.keeps hm.new (XO.ok ⟨_,_,ht,rfl,rfl,rfl,rfl⟩);have hq:=h a (I.hok.none_of hm.new);have r2:Vals (V.ref a :: vs) (Value.ref a :: us):=.cons rfl r;have hl2:(Value.ref a :: us).length=ps.length:=by rw[<- r2.length];exact F.len _ _ _ _ hq
 have hbd:=hb _ (Value.ref a :: us) I2.oH (by rw[Zad];exact hl2);rw[Zad]at hbd;refine wpAny_call (codeAny_mono (F.run _ X.stack _ _ ⟨Value.ref a :: us,[]⟩ (Value.ref a :: us) _ _ E0 (hr.make C us []) (I2.vI.make C us []) hbd r2 hq) λr s' hq'=>?_);cases r with
 |error e=>exact hq'.elim
 |ok fl =>
  cases fl with
  |ret u =>
   obtain⟨v,H',I3,rv,ev,q3⟩:=I2.after hq';subst ev;exact⟨rv,V.ref a,H',I3,rfl,q3⟩
  |next=>exact False.elim hq'
  |brk=>exact False.elim hq'
  |cont=>exact False.elim hq'
def TU(FB:ExcBaseFacts B newId initId bmB)(M:Oo X.K X.mg x C f bmB newId)(F:aJ X.prog X.w X.K X.mg X.base b6 k f fd ps sp)(hr:dQ (k+1) X.A)(hg:Gl X x)(hb:Binds X.K fd ps [])
  (ha:PA X (e :: es) t) (hdb:(x == ("__debug__" : Str))=false:=by decide) (he:starEach (e :: es) X.env=(false,eval e X.env) :: starEach es X.env:=by rfl) (hpl:(backTo pos (starEach es X.env)).any (·.1)=false:=by rfl) :
  PE X (.Call (.Name x p) (e :: es) [] pos) (uh C sp t):=by
 intro pins s σ H Q I h;refine wpAny_Call_Name_kw (BF I hg M.m ?_ hdb);refine callWith_K (h₀:=X.base) I.ok.mod.BD M.kp (cf (ha pos pins s σ H _ I h) λus s1 ⟨vs,H1,I1,r,hl,q⟩=>⟨I1.oH,?_⟩) he hpl;exact TR FB M F hr hb I1 r hl q
end
abbrev rH(K:Frag)(te:TE)(E:XK):TS:=λ_ σ H=>te σ H λv H1=>∃a C dx,v=.ref a/\H1 a=some (XO a C dx none)/\mroIn K C (.type "BaseException")=some true/\typeIn K (.ref C)=some (.type "type")/\∀H2,XS a H1 H2->E (.ref a) none H2
section
variable {P:Program}{w:World}{K:Frag}{mg:Str->Option Value}{base:Heap}{N:List Str}{qual:Str}{scope:Scope}{f:Addr}{cd:Value}{A:Around}{outer:List Env}{s0:Shared}{H0:Hp}{E:XK}
def TV{ex:Expr}{te:TE}{pos:Pos}(he:PE (dY (rF P w) P w K mg base N qual scope f cd A outer s0 H0 E) ex te):
  PS (dY (rF P w) P w K mg base N qual scope f cd A outer s0 H0 E) (.Raise (some ex) none pos) (rH K te E):=by
 intro pins s σ H D I h;rw[arm_exec_Raise]
 first
  |refine wpAny_bind (wpAny_standAt (Om (K:=K) (I.ok.hd rfl) (wpAny_bind (wpAny_mono (he pins s σ H _ I h) (λv s3 h3=>wpAny_bind (wpAny_standAt (wpAny_pure ?_))) λ_ _ x=>x))))
  |(simp only[evalOpt,Option.map];refine wpAny_bind (wpAny_standAt (Om (K:=K) (I.ok.hd rfl) (wpAny_bind (wpAny_mono (he pins s σ H _ I h) (λv s3 h3=>wpAny_bind (wpAny_standAt (wpAny_pure ?_))) λ_ _ x=>x)))))
 obtain⟨y,H1,I1,ry,a,C,dx,rfl,ea,hm,ht,q⟩:=h3;obtain rfl:v=Value.ref a:=ry;obtain⟨oe,vs,g1,g2,g3,g4,g5⟩:=XO.of I1.hok ea;obtain⟨c0,d0,N9,TX⟩:=oe;dsimp only at g2 g3 g4;subst g2 g3 g4;exact⟨a,C,d0,vs,TX,rfl,I1.oH,g1,g5,hm,ht,leave I1 ⟨none,ea,λT z=>by cases z⟩ q⟩
end
abbrev KH(K:Frag)(te:TE)(f:Str):TE:=λσ H Q=>te σ H λx H1=>∃a C d tr fs v,x=.ref a/\H1 a=some (XO a C (some d) tr)/\H1 d=some (.xd fs)/\fs.lookup f=some v/\xB K C/\findIn K (.ref C) f=some none/\Q v H1
section
variable {X:Cx}{e:Expr}{te:TE}{f:Str}{pos:Pos}
def TY(he:PE X e te)(hb:attributeBase e f X.env (eval e X.env)=eval e X.env):PE X (.Attribute e f pos) (KH X.K te f):=by intro pins s σ H Q I h;refine RK hb (cf (he pins s σ H _ I h) λu s1 ⟨x,H1,I1,rx,a,C,d,tr,fs,v,ex,ea,ed,l,ei,n,q⟩=>?_);subst ex;obtain rfl:u=Value.ref a:=rx;obtain⟨ox,vs,hx,hc,hdx,hdt,_⟩:=XO.of I1.hok ea;obtain⟨mA,hn,rf⟩:=(show bD X.prog X.w H1 s1.heap d (.xd fs)from I1.hok d _ ed);obtain⟨w',hw,rw'⟩:=mX.some_of (v:=v) (o:=mA f) (by rw[<- l];exact rf f);obtain⟨od,ho,hl⟩:=RH hn;have J:InstAt s1.heap a ox C (some od):=⟨hx,hc,by unfold notCls;rw[hdt],by rw[hdx];exact ho⟩;exact TC I1.oH J ei (findObj_own ei.hd n rfl (by rw[hl,hw])) (handedOut_of (RI rw')) ⟨v,H1,I1.tok _,rw',q⟩
end
abbrev ui(K:Frag)(f1:Str):Sp:=λvs H Q _=>∃a C tr v1,vs=[.ref a,v1]/\H a=some (XO a C none tr)/\uX K C/\takerIn K C f1=some none/\∀d,H d=none->d≠a->Q .non (upd (upd H a (XO a C (some d) tr)) d (.xd [(f1,v1)]))
def T5{K:Frag}{f1:Str}{vs:List V}{H:Hp}{Q:VK}{E:XK}(h:ui K f1 vs H Q E):vs.length=2:=by obtain⟨_,_,_,_,rfl,_⟩:=h;rfl
def T6{K:Frag}{f1 p0 p1:Str}{vs:List V}{H:Hp}{Q:VK}{E:XK}(h:ui K f1 vs H Q E):
  Og K (tu 0) (tu 1) f1 { nx:=λ_ H'=>Q .non H',rt:=Q } (start [p0,p1] vs) H:=by
 obtain⟨a,C,tr,v1,rfl,ea,es,t1,q⟩:=h;exact⟨v1,rfl,.ref a,rfl,a,C,tr,rfl,es,t1,.inl ⟨ea,λd hd da=>q d hd da⟩⟩
def T7{K:Frag}{x qual:Str}{st:Stmt}{ps:List Str}{f:Addr}{oc:Value}{od an:Option Addr}{osl:Array (Option Value)}{kV doc pm cdv ct:Value}
  (hb:∀(kV doc pm:Value) (an:Option Addr) (cdv ct:Value) (us:List Value),us.length=ps.length->bindArgs (fnOf x qual (dv st) (cP st) (au st) .none kV doc pm an cdv ct) ⟨us,[]⟩=pure (ps.zip us))
  (l:K.lookup f=some ⟨oc,od,.func (fnOf x qual (dv st) (cP st) (au st) .none kV doc pm an cdv ct),osl⟩) (c:codeIn K cdv qual=true) (k:keepIn K (.ref f)=true):∃fd,xq K x qual st f fd/\Binds K fd ps [] :=
 ⟨_,Nk l c k,.all (hb kV doc pm an cdv ct)⟩
end L2
namespace L2
open PySem PySem.Spec PyProof.Rows
open Builtin
abbrev P2(k:Nat):Nat:=2 ^ k
end L2
namespace L2
open PySem PySem.Spec PyProof.Rows PySem.W
end L2
namespace L2
open PySem PySem.Spec PyProof.Rows
def KI{M:Model}{A:Around}{E:Value->Shared->Prop}{s:Shared}{K:Zfr}{a C F fI:Addr}{oe:Obj}{bmB:List Value}{newId:String}{Q:Bool->Shared->Prop}(X:K.In s.heap)(he:s.heap.get? a=some oe)(hc:oe.cls=.ref C)
  (hF:kS K F bmB newId fI=true) (hb:bmB.contains (.type "BaseException")=true) (hm:PySem.W.mroIn K C (.ref F)=some true) (hq:Q true s):wpAny M A (excMatches (.ref a) (.ref F)) Q E s:=by
 obtain⟨bm,NN,nm,qn,bs,hdct,sn,sub,ab,col,dd,k0,k1,k2,k3,k5,mN,hC,hN,hni,T⟩:=Oi X hF;have L:=PySem.W.looks_mroIn (M:=M) X hm;obtain⟨h,g,d,t,os⟩:=s;have T8:(Value.ref F :: bm).contains (.type "BaseException")=true:=by rw[Zbk,T.hasType hb,Bool.or_true]
 have f:=tc_notTuple;unfold excMatches
 repeat (first|(with_reducible refine wpAny_loadPart_at he ?_;rw[hc])|with_reducible refine wpAny_loadPart_at hC ?_|(with_reducible refine wpAny_isSubtype_exc hC ?_;rw[T8])|wp_step)
 refine L.at ?_;rw[if_pos rfl]
 wp_walk
 exact hq
section
variable {X:Cx}{K:Zfr}
abbrev rJ(K:Zfr):V->List V->Hp->VK->Prop:=λx vs H Q=>∃(a:Addr) (ys:List V) (ds:List PyData) (y:V) (dy:PyData) (j:Nat),x=.ref a/\vs=[y]/\jM K H a ys/\fD K H ys ds/\Rep K H y dy/\(∀d∈ds,PyData.canLay0 d=true)/\PyData.canLay0 dy=true/\PyData.depth dy<=60 /\
 ds.length<=1000/\(∃d,ds[j]?=some d/\PyData.eqv d dy=true)/\(∀i d,i<j->ds[i]?=some d->PyData.eqv d dy=false)/\Q (.int (j:Int)) H
def Oq(hu:X.A.units+64<cLine):xh X "list.index" (rJ X.K):=by
 intro pins s σ H x xs v us Q I rx rv h;obtain⟨a,ys,ds,y,dy,j,rfl,rfl,hq,hr,hy,c1,c2,c3,hl,hit,hno,q⟩:=h;cases rx;obtain⟨u,rfl,ru⟩:=vals1 rv;obtain⟨its,r,pl,hz⟩:=I.list hq;obtain⟨⟨c,dd,dt,sl⟩,e,hc,n,hdt⟩:=pl.isList;cases(show c=.type "list" from hc);cases(show dt=.seq its.toArray n from hdt);have hlen:its.length=ds.length:=by rw[<- r.length];exact hr.vQ
 obtain⟨d0,hd0,T9⟩:=hit;have hjl:j<ds.length:=(Zz.mp hd0).1;have rd:∀(i:Nat) (w:Value) (d:PyData),its[i]?=some w->ds[i]?=some d->∃as,Reads s.heap w d as:=λi w d h1 h2=>by
  obtain⟨z,hz',rz⟩:=r.Dz h1;obtain⟨d',hd',rp⟩:=hr.get hz';rw[h2]at hd';cases hd';exact rp.reads I rz
 refine call_meets F.slot_list_index ⟨_,e,rfl⟩ F.entry_list_index (F.args_list_index_2 _ _) (PySem.SeqAt.list_indexAt a its.toArray n dd sl u (eD its ds dy) j (by simp;lk) ⋯ ?_ λm hm Ua=>?_) ⟨e,λz hz=>?_,⟨.int _,H,I.tok _,⟨_,rfl⟩,q⟩⟩;unfold eD;refine @decide_eq_true _ (Classical.propDecidable _) ⟨j,d0,?_,hd0,T9⟩;simp[show j<its.length by lk];unfold eD;refine @decide_eq_false _ (Classical.propDecidable _) ?_;rintro⟨i,d,h1,h2,h3⟩;have hm2:m<its.length:=by simpa using hm
 have Ub:its[m]?=some (its.toArray[m]):=by simp[hm2]
 obtain⟨dm,Ot⟩:∃dm,ds[m]?=some dm:=⟨ds[m]'⋯,Zy _⟩;obtain⟨as,ra⟩:=rd i _ d h1 h2;obtain⟨bs,rb⟩:=rd m _ dm Ub Ot;have ed:d=dm:=(Reads.unique ra _ _ rb).1;rw[ed,hno m dm Ua Ot]at h3;cases h3;exact Km hu I r hr ru hy c1 c2 (by first|exact c3|(intro d hd;lk)) z (by simpa using hz)
end
end L2
namespace L2
open PySem PySem.Spec PySem.W PyProof.Rows
structure ze(K:Zfr)(x qual:Str)(st:Stmt)(f:Addr)(fd:FuncData):Prop where
 ex:∃(oc:Value) (od:Option Addr) (dV kV doc pm:Value) (an:Option Addr) (cdv ct:Value) (osl:Array (Option Value)),
  fd=PySem.W.fnOf x qual (dv st) (cP st) (au st) dV kV doc pm an cdv ct/\K.lookup f=some ⟨oc,od,.func fd,osl⟩/\PySem.W.codeIn K cdv qual=true
 kp:PySem.W.keepIn K (.ref f)=true
def ze.Ou{P:Program}{w:World}{K:Zfr}{mg:Str->Option Value}{base:Heap}{x qual:Str}{st:Stmt}{f:Addr}{fd:FuncData}{N ps:List Str}{k:Nat}{sp:Sp}(F:ze K x qual st f fd)(S:aD N ps (au st))(len:∀vs H Q E,sp vs H Q E->vs.length=ps.length)
  (hbody:∀(cdv:Value) (A:Around) (outer:List Env) (s:Shared) (H:Hp) (vs:List V) (Q:VK) (E:XK),dQ k (A.deeper (envOfC qual (au st) s.heap.objs.size f cdv))->sp vs H Q E ->
   ∃t,qu (dY (rF P w) P w K mg base N qual (au st) f cdv A outer s H E) (cP st) t/\t { nx:=λ_ H'=>Q .non H',rt:=Q } (start N vs) H):aJ P w K mg base (rF P w) (k+1) f fd ps sp:=by
 obtain⟨oc,od,dV,kV,doc,pm,an,cdv,ct,osl,rfl,lk,hcd⟩:=F.ex;exact xf lk hcd S len λA outer s H vs Q E hr sU=>hbody cdv A outer s H vs Q E hr sU
structure oU(K:Zfr)(mg:Str->Option Value)(x:Str)(st:Stmt)(ps:List Str)(mC:List V)(f:Addr)(fd:FuncData):Prop where
 F:ze K x x st f fd
 b:Binds K fd ps []
 bd:∃ds,Vals mC ds/\Binds K fd ps ds
 m:mg x=some (.ref f)
abbrev uj(x:Str)(st:Stmt)(ps:List Str)(d m:Nat):Prop :=
 ∀(T:Addr) (kV doc pm:Value) (an:Option Addr) (cdv ct:Value) (us ds:List Value),us.length=m->ds.length=d ->
  ∃k:Option (Array Value)->Sem (List (Str×Value)),bindArgs (PySem.W.fnOf x x (dv st) (cP st) (au st) (.ref T) kV doc pm an cdv ct) ⟨us,[]⟩=seqItems? (.ref T) >>= k/\k (some ds.toArray)=pure (ps.zip (us ++ ds.drop (m+d-ps.length)))
def Ov{K:Zfr}{h:Heap}{mg:Str->Option Value}(X:K.In h)(G:h.Ns mainGlobals mg){x:Str}{st:Stmt}{ps:List Str}{mC:List V}{f T:Addr}{oc Uc:Value}{od an od':Option Addr}{osl KJ:Array (Option Value)}{kV doc pm cdv ct:Value}{its:Array Value}{n d:Nat}
  (hl:d<=ps.length) (hb:uj x st ps d (ps.length-d)) (hb2:uj x st ps d ps.length)
  (a:PySem.W.nsIn K mainGlobals x=some (some (.ref f))) (l:K.lookup f=some ⟨oc,od,.func (PySem.W.fnOf x x (dv st) (cP st) (au st) (.ref T) kV doc pm an cdv ct),osl⟩)
  (lT:K.lookup T=some ⟨Uc,od',.seq its n,KJ⟩) (ei:its.toList.length=d) (hv:Vals mC its.toList)
  (c:PySem.W.codeIn K cdv x=true) (k:PySem.W.keepIn K (.ref f)=true):∃f fd,oU K mg x st ps mC f fd:=by
 have key:∀m (s:Shared) (us:List Value),uj x st ps d m->K.In s.heap->us.length=m->BindsTo s (PySem.W.fnOf x x (dv st) (cP st) (au st) (.ref T) kV doc pm an cdv ct) ⟨us,[]⟩ (ps.zip (us ++ its.toList.drop (m+d-ps.length))):=λm s us h KX hu=>by
  obtain⟨kk,h1,h2⟩:=h T kV doc pm an cdv ct us its.toList hu ei;exact BindsTo.of_defaults rfl (KX _ _ lT) rfl h1 (by rw[Array.toArray_toList]at h2;exact h2)
 refine⟨f,_,⟨⟨oc,od,.ref T,kV,doc,pm,an,cdv,ct,osl,rfl,l,c⟩,k⟩,λs us KX hu=>?_,⟨its.toList,hv,λs us KX hu=>?_⟩,PySem.W.mg_of X G a⟩;rw[Zad]at hu ⊢
 have:=key ps.length s us hb2 KX hu;rw[show ps.length+d-ps.length=its.toList.length by lk,List.drop_length,Zad]at this;exact this
 rw[ZH]at hu
 have:=key (ps.length-d) s us hb KX ⋯;rw[show ps.length-d+d-ps.length=0 by lk,ZbA]at this;exact this
end L2
namespace L2
open PySem PySem.Spec PyProof.Rows
abbrev rK(sp:Sp)(mC:List V)(W:St->Addr->Hp->Prop)(t:TA):TE:=λσ H Q=>t σ H λvs H1=>sp (vs ++ mC) H1 Q λu _ H2=>∃a,u=.ref a/\W σ a H2
section
variable {X:Cx}{k:Nat}{f:Addr}{fd:FuncData}{ps:List Str}{sp:Sp}{x:Str}{p pos:Pos}{e:Expr}{es:List Expr}{t:TA}{pins:List (Addr×Obj)}{W:St->Addr->Hp->Prop}{mC:List V}
def Ud(F:aJ X.prog X.w X.K X.mg X.base (rF X.prog X.w) k f fd ps sp)(hr:dQ k X.A)(hg:Gl X x)(hm:X.mg x=some (.ref f))(hk:PySem.W.keepIn X.K (.ref f)=true)(hb:∃ds,Vals mC ds/\Binds X.K fd ps ds)
  (ha:PA (X.tr pins W) (e :: es) t) (hdb:(x == ("__debug__" : Str))=false:=by decide) (he:starEach (e :: es) X.env=(false,eval e X.env) :: starEach es X.env:=by rfl) (hpl:(backTo pos (starEach es X.env)).any (·.1)=false:=by rfl) :
  PE (X.tr pins W) (.Call (.Name x p) (e :: es) [] pos) (rK sp mC W t):=by
 obtain⟨ds,hd,hb⟩:=hb;intro kK s σ H Q I h;refine wpAny_Call_Name_kw (BF I hg hm ?_ hdb);refine PySem.W.callWith_K (h₀:=X.base) I.ok.mod.BD hk (cf (ha pos kK s σ H _ I h) λus s1 ⟨vs,H1,I1,r,q⟩=>⟨I1.oH,?_⟩) he hpl;have r2:=r.append hd;have hl:(us ++ ds).length=ps.length:=by rw[<- r2.length];exact F.len _ _ _ _ q
 have hbd:=hb s1 us I1.oH hl;refine wpAny_call (codeAny_mono (F.run X.A X.stack s1 H1 ⟨us,[]⟩ (us ++ ds) (vs ++ mC) Q _ hr I1.vI hbd r2 q) λr s' hq=>?_);cases r with
 |error e =>
  obtain⟨a,C,dx,H',rfl,os,bare,un,hok,x,hw⟩:=hq;refine⟨σ,H',a,C,dx,rfl,(I1.rg os un hok bare λb z=>absurd z (by simp)).lX,x,λH2 y=>?_⟩;obtain⟨a',ea,w⟩:=hw H2 y;cases ea;exact w
 |ok fl =>
  cases fl with
  |ret u=>exact I1.after hq
  |next=>exact False.elim hq
  |brk=>exact False.elim hq
  |cont=>exact False.elim hq
end
section
variable {X:Cx}{a b:Expr}{rest:List Expr}{pos:Pos}{ta tb:TE}
def Ue{M:Model}{A:Around}{E:Value->Shared->Prop}{s:Shared}{Q:Bool->Shared->Prop}(h:Q false s):wpAny M A (truthy .none) Q E s:=λ_ _ _=>h
abbrev DN(ta tb:TE):TE:=λσ H Q=>ta σ H λx H1=>(x=.non/\tb σ H1 Q)\/∃k:Int,x=.int k/\if k=0 then tb σ H1 Q else Q (.int k) H1
def zf(ha:PE X a ta)(hb:PE X (.BoolOp .Or (b :: rest) pos) tb):PE X (.BoolOp .Or (a :: b :: rest) pos) (DN ta tb):=by
 intro pins s σ H Q I h;refine BoolOp_or (cf (ha pins s σ H _ I h) λv s1 ⟨x,H1,I1,r1,q1⟩=>?_);rcases q1 with⟨rfl,q1⟩|⟨k,rfl,q1⟩
 cases r1;refine Ue ?_;exact hb pins s1 σ H1 Q I1 q1;obtain⟨t,rfl⟩:=r1;refine PySem.P.truthy_int ?_;by_cases z:k=0;rw[if_pos z]at q1;rw[show(k != 0)=false by simp[z]];exact hb pins s1 σ H1 Q I1 q1;rw[if_neg z]at q1;rw[show(k != 0)=true by simp[z]];exact⟨.int k,H1,I1,⟨t,rfl⟩,q1⟩
end
section
variable {X:Cx}{K:Zfr}{e:Expr}{te:TE}{f:Str}{pos:Pos}
def Ug(hK:X.K=K)(he:PE X e te)(hb:attributeBase e f X.env (eval e X.env)=eval e X.env):PE X (.Attribute e f pos) (KH K te f):=by subst hK;exact TY he hb
end
section
variable {X:Cx}{i:Nat}{x n:Str}{F fI:Addr}{bmB:List Value}{newId:String}{tb:(St->Addr->Hp->Prop)->TS}{ts:TS}{body suite:List Stmt}{b0:Stmt}{np hpos pos:Pos}
def Uh(hx:X.mg x=some (.ref F))(hF:kS X.K F bmB newId fI=true)(Ui:bmB.contains (.type "BaseException")=true)(hg:Gl X x)(hN:X.N.Nodup)(hi:X.N[i]?=some n)(hk:X.env.scope.names.lookup n=some .local)(hb:∀pins W,qu (X.tr pins W) body (tb W))(Uj:∀a,qu (X.held a) (b0 :: suite) ts)
  (hst:X.stack=X.env :: X.outer:=by rfl) (hf:X.env.frame=some X.env.locals:=by rfl) (hdb:(x == ("__debug__" : Str))=false:=by decide) :
  PS X (.Try body [.ExceptHandler (some (.Name x np)) (some n) (b0 :: suite) hpos] [] [] pos) (DK X.K tb F i ts):=by
 intro pins s σ H D I h;refine wpAny_Try_except (wpAny_mono (hb pins _ [] s σ H D I.tr h) (λf s1 q=>?_) λe s1 q=>?_)
 ·cases f with
  |next=>exact wpAny_pure q.lX
  |brk=>exact q.lX
  |cont=>exact q.lX
  |ret u=>exact q.lX
 ·obtain⟨σ1,H1,a,C,dx,rfl,I1,x1,w1⟩:=q
  refine Inv.noted I1 hst hf I1.ok.frames x1 λh2 H2 xs x2 I2=>?_;obtain⟨C',BR,tr,e2,hm,q2⟩:=w1 H2 xs;obtain⟨oe,vs,he,hc,_⟩:=XO.of I2.hok e2;refine wpAny_handleBy_cons (codeAny_handlers_test (BF (X:=X.held a) I2.held hg hx ?_ hdb)) (by intro z;cases z);refine KI I2.oH he hc hF Ui hm ?_;refine codeAny_handlers_suite_as (Inv.flight I2 x2 λh3 I3=>CG (X:=X.held a) (v:=.ref a) I3.held hN hi (.inl hk) rfl (λs4 I4=>?_) (.inr hk));refine wpAny_mono (Uj a pins s4 _ H2 _ I4 q2) (λf s5 q5=>?_) λ_ _ z=>z.elim;cases f with
  |next=>obtain⟨σ6,H6,I6,q6⟩:=q5;exact Inv.unbind (I6.oS I.ok) hN hi hk λs7 I7=>⟨_,H6,I7,q6⟩
  |brk=>obtain⟨σ6,H6,I6,q6⟩:=q5;exact Inv.unbind (I6.oS I.ok) hN hi hk λs7 I7=>⟨_,H6,I7,q6⟩
  |cont=>obtain⟨σ6,H6,I6,q6⟩:=q5;exact Inv.unbind (I6.oS I.ok) hN hi hk λs7 I7=>⟨_,H6,I7,q6⟩
  |ret u=>obtain⟨v,σ6,H6,I6,r6,q6⟩:=q5;exact Inv.unbind (I6.oS I.ok) hN hi hk λs7 I7=>⟨v,_,H6,I7,r6,q6⟩
end
end L2
namespace af
abbrev KL(n:Nat)(xs:List Int)(k:Nat):Bool :=
 match xs[k]? with
 |some x=>decide (0<=x) && decide (x<(n:Int)) && !((xs.take k).contains x)
 |none=>true
abbrev due(xs:List Int):Bool:=decide (0<xs.length) && (List.range xs.length).all (KL xs.length xs)
abbrev upto(n:Nat):List Int:=(List.range n).map λ(k:Nat)=>(k:Int)
def oh(n:Nat):(upto n).length=n:=by simp[upto]
def lE{n:Nat}{x:Int}:x∈upto n↔0<=x/\x<(n:Int):=by simp only[upto,ZL,Zai];constructor;rintro⟨k,hk,rfl⟩;lk;rintro⟨h1,h2⟩;exact⟨x.toNat,by lk,by lk⟩
def Uk(n:Nat):(upto n).Pairwise (· < ·):=by unfold upto;rw[ZaX];exact(Zbp).imp λh=>by lk
def Ow(n:Nat):(upto n).Nodup:=(Uk n).imp λh=>by lk
def Hg:∀{xs ys:List Int},xs.Nodup->(∀x∈xs,x∈ys)->ys.length<=xs.length->xs.Perm ys
 |[],ys,_,_,h=>by
  have:ys=[]:=List.eq_nil_of_length_eq_zero (by simpa using h);subst this;exact Zbe _
 |x :: xs,ys,hn,hs,hl=>by
  obtain⟨h1,h2⟩:=Zau.mp hn;have hx:x∈ys:=hs x ZK;have hp:=Zbv hx;have hlen:(ys.erase x).length+1=ys.length:=by have:=hp.length_eq;simpa using this.symm
  refine List.Perm.trans (List.Perm.cons x (Hg (ys:=ys.erase x) h2 (λy hy=>?_) ?_)) hp.symm;have hne:y≠x:=λe=>h1 (e ▸ hy);exact(ZaZ hne).mpr (hs y (ZE _ hy));simp at hl;lk
def KN{xs:List Int}(hn:xs.Nodup)(hb:∀x∈xs,0<=x/\x<(xs.length:Int)):xs.Perm (upto xs.length):=Hg hn (λx hx=>lE.mpr (hb x hx)) (by rw[oh];exact ZA _)
end af
namespace af
abbrev app(xs:List Int)(i:Int):Int:=xs.getD i.toNat 0
abbrev bz(xs:List Int)(i:Int):Nat->Int
 |0=>i
 |j+1=>app xs (bz xs i j)
abbrev Tn(n:Nat)(xs:List Int):Prop:=xs.Perm (upto n)
def Tn.length{n:Nat}{xs:List Int}(h:Tn n xs):xs.length=n:=by rw[h.length_eq,oh]
def Tn.nodup{n:Nat}{xs:List Int}(h:Tn n xs):xs.Nodup:=h.nodup_iff.mpr (Ow n)
def Tn.bound{n:Nat}{xs:List Int}(h:Tn n xs){x:Int}(hx:x∈xs):0<=x/\x<(n:Int):=lE.mp (h.subset hx)
def pR{xs:List Int}{i:Int}(h0:0<=i)(h1:i<(xs.length:Int)):xs[i.toNat]?=some (app xs i):=by
 have:i.toNat<xs.length:=by lk
 unfold app;rw[ZG,Zy this];rfl
def Ul{xs:List Int}{i:Int}(h0:0<=i)(h1:i<(xs.length:Int)):app xs i∈xs:=ZF (pR h0 h1)
def Tn.app{n:Nat}{xs:List Int}(h:Tn n xs){i:Int}(h0:0<=i)(h1:i<(n:Int)):0<=app xs i/\app xs i<(n:Int):=h.bound (Ul h0 (by rw[h.length];exact h1))
def Tn.inj{n:Nat}{xs:List Int}(h:Tn n xs){i j:Int}(i0:0<=i)(i1:i<(n:Int))(j0:0<=j)(j1:j<(n:Int))(e:af.app xs i=af.app xs j):i=j:=by have hl:=h.length;have a:=pR i0 (by rw[hl];exact i1);have b:=pR j0 (by rw[hl];exact j1);rw[e]at a;obtain⟨ha,ea⟩:=Zz.mp a;obtain⟨hb,eb⟩:=Zz.mp b;have:=(List.getElem_inj h.nodup).mp (ea.trans eb.symm);lk
def Tn.bz{n:Nat}{xs:List Int}(h:Tn n xs){i:Int}(h0:0<=i)(h1:i<(n:Int)):∀j,0<=bz xs i j/\bz xs i j<(n:Int)
 |0=>⟨h0,h1⟩
 |j+1=>h.app (h.bz h0 h1 j).1 (h.bz h0 h1 j).2
def Tn.back{n:Nat}{xs:List Int}(h:Tn n xs){i:Int}(h0:0<=i)(h1:i<(n:Int)):∀(a d:Nat),af.bz xs i a=af.bz xs i (a+d)->af.bz xs i d=i
 |0,d,e=>by rw[Zbf]at e;exact e.symm
 |a+1,d,e=>by
  have e':af.app xs (af.bz xs i a)=af.app xs (af.bz xs i (a+d)):=by
   have:a+1+d=(a+d)+1:=by lk
   rw[this]at e;exact e
  exact h.back h0 h1 a d (h.inj (h.bz h0 h1 a).1 (h.bz h0 h1 a).2 (h.bz h0 h1 _).1 (h.bz h0 h1 _).2 e')
def BS:∀{xs ys:List Int},xs.Nodup->(∀x∈xs,x∈ys)->xs.length<=ys.length
 |[],_,_,_=>Zaa _
 |x :: xs,ys,hn,hs=>by
  obtain⟨h1,h2⟩:=Zau.mp hn;have hx:x∈ys:=hs x ZK;have hp:=Zbv hx;have hlen:(ys.erase x).length+1=ys.length:=by have:=hp.length_eq;simpa using this.symm
  have:=BS (ys:=ys.erase x) h2 λy hy=>(ZaZ (a:=y) (b:=x) (λe=>h1 (by rw[<- e];exact hy))).mpr (hs y (ZE _ hy));simp only[Z2];lk
abbrev row(xs:List Int)(i:Int)(m:Nat):List Int:=(List.range (m+1)).map (bz xs i)
def Ox(xs:List Int)(i:Int)(m:Nat):row xs i (m+1)=row xs i m ++ [bz xs i (m+1)]:=by unfold row;rw[List.range_succ,ZS];rfl
def uY(xs:List Int)(i:Int)(m:Nat):(row xs i m).length=m+1:=by simp[row]
def Hi{xs:List Int}{i:Int}{m:Nat}{x:Int}:x∈row xs i m↔∃j,j<=m/\bz xs i j=x:=by unfold row;rw[ZL];constructor;rintro⟨j,hj,e⟩;exact⟨j,by have:=Zai.mp hj;lk,e⟩;rintro⟨j,hj,e⟩;exact⟨j,Zai.mpr ⋯,e⟩
abbrev NB(xs:List Int)(i:Int)(m:Nat):Prop:=∀j,1<=j->j<=m->bz xs i j≠i
def Tn.kT{n:Nat}{xs:List Int}(h:Tn n xs){i:Int}(h0:0<=i)(h1:i<(n:Int)){m:Nat}(nb:NB xs i m):m+1<=n:=by
 have hn:(row xs i m).Nodup:=by
  unfold row List.Nodup;rw[ZaX];refine Zbl (R:=λa b=>a<b) ?_ Zbp;intro a b ha hb hab e;have ha':=Zai.mp ha;have hb':=Zai.mp hb;obtain⟨d,rfl⟩:∃d,b=a+d:=⟨b-a,by lk⟩;exact nb d ⋯ ⋯ (h.back h0 h1 a d e)
 have:=BS hn (ys:=upto n) λx hx=>by
  obtain⟨j,_,rfl⟩:=Hi.mp hx;exact lE.mpr (h.bz h0 h1 j)
 rw[uY,oh]at this;exact this
structure iU(xs:List Int)(i:Int)(r:List Int):Prop where
 ex:∃m,r=row xs i m/\NB xs i m/\bz xs i (m+1)=i
def iU.mem{xs:List Int}{i:Int}{r:List Int}(a:iU xs i r):i∈r:=by obtain⟨m,e1,_,_⟩:=a.ex;rw[e1];exact Hi.mpr ⟨0,Zaa _,rfl⟩
def iU.len{n:Nat}{xs:List Int}(h:Tn n xs){i:Int}(h0:0<=i)(h1:i<(n:Int)){r:List Int}(a:iU xs i r):r.length<=n:=by obtain⟨m,e1,nb,_⟩:=a.ex;rw[e1,uY];exact h.kT h0 h1 nb
def iU.bound{n:Nat}{xs:List Int}(h:Tn n xs){i:Int}(h0:0<=i)(h1:i<(n:Int)){r:List Int}(a:iU xs i r):∀x∈r,0<=x/\x<(n:Int):=by obtain⟨m,e1,nb,_⟩:=a.ex;subst e1;intro x hx;obtain⟨j,_,rfl⟩:=Hi.mp hx;exact h.bz h0 h1 j
abbrev out(left r:List Int):List Int:=left.filter λk=>!r.contains k
inductive xC(xs:List Int):List Int->List (List Int)->Prop
 |nil:xC xs [] []
 |cons {i:Int} {left r:List Int} {rs:List (List Int)}:iU xs i r->xC xs (out (i :: left) r) rs->xC xs (i :: left) (r :: rs)
abbrev from'(n k:Nat)(seen:Int->Bool):List Int:=(((List.range n).drop k).map λ(j:Nat)=>(j:Int)).filter λx=>!seen x
def Um(n:Nat)(seen:Int->Bool):from' n n seen=[]:=by unfold from';rw[Zbo (by simp)];rfl
def Uo{n k:Nat}(h:k<n)(seen:Int->Bool):from' n k seen=if seen (k:Int)then from' n (k+1) seen else(k:Int) :: from' n (k+1) seen:=by unfold from';rw[ZaY (by simpa using h),ZT,List.filter_cons];simp only[ZbB];cases hs:seen (k:Int)<;>simp
def Up{n k:Nat}{seen:Int->Bool}{r:List Int}:out (from' n k seen) r=from' n k (λx=>seen x || r.contains x):=by
 unfold out from';rw[List.filter_filter]
 congr 1
 funext x
 show(!r.contains x && !seen x)=!(seen x || r.contains x);cases seen x<;>cases r.contains x<;>rfl
def Uq(n:Nat):from' n 0 (λ_=>false)=upto n:=by unfold from' upto;rw[ZbA];simp
abbrev rL(n:Nat):List Int:=((List.range (n-1)).map λ(k:Nat)=>(1:Int)+k) ++ [0]
def Ur:∀n,n<21->0<n->(rL n).isPerm (upto n)=true:=by decide
def Oy{n:Nat}(h:n<21)(h0:0<n):Tn n (rL n):=List.isPerm_iff.mp (Ur n h h0)
end af
namespace af
def DO{n:Nat}{xs:List Int}(h:xs.length=n):(upto n).map (app xs)=xs:=by apply List.ext_getElem;rw[Zx,oh,h];intro i h1 h2;have e:=pR (xs:=xs) (i:=(i:Int)) ⋯ ⋯;simp only[ZP]at e;rw[Zy h2]at e;rw[ZaQ];unfold upto;simp only[ZaQ,ZbB];exact(ZN e).symm
abbrev inv(xs:List Int):List Int:=(upto xs.length).map λi=>(xs.idxOf i:Int)
def BU(xs:List Int):(inv xs).length=xs.length:=by unfold inv;rw[Zx,oh]
def BV{n i:Nat}(h:i<n):(upto n)[i]?=some (i:Int):=by unfold upto;rw[ZO,Za3 h];rfl
def Hj{xs:List Int}{i:Int}(h0:0<=i)(h1:i<(xs.length:Int)):app (inv xs) i=(xs.idxOf i:Int):=by have e:=pR (xs:=inv xs) h0 (by rw[BU];exact h1);unfold inv at e;rw[ZO,BV ⋯]at e;have:=ZN e;rw[<- inv]at this;rw[<- this,Z0 h0]
def Tn.mem{n:Nat}{xs:List Int}(h:Tn n xs){i:Int}(h0:0<=i)(h1:i<(n:Int)):i∈xs:=h.symm.subset (lE.mpr ⟨h0,h1⟩)
def Tn.idx{n:Nat}{xs:List Int}(h:Tn n xs){i:Int}(h0:0<=i)(h1:i<(n:Int)):xs.idxOf i<n:=by rw[<- h.length];exact Zbg (h.mem h0 h1)
def Tn.cQ{n:Nat}{xs:List Int}(h:Tn n xs){i:Int}(h0:0<=i)(h1:i<(n:Int)):af.app xs (af.app (inv xs) i)=i:=by rw[Hj h0 (by rw[h.length];exact h1)];have hl:=h.idx h0 h1;have e:=pR (xs:=xs) (i:=(xs.idxOf i:Int)) ⋯ (by rw[h.length];lk);rw[ZP,Zy (by rw[h.length];exact hl)]at e;rw[<- ZN e];exact ZbC _
def Tn.mE{n:Nat}{xs:List Int}(h:Tn n xs){i:Int}(h0:0<=i)(h1:i<(n:Int)):0<=af.app (inv xs) i/\af.app (inv xs) i<(n:Int):=by rw[Hj h0 (by rw[h.length];exact h1)];have:=h.idx h0 h1;lk
def Tn.gg{n:Nat}{xs:List Int}(h:Tn n xs){i:Int}(h0:0<=i)(h1:i<(n:Int)):af.app (inv xs) (af.app xs i)=i:=by obtain⟨a0,a1⟩:=h.app h0 h1;obtain⟨b0,b1⟩:=h.mE a0 a1;exact h.inj b0 b1 h0 h1 (h.cQ a0 a1)
def Tn.az{n:Nat}{xs:List Int}(h:Tn n xs):Tn n (inv xs):=by
 have hl:=h.length;unfold Tn;have e:(inv xs).length=n:=by rw[BU,hl]
 have:=KN (xs:=inv xs) ?_ ?_
 rw[e]at this;exact this;unfold List.Nodup;rw[ZaI];intro i j hi hj hij z;have a:=pR (xs:=inv xs) (i:=(i:Int)) ⋯ ⋯;have b:=pR (xs:=inv xs) (i:=(j:Int)) ⋯ ⋯;rw[ZP,Zy hi]at a;rw[ZP,Zy hj]at b;have a:=ZN a;have b:=ZN b;have c:=h.cQ (i:=(i:Int)) ⋯ ⋯;have d:=h.cQ (i:=(j:Int)) ⋯ ⋯;rw[<- a]at c;rw[<- b,<- z]at d;have:=c.symm.trans d;lk;intro x hx;unfold inv at hx;obtain⟨i,hi,rfl⟩:=ZL.mp hx;have:=lE.mp hi;rw[hl]at this;have:=h.idx this.1 this.2;rw[e];lk
def uZ(xs:List Int)(i:Int)(j:Nat):∀d,bz xs (bz xs i j) d=bz xs i (j+d)
 |0=>rfl
 |d+1=>by show app xs (bz xs (bz xs i j) d)=app xs (bz xs i (j+d));rw[uZ xs i j d]
def Oz{xs:List Int}{i:Int}{L:Nat}(h:bz xs i L=i)(a:Nat):bz xs i (a+L)=bz xs i a:=by rw[Nat.add_comm,<- uZ xs i L a,h]
def DP{xs:List Int}{i:Int}{L:Nat}(h:bz xs i L=i):∀(q r:Nat),bz xs i (r+L*q)=bz xs i r
 |0,r=>rfl
 |q+1,r=>by rw[Nat.mul_succ,<- Nat.add_assoc,Oz h];exact DP h q r
def OA{xs:List Int}{i:Int}{L:Nat}(h:bz xs i L=i)(a:Nat):bz xs i (a % L)=bz xs i a:=by have:=DP h (a / L) (a % L);rw[Nat.mod_add_div]at this;exact this.symm
abbrev OB(xs:List Int)(k i v:Int):Prop:=∃m,NB xs i m/\bz xs i (m+1)=i/\v=bz xs i (k % ((m+1:Nat):Int)).toNat
def Tn.zg{n:Nat}{xs:List Int}(h:Tn n xs){i:Int}(h0:0<=i)(h1:i<(n:Int)){m:Nat}(nb:NB xs i m)(bk:af.bz xs i (m+1)=i)(j:Nat)(k:Int):
  OB xs k (af.bz xs i j) (af.bz xs i (((j:Int)+k) % ((m+1:Nat):Int)).toNat):=by
 refine⟨m,λd d1 d2 e=>?_,?_,?_⟩;rw[uZ]at e;exact nb d d1 d2 (h.back h0 h1 j d e.symm);rw[uZ,Oz bk];rw[uZ];rw[<- OA bk (j+(k % ((m+1:Nat):Int)).toNat)]
 congr 1
 have hL:(0:Int)<((m+1:Nat):Int):=by lk
 have k0:=ZaB k (Int.ne_of_gt hL);have e:(((j+(k % ((m+1:Nat):Int)).toNat) % (m+1):Nat):Int)=((j:Int)+k) % ((m+1:Nat):Int):=by
  rw[Int.natCast_emod,Int.natCast_add,Z0 k0,Int.add_emod_emod]
 rw[<- e,ZP]
def xC.all{xs:List Int}:∀{left:List Int} {rs:List (List Int)},xC xs left rs->(∀r∈rs,∃i∈left,iU xs i r)/\∀x∈left,∃r∈rs,x∈r:=by
 intro left rs a
 induction a with
 |nil=>exact⟨λr hr=>(nomatch hr),λx hx=>(nomatch hx)⟩
 |cons h1 _ ih =>
  refine⟨λr hr=>?_,λx hx=>?_⟩
  ·rcases ZY.mp hr with rfl|hr
   ·exact⟨_,ZK,h1⟩
   ·obtain⟨i,hi,r'⟩:=ih.1 r hr
    exact⟨i,(Za6.mp hi).1,r'⟩
  ·rename_i i left r rs _
   by_cases hc:x∈r
   ·exact⟨r,ZK,hc⟩
   ·obtain⟨r',hr',hx'⟩:=ih.2 x (Za6.mpr ⟨hx,by simp[hc]⟩)
    exact⟨r',ZE _ hr',hx'⟩
def Us{n:Nat}{xs:List Int}(h:Tn n xs):xs.map (app (inv xs))=upto n:=by
 have e:((upto n).map (app xs)).map (app (inv xs))=upto n:=by
  rw[Z1]
  conv=>rhs;rw[<- ZaT (upto n)]
  apply Zaj;intro x hx;obtain⟨a,b⟩:=lE.mp hx;exact h.gg a b
 rw[DO h.length]at e;exact e
def Ut{n:Nat}{xs:List Int}(h:Tn n xs):(inv xs).map (app xs)=upto n:=by
 have e:((upto n).map (app (inv xs))).map (app xs)=upto n:=by
  rw[Z1]
  conv=>rhs;rw[<- ZaT (upto n)]
  apply Zaj;intro x hx;obtain⟨a,b⟩:=lE.mp hx;exact h.cQ a b
 rw[DO (h.az).length]at e;exact e
end af
namespace af
inductive jO(xs ys:List Int):Int->Prop
 |zero:jO xs ys 0
 |r {x:Int}:jO xs ys x->jO xs ys (app xs x)
 |u {x:Int}:jO xs ys x->jO xs ys (app ys x)
def jO.bound{n:Nat}{xs ys:List Int}(hx:Tn n xs)(hy:Tn n ys)(h0:0<n){x:Int}(h:jO xs ys x):0<=x/\x<(n:Int):=by
 induction h with
 |zero=>lk
 |r _ ih=>exact hx.app ih.1 ih.2
 |u _ ih=>exact hy.app ih.1 ih.2
def jO.bz{xs ys:List Int}{x:Int}(h:jO xs ys x):∀k,jO xs ys (af.bz xs x k)
 |0=>h
 |k+1=>.r (h.bz k)
abbrev nM(xs:List Int)(m:Nat):List Int:=(xs.set 0 (app xs m)).set m (app xs 0)
def Uu(xs:List Int)(m:Nat):(nM xs m).length=xs.length:=by simp[nM]
def KO{xs:List Int}{m:Nat}{v x:Int}(hm:m<xs.length)(h0:0<=x):app (xs.set m v) x=if x=(m:Int)then v else app xs x:=by unfold app;rw[ZG,ZG];by_cases hx:x=(m:Int);rw[if_pos hx,hx,ZP,ZI hm];rfl;rw[if_neg hx,ZJ ⋯]
def BW{xs:List Int}{m:Nat}(hm:m<xs.length){x:Int}(h0:0<=x):app (nM xs m) x=if x=(m:Int)then app xs 0 else if x=0 then app xs m else app xs x:=by unfold nM;rw[KO (by simpa using hm) h0,KO ⋯ h0];rfl
def zh{n:Nat}{xs:List Int}(h:Tn n xs){m:Nat}(hm:m<n):Tn n (nM xs m):=by
 have hl:=h.length;have e:(nM xs m).length=n:=by rw[Uu,hl]
 have:=KN (xs:=nM xs m) ?_ ?_
 unfold Tn;rw[e]at this;exact this;unfold List.Nodup;rw[ZaI];intro i j hi hj hij z;have a:=pR (xs:=nM xs m) (i:=(i:Int)) ⋯ ⋯;have b:=pR (xs:=nM xs m) (i:=(j:Int)) ⋯ ⋯;rw[ZP,Zy hi]at a;rw[ZP,Zy hj]at b;have a:=ZN a;have b:=ZN b;rw[BW ⋯ ⋯]at a b;rw[a,b]at z;have inj:∀p q:Int,0<=p->p<(n:Int)->0<=q->q<(n:Int)->app xs p=app xs q->p=q:=λp q p0 p1 q0 q1=>h.inj p0 p1 q0 q1;split at z<;>split at z<;>(try split at z)<;>(try split at z)<;>(first|lk|(have:=inj _ _ ⋯ ⋯ ⋯ ⋯ z;lk));intro x hx;obtain⟨i,hi,rfl⟩:=ZaO hx;have a:=pR (xs:=nM xs m) (i:=(i:Int)) ⋯ ⋯;rw[ZP,Zy hi]at a;rw[ZN a,BW ⋯ ⋯,e];split;exact h.app ⋯ ⋯;split;exact h.app ⋯ ⋯;exact h.app ⋯ ⋯
def Tn.vU{n:Nat}{xs:List Int}(h:Tn n xs){i:Int}(h0:0<=i)(h1:i<(n:Int)):∃m,NB xs i m/\af.bz xs i (m+1)=i:=by
 by_cases hb:∃m,m<n/\af.bz xs i (m+1)=i
 -- the least
 have key:∀b:Nat,(∃m,m<b/\af.bz xs i (m+1)=i)->∃m,NB xs i m/\af.bz xs i (m+1)=i:=by
  intro b
  induction b with
  |zero=>rintro⟨m,hm,_⟩;lk
  |succ b ih =>
   rintro⟨m,hm,e⟩;by_cases hc:∃m,m<b/\af.bz xs i (m+1)=i;exact ih hc;refine⟨m,λj j1 j2 z=>hc ⟨j-1,by lk,?_⟩,e⟩
   have:j-1+1=j:=by lk
   rw[this];exact z
 exact key n hb;have nb:NB xs i n:=λj j1 j2 z=>by
  refine hb ⟨j-1,by lk,?_⟩;have:j-1+1=j:=by lk
  rw[this];exact z
 have:=h.kT h0 h1 nb;lk
def Uv{n:Nat}{xs ys:List Int}(hx:Tn n xs)(hy:Tn n ys){m:Nat}(hm:m<n)(nm:¬jO xs ys (m:Int)):jO (nM xs m) ys (m:Int)/\∀x,jO xs ys x->jO (nM xs m) ys x:=by
 have hl:=hx.length;have m0:m≠0:=λz=>nm (by rw[z];exact .zero);obtain⟨M,nb,bk⟩:=hx.vU (i:=(m:Int)) ⋯ ⋯;have Uw:∀j,af.bz xs (m:Int) j≠0:=by
  intro j z;have h':jO xs ys (af.bz xs (af.bz xs (m:Int) j) ((M+1)*j)):=by rw[z];exact jO.zero.bz _
  rw[uZ]at h';have e2:af.bz xs (m:Int) ((M+1)*(j+1))=(m:Int):=by
   have:=DP bk (j+1) 0;rw[Zbf]at this;exact this
  have h3:=h'.bz ((M+1)*(j+1)-(j+(M+1)*j));rw[uZ]at h3;have e3:j+(M+1)*j+((M+1)*(j+1)-(j+(M+1)*j))=if j+(M+1)*j<=(M+1)*(j+1)then(M+1)*(j+1)else j+(M+1)*j:=by split<;>lk
  rw[e3]at h3;by_cases hc:j+(M+1)*j<=(M+1)*(j+1)
  ·rw[if_pos hc,e2]at h3
   exact nm h3
  ·-- round as often as needed
   have h4:=h'.bz ((M+1)*(2*j+2)-(j+(M+1)*j));rw[uZ]at h4;have hbig:j+(M+1)*j<=(M+1)*(2*j+2):=by
    have a1:(M+1)*(2*j+2)=(M+1)*j+((M+1)*j+(M+1)*2):=by rw[<- Nat.mul_add,<- Nat.mul_add];congr 1;lk
    have a2:j<=(M+1)*j:=Nat.le_mul_of_pos_left j ⋯;lk
   have e5:j+(M+1)*j+((M+1)*(2*j+2)-(j+(M+1)*j))=(M+1)*(2*j+2):=by lk
   rw[e5]at h4;have:=DP bk (2*j+2) 0;rw[Zbf]at this;rw[this]at h4;exact nm h4
 have ring:∀j,j<=M->jO (nM xs m) ys (af.bz xs (m:Int) (j+1)):=by
  intro j
  induction j with
  |zero =>
   intro _;have h1:jO (nM xs m) ys (af.app (nM xs m) 0):=.r .zero;rw[BW ⋯ ⋯,if_neg ⋯,if_pos rfl]at h1;exact h1
  |succ j ih =>
   intro hj;have h1:=(ih ⋯).r;have b:=hx.bz (i:=(m:Int)) ⋯ ⋯ (j+1);rw[BW ⋯ b.1,if_neg (nb (j+1) ⋯ ⋯),if_neg (Uw (j+1))]at h1;exact h1
 have OC:jO (nM xs m) ys (m:Int):=by have:=ring M (ZA _);rwa [bk]at this
 refine⟨OC,λx h=>?_⟩;have hpos:0<n:=by lk
 induction h with
 |zero=>exact .zero
 |r hx' ih =>
  rename_i x
  have b:=hx'.bound hx hy hpos;by_cases h0:x=0
  ·have h1:=OC.r
   rw[BW ⋯ ⋯,if_pos rfl]at h1;rw[h0];exact h1
  ·have Ux:x≠(m:Int):=λz=>nm (by rw[<- z];exact hx')
   have h1:=ih.r;rw[BW ⋯ b.1,if_neg Ux,if_neg h0]at h1;exact h1
 |u _ ih=>exact ih.u
abbrev Cl(xs ys F:List Int):Prop:=∀x∈F,app xs x∈F/\app ys x∈F
def Cl.all{xs ys F:List Int}(h:Cl xs ys F)(h0:(0:Int)∈F){x:Int}(r:jO xs ys x):x∈F:=by
 induction r with
 |zero=>exact h0
 |r _ ih=>exact(h _ ih).1
 |u _ ih=>exact(h _ ih).2
structure Fd(xs ys:List Int)(F:List Int):Prop where
 z:(0:Int)∈F
 nd:F.Nodup
 mt:∀x∈F,jO xs ys x
def Fd.len{n:Nat}{xs ys F:List Int}(h:Fd xs ys F)(hx:Tn n xs)(hy:Tn n ys)(h0:0<n):F.length<=n:=by have:=BS h.nd (ys:=upto n) λx hx'=>lE.mpr ((h.mt x hx').bound hx hy h0);rw[oh]at this;exact this
def Fd.one(xs ys:List Int):Fd xs ys [0]:=⟨by simp,by simp,λx hx=>(show x=0 by simpa using hx) ▸ .zero⟩
def round{xs ys F F1 F2:List Int}(d:Fd xs ys F)(d2:Fd xs ys F2)(p1:F <+: F1)(p2:F1 <+: F2)(c1:∀x∈F,app xs x∈F1)(c2:∀x∈F1,app ys x∈F2){t:Nat}(h:Cl xs ys F\/t+1<=F.length):Cl xs ys F2\/t+1+1<=F2.length:=by
 have p:=p1.trans p2;by_cases hc:Cl xs ys F;refine .inl λx hx=>?_;have hF:=hc.all d.z (d2.mt x hx);exact⟨p.subset (hc x hF).1,p.subset (hc x hF).2⟩;have hl:=h.resolve_left hc;by_cases he:F2.length<=F.length;refine absurd ?_ hc;have e2:F2=F:=(p.eq_of_length (by have:=p.length_le;lk)).symm;have e1:F1=F:=by
  have a:=p1.length_le;have b:=p2.length_le;exact(p1.eq_of_length ⋯).symm
 intro x hx;refine⟨?_,?_⟩
 have:=c1 x hx;rwa [e1]at this
 have:=c2 x (by rw[e1];exact hx);rwa [e2]at this
 exact .inr ⋯
abbrev uk(w n:Nat):List Int:=((List.range (w-1)).map λ(k:Nat)=>(1:Int)+k) ++ [0] ++ ((List.range (n-w)).map λ(k:Nat)=>(w:Int)+k)
abbrev vV(w n:Nat):List Int:=[(w:Int)] ++ ((List.range (w-1)).map λ(k:Nat)=>(1:Int)+k) ++ ((List.range (n-(w+1))).map λ(k:Nat)=>((w:Int)+1)+k) ++ [0]
def Uy:∀n,n<21->∀w,w<n+1->0<w->(uk w n).isPerm (upto n)=true:=by decide +kernel
def Uz:∀n,n<21->∀w,w<n->0<w->(vV w n).isPerm (upto n)=true:=by decide +kernel
def UA{w n:Nat}(h:n<21)(h1:w<=n)(h0:0<w):Tn n (uk w n):=List.isPerm_iff.mp (Uy n h w ⋯ h0)
def UB{w n:Nat}(h:n<21)(h1:w<n)(h0:0<w):Tn n (vV w n):=List.isPerm_iff.mp (Uz n h w h1 h0)
def less{L L':List Int}{m:Int}(nd:L'.Nodup)(hs:∀x∈L',x∈L)(hm:m∈L)(hm':m ∉ L'):L'.length<L.length:=by
 have hp:=Zbv hm;have hlen:(L.erase m).length+1=L.length:=by have:=hp.length_eq;simpa using this.symm
 have:=BS (ys:=L.erase m) nd λx hx=>(ZaZ (λe=>hm' (by rw[<- e];exact hx))).mpr (hs x hx);lk
end af
namespace af
abbrev a6(xs ys:List Int):List Int:=xs.map (app ys)
def BX(xs ys:List Int):(a6 xs ys).length=xs.length:=by simp[a6]
def rM{n:Nat}{xs ys:List Int}(hx:xs.length=n)(hy:ys.length=n)(h:∀s:Int,0<=s->s<(n:Int)->app xs s=app ys s):xs=ys:=by rw[<- DO hx,<- DO hy];apply Zaj;intro s hs;obtain⟨h0,h1⟩:=lE.mp hs;exact h s h0 h1
def pE{xs ys:List Int}{s:Int}(h0:0<=s)(h1:s<(xs.length:Int)):app (a6 xs ys) s=app ys (app xs s):=by have e:=pR (xs:=a6 xs ys) h0 (by rw[BX];exact h1);unfold a6 at e;rw[ZO,pR h0 h1]at e;exact(ZN e).symm
def Tn.um{n:Nat}{xs:List Int}(hl:xs.length=n)(hb:∀s:Int,0<=s->s<(n:Int)->0<=af.app xs s/\af.app xs s<(n:Int))(hi:∀s t:Int,0<=s->s<(n:Int)->0<=t->t<(n:Int)->af.app xs s=af.app xs t->s=t):Tn n xs:=by
 have el:∀(i:Nat) (h:i<xs.length),xs[i]=af.app xs (i:Int):=λi h=>by
  have a:=pR (xs:=xs) (i:=(i:Int)) ⋯ ⋯;rw[ZP,Zy h]at a;exact ZN a
 have:=KN (xs:=xs) ?_ ?_
 unfold Tn;rw[hl]at this;exact this;unfold List.Nodup;rw[ZaI];intro i j h1 h2 hij z;rw[el i h1,el j h2]at z;have:=hi i j ⋯ ⋯ ⋯ ⋯ z;lk;intro x hx;obtain⟨i,h,rfl⟩:=ZaO hx;rw[el i h,hl];exact hb i ⋯ ⋯
def Tn.a6{n:Nat}{xs ys:List Int}(hx:Tn n xs)(hy:Tn n ys):Tn n (a6 xs ys):=by have hl:=hx.length;refine Tn.um (by rw[BX];exact hl) (λs h0 h1=>?_) λs t s0 s1 t0 t1 e=>?_;rw[pE h0 ⋯];obtain⟨a,b⟩:=hx.app h0 h1;exact hy.app a b;rw[pE s0 ⋯,pE t0 ⋯]at e;obtain⟨a,b⟩:=hx.app s0 s1;obtain⟨c,d⟩:=hx.app t0 t1;exact hx.inj s0 s1 t0 t1 (hy.inj a b c d e)
def Tn.vW{n:Nat}{xs ys:List Int}(hx:Tn n xs)(hy:Tn n ys){s:Int}(h0:0<=s)(h1:s<(n:Int)):af.app (inv (af.a6 xs ys)) s=af.app (inv xs) (af.app (inv ys) s):=by have hf:=hx.a6 hy;obtain⟨a0,a1⟩:=hy.mE h0 h1;obtain⟨b0,b1⟩:=hx.mE a0 a1;obtain⟨c0,c1⟩:=hf.mE h0 h1;refine hf.inj c0 c1 b0 b1 ?_;rw[hf.cQ h0 h1,pE b0 (by rw[hx.length];exact b1),hx.cQ a0 a1,hy.cQ h0 h1]
abbrev anew(xs p:List Int):List Int:=a6 (a6 (inv p) xs) p
def Tn.anew{n:Nat}{xs p:List Int}(hx:Tn n xs)(hp:Tn n p):Tn n (anew xs p):=(hp.az.a6 hx).a6 hp
def Tn.iG{n:Nat}{xs p:List Int}(hx:Tn n xs)(hp:Tn n p){s:Int}(h0:0<=s)(h1:s<(n:Int)):af.app (af.anew xs p) s=af.app p (af.app xs (af.app (inv p) s)):=by have hl:=hp.az.length;unfold af.anew;rw[pE h0 (by rw[BX,hl];exact h1),pE h0 (by rw[hl];exact h1)]
def Tn.lF{n:Nat}{xs p:List Int}(hx:Tn n xs)(hp:Tn n p){s:Int}(h0:0<=s)(h1:s<(n:Int)):af.app (af.anew xs p) (af.app p s)=af.app p (af.app xs s):=by obtain⟨a,b⟩:=hp.app h0 h1;rw[hx.iG hp a b,hp.gg h0 h1]
def Tn.lY{n:Nat}{xs p q:List Int}(hx:Tn n xs)(hp:Tn n p)(hq:Tn n q):af.anew (af.anew xs p) q=af.anew xs (af.a6 p q):=by have hf:=hp.a6 hq;refine rM (n:=n) ((hx.anew hp).anew hq).length (hx.anew hf).length λs h0 h1=>?_;obtain⟨a0,a1⟩:=hq.mE h0 h1;obtain⟨b0,b1⟩:=hp.mE a0 a1;obtain⟨c0,c1⟩:=hx.app b0 b1;rw[(hx.anew hp).iG hq h0 h1,hx.iG hp a0 a1,hx.iG hf h0 h1,hp.vW hq h0 h1,pE c0 (by rw[hp.length];exact c1)]
def Tn.lZ{n:Nat}{xs p:List Int}(hx:Tn n xs)(hp:Tn n p):af.anew (af.anew xs p) (inv p)=xs:=by
 refine rM (n:=n) ((hx.anew hp).anew hp.az).length hx.length λs h0 h1=>?_;obtain⟨a0,a1⟩:=hp.az.mE h0 h1;have e:af.app (inv (inv p)) s=af.app p s:=by
  obtain⟨b0,b1⟩:=hp.app h0 h1;refine hp.az.inj a0 a1 b0 b1 ?_;rw[hp.az.cQ h0 h1,hp.gg h0 h1]
 obtain⟨b0,b1⟩:=hp.app h0 h1;obtain⟨c0,c1⟩:=hx.app h0 h1;rw[(hx.anew hp).iG hp.az h0 h1,e,hx.lF hp h0 h1,hp.gg c0 c1]
end af
namespace af
abbrev cJ(F:List Int)(x:Int):List Int:=if x∈F then F else F ++ [x]
def xD(F:List Int)(x:Int):F <+: cJ F x:=by unfold cJ;split;exact Zbh _;exact ZbD _ _
def rN{F:List Int}{x y:Int}:y∈cJ F x↔y∈F\/y=x:=by
 unfold cJ;split
 ·next h=>exact⟨.inl,λz=>z.elim id λe=>e ▸ h⟩
 ·rw[Z6,ZU]
def OD{F:List Int}{x:Int}(h:F.Nodup):(cJ F x).Nodup:=by
 unfold cJ;split
 ·exact h
 ·next hx =>
  rw[Zbn];exact⟨h,by simp,λa ha b hb e=>hx (by rw[ZU]at hb;rw[<- hb,<- e];exact ha)⟩
abbrev visit(xs ys F:List Int)(x:Int):List Int:=cJ (cJ F (app xs x)) (app ys x)
abbrev bf(xs ys:List Int)(s:Int):Nat->List Int
 |0=>[s]
 |k+1=>match (bf xs ys s k)[k]? with
  |some x=>visit xs ys (bf xs ys s k) x
  |none=>bf xs ys s k
def UC(xs ys:List Int)(s:Int)(k:Nat):bf xs ys s k <+: bf xs ys s (k+1):=by show _ <+: (match (bf xs ys s k)[k]? with|some x=>visit xs ys (bf xs ys s k) x|none=>bf xs ys s k);split;exact(xD _ _).trans (xD _ _);exact Zbh _
def zi(xs ys:List Int)(s:Int)(k:Nat):∀d,bf xs ys s k <+: bf xs ys s (k+d)
 |0=>Zbh _
 |d+1=>(zi xs ys s k d).trans (UC xs ys s (k+d))
def zj(xs ys:List Int)(s:Int):∀k,(bf xs ys s k).Nodup
 |0=>by show[s].Nodup;simp
 |k+1=>by
  show(match (bf xs ys s k)[k]? with|some x=>visit xs ys (bf xs ys s k) x|none=>bf xs ys s k).Nodup;split;exact OD (OD (zj xs ys s k));exact zj xs ys s k
def Hk{xs ys:List Int}{s:Int}{k:Nat}(h:(bf xs ys s k).length<=k):∀d,bf xs ys s (k+d)=bf xs ys s k
 |0=>rfl
 |d+1=>by
  have e:=Hk h d;show(match (bf xs ys s (k+d))[k+d]? with|some x=>visit xs ys (bf xs ys s (k+d)) x|none=>bf xs ys s (k+d))=_;rw[e,ZaG ⋯]
section
variable {n:Nat}{xs ys:List Int}{s:Int}
def rO(hx:Tn n xs)(hy:Tn n ys)(s0:0<=s)(s1:s<(n:Int)):∀k,∀x∈bf xs ys s k,0<=x/\x<(n:Int)
 |0,x,h=>by rw[ZU.mp (show x∈[s]from h)];exact⟨s0,s1⟩
 |k+1,x,h=>by
  have ih:=rO hx hy s0 s1 k;have h':x∈(match (bf xs ys s k)[k]? with|some y=>visit xs ys (bf xs ys s k) y|none=>bf xs ys s k):=h;split at h'
  ·next y hy' =>
   obtain⟨y0,y1⟩:=ih y (ZF hy');rcases rN.mp h' with h'|rfl
   ·rcases rN.mp h' with h'|rfl
    ·exact ih x h'
    ·exact hx.app y0 y1
   ·exact hy.app y0 y1
  ·exact ih x h'
def DQ(hx:Tn n xs)(hy:Tn n ys)(s0:0<=s)(s1:s<(n:Int))(k:Nat):(bf xs ys s k).length<=n:=by have:=BS (zj xs ys s k) (ys:=upto n) λx h=>lE.mpr (rO hx hy s0 s1 k x h);rw[oh]at this;exact this
def DR{k i:Nat}(hik:i<=k){x:Int}(h:(bf xs ys s k)[i]?=some x):(bf xs ys s i)[i]?=some x:=by obtain⟨d,rfl⟩:∃d,k=i+d:=⟨k-i,by lk⟩;by_cases hl:(bf xs ys s i).length<=i;rw[Hk hl d]at h;exact h;obtain⟨t,e⟩:=zi xs ys s i d;rw[<- e,ZQ ⋯]at h;exact h
def KP(hx:Tn n xs)(hy:Tn n ys)(s0:0<=s)(s1:s<(n:Int)):Cl xs ys (bf xs ys s n):=by
 intro x hm;obtain⟨i,hi,e⟩:=ZaO hm;have hl:=DQ hx hy s0 s1 n;have hi':(bf xs ys s i)[i]?=some x:=DR (k:=n) ⋯ (by rw[Zy hi,e]);have hs:visit xs ys (bf xs ys s i) x <+: bf xs ys s n:=by
  have:=zi xs ys s (i+1) (n-(i+1));rw[show i+1+(n-(i+1))=n by lk]at this;have e2:bf xs ys s (i+1)=visit xs ys (bf xs ys s i) x:=by
   show(match (bf xs ys s i)[i]? with|some x=>visit xs ys (bf xs ys s i) x|none=>bf xs ys s i)=_;rw[hi']
  rw[<- e2];exact this
 refine⟨hs.subset ?_,hs.subset ?_⟩;exact rN.mpr (.inl (rN.mpr (.inr rfl)));exact rN.mpr (.inr rfl)
def DS{zs F:List Int}(hz:Tn n zs)(nd:F.Nodup)(hb:∀x∈F,0<=x/\x<(n:Int))(hc:∀x∈F,app zs x∈F){y:Int}(y0:0<=y)(y1:y<(n:Int))(h:app zs y∈F):y∈F:=by
 have UD:(F.map (app zs)).Nodup:=by
  unfold List.Nodup;rw[ZaX];refine Zbl (λ{a b} ha hb' hab e=>?_) nd;obtain⟨a0,a1⟩:=hb a ha;obtain⟨b0,b1⟩:=hb b hb';exact hab (hz.inj a0 a1 b0 b1 e)
 have pm:(F.map (app zs)).Perm F:=Hg UD (λx hx=>by obtain⟨z,hz',rfl⟩:=ZL.mp hx;exact hc z hz') (by simp);obtain⟨z,BZ,e⟩:=ZL.mp (pm.symm.subset h);obtain⟨z0,z1⟩:=hb z BZ;rw[<- hz.inj z0 z1 y0 y1 e];exact BZ
def OE(hx:Tn n xs)(hy:Tn n ys)(s0:0<=s)(s1:s<(n:Int))(all:∀x:Int,0<=x->x<(n:Int)->jO xs ys x){x:Int}(x0:0<=x)(x1:x<(n:Int)):x∈bf xs ys s n:=by
 have cl:=KP hx hy s0 s1;have nd:=zj xs ys s n;have bd:=rO hx hy s0 s1 n;have hs:s∈bf xs ys s n:=by
  have:=zi xs ys s 0 n;rw[Zbf]at this;exact this.subset (show s∈[s] by simp)
 have hpos:0<n:=by lk
 have zero:∀y,jO xs ys y->y∈bf xs ys s n->(0:Int)∈bf xs ys s n:=by
  intro y hr
  induction hr with
  |zero=>exact id
  |r h ih =>
   intro hm;obtain⟨a,b⟩:=h.bound hx hy hpos;exact ih (DS hx nd bd (λx hx'=>(cl x hx').1) a b hm)
  |u h ih =>
   intro hm;obtain⟨a,b⟩:=h.bound hx hy hpos;exact ih (DS hy nd bd (λx hx'=>(cl x hx').2) a b hm)
 exact cl.all (zero s (all s s0 s1) hs) (all x x0 x1)
def Hl(hx:Tn n xs)(hy:Tn n ys)(s0:0<=s)(s1:s<(n:Int))(all:∀x:Int,0<=x->x<(n:Int)->jO xs ys x):Tn n (bf xs ys s n) :=
 Hg (zj xs ys s n) (λx h=>lE.mpr (rO hx hy s0 s1 n x h)) (by
  have:=BS (Ow n) (ys:=bf xs ys s n) λx h=>by obtain⟨a,b⟩:=lE.mp h;exact OE hx hy s0 s1 all a b
  exact this)
def OG{p F:List Int}(hp:Tn n p)(hb:∀x∈F,0<=x/\x<(n:Int)){x:Int}(x0:0<=x)(x1:x<(n:Int)):cJ (F.map (app p)) (app p x)=(cJ F x).map (app p):=by
 unfold cJ
 have e:app p x∈F.map (app p)↔x∈F:=⟨λh=>by
  obtain⟨y,hy,e⟩:=ZL.mp h;obtain⟨y0,y1⟩:=hb y hy
  rw[<- hp.inj y0 y1 x0 x1 e];exact hy,λh=>ZL.mpr ⟨x,h,rfl⟩⟩
 by_cases h:x∈F;rw[if_pos h,if_pos (e.mpr h)];rw[if_neg h,if_neg λz=>h (e.mp z),ZS];rfl
def DT{p:List Int}(hx:Tn n xs)(hy:Tn n ys)(hp:Tn n p)(s0:0<=s)(s1:s<(n:Int)):∀k,bf (anew xs p) (anew ys p) (app p s) k=(bf xs ys s k).map (app p)
 |0=>rfl
 |k+1=>by
  have ih:=DT hx hy hp s0 s1 k;show(match (bf (anew xs p) (anew ys p) (app p s) k)[k]? with|some x=>visit (anew xs p) (anew ys p) (bf (anew xs p) (anew ys p) (app p s) k) x|none=>bf (anew xs p) (anew ys p) (app p s) k)=(match (bf xs ys s k)[k]? with|some x=>visit xs ys (bf xs ys s k) x|none=>bf xs ys s k).map (app p);rw[ih,ZO];cases h:(bf xs ys s k)[k]? with
  |none=>rfl
  |some x =>
   obtain⟨x0,x1⟩:=rO hx hy s0 s1 k x (ZF h);obtain⟨a0,a1⟩:=hx.app x0 x1;obtain⟨b0,b1⟩:=hy.app x0 x1;show visit (anew xs p) (anew ys p) ((bf xs ys s k).map (app p)) (app p x)=(visit xs ys (bf xs ys s k) x).map (app p);unfold visit;rw[hx.lF hp x0 x1,hy.lF hp x0 x1,OG hp (rO hx hy s0 s1 k) a0 a1,OG hp (λz hz=>?_) b0 b1];rcases rN.mp hz with hz|rfl
   exact rO hx hy s0 s1 k z hz;exact⟨a0,a1⟩
end
abbrev num(zs sq:List Int):List Int:=sq.map λo=>(sq.idxOf (app zs o):Int)
def Tn.inv_inv{n:Nat}{p:List Int}(hp:Tn n p):inv (inv p)=p:=by refine rM (n:=n) hp.az.az.length hp.length λs h0 h1=>?_;obtain⟨a0,a1⟩:=hp.az.mE h0 h1;obtain⟨b0,b1⟩:=hp.app h0 h1;refine hp.az.inj a0 a1 b0 b1 ?_;rw[hp.az.cQ h0 h1,hp.gg h0 h1]
def u3{n:Nat}{zs sq:List Int}(hz:Tn n zs)(hs:Tn n sq):anew zs (inv sq)=num zs sq:=by unfold anew num a6;rw[hs.inv_inv,Z1];apply Zaj;intro o ho;obtain⟨o0,o1⟩:=hs.bound ho;obtain⟨a0,a1⟩:=hz.app o0 o1;exact Hj a0 (by rw[hs.length];exact a1)
def OH{n:Nat}{p:List Int}(hp:Tn n p):∀{sq:List Int},(∀x∈sq,0<=x/\x<(n:Int))->∀{y:Int},0<=y->y<(n:Int)->(sq.map (app p)).idxOf (app p y)=sq.idxOf y
 |[],_,_,_,_=>rfl
 |a :: r,hb,y,y0,y1=>by
  obtain⟨a0,a1⟩:=hb a ZK;rw[ZT,List.idxOf_cons,List.idxOf_cons,OH hp (λx hx=>hb x (ZE _ hx)) y0 y1];by_cases e:a=y;rw[e];simp;have e2:app p a≠app p y:=λz=>e (hp.inj a0 a1 y0 y1 z);rw[show(a == y)=false by simpa using e,show(app p a == app p y)=false by simpa using e2]
def Hm{n:Nat}{zs sq p:List Int}(hz:Tn n zs)(hp:Tn n p)(hb:∀x∈sq,0<=x/\x<(n:Int)):num (anew zs p) (sq.map (app p))=num zs sq:=by unfold num;rw[Z1];apply Zaj;intro o ho;obtain⟨o0,o1⟩:=hb o ho;obtain⟨a0,a1⟩:=hz.app o0 o1;show((sq.map (app p)).idxOf (app (anew zs p) (app p o)):Int)=_;rw[hz.lF hp o0 o1,OH hp hb a0 a1]
end af
namespace af
abbrev pw(xs:List Int)(k i:Int):Int:=if 0<=k then bz xs i k.toNat else bz (inv xs) i (-k).toNat
section
variable {n:Nat}{xs:List Int}{i:Int}
def Tn.oV(h:Tn n xs)(i0:0<=i)(i1:i<(n:Int)):∀(k m:Nat),af.bz (inv xs) (af.bz xs i m) k=if k<=m then af.bz xs i (m-k)else af.bz (inv xs) i (k-m)
 |0,m=>by rw[if_pos (Zaa _),Nat.sub_zero];rfl
 |k+1,m=>by
  show af.app (inv xs) (af.bz (inv xs) (af.bz xs i m) k)=_;rw[h.oV i0 i1 k m];by_cases hk:k<=m;rw[if_pos hk];by_cases hk1:k+1<=m;rw[if_pos hk1];obtain⟨d,hd⟩:∃d,m-k=d+1:=⟨m-k-1,by lk⟩;rw[hd,show m-(k+1)=d by lk];obtain⟨a,b⟩:=h.bz i0 i1 d;exact h.gg a b;rw[if_neg hk1,show m-k=0 by lk,show k+1-m=1 by lk];rfl;rw[if_neg hk,if_neg ⋯,show k+1-m=(k-m)+1 by lk];rfl
def Tn.uo(h:Tn n xs)(i0:0<=i)(i1:i<(n:Int))(k m:Nat):af.bz xs (af.bz (inv xs) i m) k=if k<=m then af.bz (inv xs) i (m-k)else af.bz xs i (k-m):=by have:=h.az.oV i0 i1 k m;rw[h.inv_inv]at this;exact this
def Tn.pw(h:Tn n xs)(i0:0<=i)(i1:i<(n:Int))(k:Int):0<=af.pw xs k i/\af.pw xs k i<(n:Int):=by unfold af.pw;split;exact h.bz i0 i1 _;exact h.az.bz i0 i1 _
def Tn.pw_add(h:Tn n xs)(i0:0<=i)(i1:i<(n:Int))(a b:Int):af.pw xs a (af.pw xs b i)=af.pw xs (a+b) i:=by
 by_cases ha:0<=a<;>by_cases hb:0<=b;unfold af.pw;rw[if_pos ha,if_pos hb,if_pos ⋯,uZ]
 congr 1
 lk;have e1:af.pw xs b i=af.bz (inv xs) i (-b).toNat:=by unfold af.pw;rw[if_neg hb]
 have e2:∀j,af.pw xs a j=af.bz xs j a.toNat:=λj=>by unfold af.pw;rw[if_pos ha]
 rw[e1,e2,h.uo i0 i1];unfold af.pw;split;split;rw[show(-b).toNat-a.toNat=0 by lk,show(a+b).toNat=0 by lk];rfl
 congr 1;lk
 rw[if_pos ⋯];congr 1;lk;have e1:af.pw xs b i=af.bz xs i b.toNat:=by unfold af.pw;rw[if_pos hb]
 have e2:∀j,af.pw xs a j=af.bz (inv xs) j (-a).toNat:=λj=>by unfold af.pw;rw[if_neg ha]
 rw[e1,e2,h.oV i0 i1];unfold af.pw;split;rw[if_pos ⋯];congr 1;lk;rw[if_neg ⋯];congr 1;lk;unfold af.pw;rw[if_neg ha,if_neg hb,if_neg ⋯,uZ]
 congr 1
 lk
def Tn.pw_per(h:Tn n xs)(i0:0<=i)(i1:i<(n:Int)){L:Nat}(hL:af.bz xs i L=i)(q:Int):af.pw xs ((L:Int)*q) i=i:=by
 have pos:∀m:Nat,af.pw xs ((L:Int)*(m:Int)) i=i:=λm=>by
  unfold af.pw;rw[if_pos (Int.mul_nonneg ⋯ ⋯),show((L:Int)*(m:Int)).toNat=0+L*m by rw[<- Int.natCast_mul,ZP];lk,DP hL];rfl
 by_cases hq:0<=q;obtain⟨m,rfl⟩:∃m:Nat,q=(m:Int):=⟨q.toNat,by lk⟩;exact pos m;obtain⟨m,rfl⟩:∃m:Nat,q=-(m:Int):=⟨(-q).toNat,by lk⟩
 have:=h.pw_add i0 i1 ((L:Int) * -(m:Int)) ((L:Int)*(m:Int));rw[pos m]at this;rw[this,Int.mul_neg,Int.add_left_neg];rfl
def Tn.zk(h:Tn n xs)(i0:0<=i)(i1:i<(n:Int)){k v:Int}(o:OB xs k i v):v=af.pw xs k i:=by
 obtain⟨m,_,bk,rfl⟩:=o;have m0:=ZaB k (show((m+1:Nat):Int)≠0 by lk);have e:af.bz xs i (k % ((m+1:Nat):Int)).toNat=af.pw xs (k % ((m+1:Nat):Int)) i:=by unfold af.pw;rw[if_pos m0]
 rw[e];have e2:=h.pw_add i0 i1 (k % ((m+1:Nat):Int)) (((m+1:Nat):Int)*(k / ((m+1:Nat):Int)));rw[h.pw_per i0 i1 bk,Int.emod_add_mul_ediv]at e2;exact e2
end
abbrev cy(xs:List Int)(k:Int):List Int:=(upto xs.length).map (pw xs k)
def DV(xs:List Int)(k:Int):(cy xs k).length=xs.length:=by simp[cy,oh]
def qL{xs:List Int}{k s:Int}(s0:0<=s)(s1:s<(xs.length:Int)):app (cy xs k) s=pw xs k s:=by have e:=pR (xs:=cy xs k) s0 (by rw[DV];exact s1);unfold cy at e;rw[ZO,BV ⋯]at e;have:=ZN e;rw[Z0 s0]at this;exact this.symm
def Tn.cy{n:Nat}{xs:List Int}(h:Tn n xs)(k:Int):Tn n (cy xs k):=by have hl:=h.length;refine Tn.um (by rw[DV];exact hl) (λs s0 s1=>by rw[qL s0 ⋯];exact h.pw s0 s1 k) λs t s0 s1 t0 t1 e=>?_;rw[qL s0 ⋯,qL t0 ⋯]at e;have e2:=congrArg (af.pw xs (-k)) e;rw[h.pw_add s0 s1,h.pw_add t0 t1,Int.add_left_neg]at e2;exact e2
abbrev shr(xs ys:List Int)(k:Int):List Int:=a6 (cy xs (-k)) ys
def Tn.shr{n:Nat}{xs ys:List Int}(hx:Tn n xs)(hy:Tn n ys)(k:Int):Tn n (shr xs ys k):=(hx.cy (-k)).a6 hy
def Tn.mP{n:Nat}{xs ys:List Int}(hx:Tn n xs){k s:Int}(s0:0<=s)(s1:s<(n:Int)):af.app (af.shr xs ys k) s=af.app ys (af.pw xs (-k) s):=by have hl:=hx.length;unfold af.shr;rw[pE s0 (by rw[DV,hl];exact s1),qL s0 (by rw[hl];exact s1)]
def Tn.vX{n:Nat}{xs ys:List Int}(hx:Tn n xs)(hy:Tn n ys)(a b:Int):af.shr xs (af.shr xs ys a) b=af.shr xs ys (a+b):=by refine rM (n:=n) (hx.shr (hx.shr hy a) b).length (hx.shr hy (a+b)).length λs s0 s1=>?_;obtain⟨p0,p1⟩:=hx.pw s0 s1 (-b);rw[hx.mP s0 s1,hx.mP p0 p1,hx.mP s0 s1,hx.pw_add s0 s1,show -a + -b=-(a+b) by lk]
def Tn.uq{n:Nat}{xs ys:List Int}(hx:Tn n xs)(hy:Tn n ys):af.shr xs ys 0=ys:=by refine rM (n:=n) (hx.shr hy 0).length hy.length λs s0 s1=>?_;rw[hx.mP s0 s1];rfl
end af
namespace af
abbrev odd(n:Nat):Bool:=n % 2 == 1
abbrev tb(l:Int->Nat)(p:Int->Int)(a b:Int):Bool:=if l a=l b\/l (p a)=l (p b)then false else(decide (l a<l b)).xor (decide (l (p a)<l (p b)))
end af
namespace af
end af
namespace af
@[reducible]def Sp:=Bool×Int
abbrev gR(s:Sp):Prop:=(s.1=false->1<=s.2/\s.2<=3)/\s.2≠0
abbrev iH(a b:Sp):Int:=if a.1 then a.2+b.2 else(a.2+b.2) % 4
abbrev cx(a b:Sp):List Sp:=if iH a b=0 then[]else[(a.1,iH a b)]
abbrev bY:List Sp->Sp->List Sp
 |[],s=>[s]
 |t :: r,s=>if t.1=s.1 then cx t s ++ r else s :: t :: r
def u5(t:Sp)(r:List Sp)(s:Sp):bY (t :: r) s=if t.1=s.1 then cx t s ++ r else s :: t :: r:=rfl
abbrev j9(w:List Sp):List Sp:=w.foldl bY []
abbrev m9(s:Sp):Sp:=(s.1,if s.1 then -s.2 else 4-s.2)
abbrev qw(w:List Sp):List Sp:=(w.map m9).reverse
abbrev Pl:List Sp->Prop
 |[]=>True
 |a :: r=>gR a/\(∀b,r.head?=some b->a.1≠b.1)/\Pl r
def Pl.pr:∀{l:List Sp},Pl l->∀s∈l,gR s
 |a :: r,h,s,hs=>by
  rcases ZY.mp hs with rfl|hs
  exact h.1;exact Pl.pr h.2.2 s hs
def OI{a b:Sp}(ha:gR a)(e:a.1=b.1):(iH a b=0/\cx a b=[])\/(gR (a.1,iH a b)/\cx a b=[(a.1,iH a b)]):=by unfold cx;by_cases h:iH a b=0;exact .inl ⟨h,by rw[if_pos h]⟩;refine .inr ⟨⟨λhf=>?_,h⟩,by rw[if_neg h]⟩;simp only at hf;unfold iH at h ⊢;simp only[hf,Zah,if_false]at h ⊢;lk
def Pl.push{l:List Sp}{s:Sp}(h:Pl l)(hs:gR s):Pl (bY l s):=by
 cases l with
 |nil=>exact⟨hs,λb h=>(nomatch h),trivial⟩
 |cons t r =>
  rw[u5];split
  ·next e =>
   rcases OI h.1 e with⟨_,ej⟩|⟨hp,ej⟩
   ·rw[ej];exact h.2.2
   ·rw[ej];exact⟨hp,h.2.1,h.2.2⟩
  ·next e =>
   refine⟨hs,λb hb=>?_,h⟩;cases hb;exactλe'=>e e'.symm
def Pl.fold{w:List Sp}:∀{l:List Sp},Pl l->(∀s∈w,gR s)->Pl (w.foldl bY l):=by
 induction w with
 |nil=>exactλh _=>h
 |cons s w ih=>exactλh hw=>ih (h.push (hw s (ZK))) λs' h'=>hw s' (ZE _ h')
def zm{w:List Sp}(hw:∀s∈w,gR s):Pl (j9 w):=Pl.fold (l:=[]) trivial hw
def KQ{l:List Sp}{s:Sp}(h:∀b,l.head?=some b->s.1≠b.1):bY l s=s :: l:=by
 cases l with
 |nil=>rfl
 |cons t r=>rw[u5,if_neg λe=>h t rfl e.symm]
def Pl.oi:∀{l:List Sp},Pl l->j9 l.reverse=l
 |[],_=>rfl
 |a :: r,h=>by
  unfold j9;rw[Zbb,Zaz];show bY (j9 r.reverse) a=_;rw[Pl.oi h.2.2,KQ h.2.1]
def KR(u v:List Sp):j9 (u ++ v)=v.foldl bY (j9 u):=by unfold j9;rw[Zaz]
def DW{s:Sp}(h:gR s):gR (m9 s):=by
 obtain⟨b,k⟩:=s;cases b with
 |true=>exact⟨nofun,λe=>h.2 (by have:-k=0:=e;show k=0;lk)⟩
 |false =>
  obtain⟨h1,h2⟩:=h.1 rfl;simp only at h1 h2;exact⟨λ_=>by show 1<=4-k/\4-k<=3;lk,by show 4-k≠0;lk⟩
def UE{p:List Sp}{s:Sp}(hp:Pl p)(hs:gR s):bY (bY p s) (m9 s)=p:=by
 have e0:cx s (m9 s)=[]:=by
  unfold cx iH m9;cases hb:s.1<;>simp<;>lk
 cases p with
 |nil =>
  show(if s.1=(m9 s).1 then cx s (m9 s) ++ []else _)=_;rw[if_pos (show s.1=(m9 s).1 from rfl),e0];rfl
 |cons t r =>
  by_cases e:t.1=s.1;have e1:bY (t :: r) s=cx t s ++ r:=by rw[u5,if_pos e]
  rw[e1];obtain⟨tb,tk⟩:=t;obtain⟨sb,sk⟩:=s;simp only at e;subst e;have ht:=hp.1;rcases OI (b:=(tb,sk)) hp.1 rfl with⟨h0,ej⟩|⟨Zh,ej⟩
  rw[ej,List.nil_append];have eb:m9 (tb,sk)=(tb,tk):=by
   unfold m9;unfold iH at h0;cases tb with
   |true=>simp only[if_true]at h0 ⊢;congr 1;lk
   |false =>
    have h1:=ht.1 rfl;have h2:=hs.1 rfl;simp only[Zah,if_false]at h0 h1 h2 ⊢
    congr 1;lk
  rw[eb];exact KQ hp.2.1;rw[ej];show(if tb=(m9 (tb,sk)).1 then cx (tb,iH (tb,tk) (tb,sk)) (m9 (tb,sk)) ++ r else _)=_;rw[if_pos (show tb=(m9 (tb,sk)).1 from rfl)];have eb:iH (tb,iH (tb,tk) (tb,sk)) (m9 (tb,sk))=tk:=by
   unfold iH m9;cases tb with
   |true=>simp only[if_true];lk
   |false =>
    have h1:=ht.1 rfl;have h2:=hs.1 rfl;simp only[Zah,if_false]at h1 h2 ⊢;lk
  unfold cx;rw[eb,if_neg ht.2];rfl;have e1:bY (t :: r) s=s :: t :: r:=by rw[u5,if_neg e]
  rw[e1];show(if s.1=(m9 s).1 then cx s (m9 s) ++ (t :: r)else _)=_;rw[if_pos (show s.1=(m9 s).1 from rfl),e0];rfl
def UG{w:List Sp}:∀{p:List Sp},Pl p->(∀s∈w,gR s)->(w ++ qw w).foldl bY p=p:=by
 induction w with
 |nil=>exactλ_ _=>rfl
 |cons s w ih =>
  intro p hp hw;have e:(s :: w) ++ qw (s :: w)=s :: ((w ++ qw w) ++ [m9 s]):=by unfold qw;simp
  rw[e];show((w ++ qw w) ++ [m9 s]).foldl bY (bY p s)=p;have hs:=hw s (ZK);rw[Zaz,ih (hp.push hs) λs' h'=>hw s' (ZE _ h')];exact UE hp hs
def UH{w:List Sp}(hw:∀s∈w,gR s):j9 (w ++ qw w)=[]:=UG (p:=[]) trivial hw
def UI{l:List Sp}{s:Sp}{M B:Nat}(h:∀x∈l,x.2.natAbs<=M)(hs:s.2.natAbs<=B)(hp:gR s)(hl:Pl l):∀x∈bY l s,x.2.natAbs<=M+B:=by
 intro x hx;cases l with
 |nil=>rcases ZU.mp hx with rfl;lk
 |cons t r =>
  rw[u5]at hx;have ht:=h t (ZK);split at hx
  ·next e0 =>
   rcases Z6.mp hx with hx|hx
   ·unfold cx at hx
    split at hx
    ·exact(nomatch hx)
    ·rcases ZU.mp hx with rfl
     show(iH t s).natAbs<=_;unfold iH;split
     ·lk
     ·next hb =>
      have:=hl.1.1 (by simpa using hb);have h2:=hp.1 (by rw[<- e0];simpa using hb);lk
   ·have:=h x (ZE _ hx);lk
  ·rcases ZY.mp hx with rfl|hx
   ·lk
   ·have:=h x hx;lk
def UJ(l:List Sp)(s:Sp):(bY l s).length<=l.length+1:=by
 cases l with
 |nil=>exact ZA _
 |cons t r =>
  rw[u5];split;unfold cx;split<;>simp<;>lk;simp
def UK{w:List Sp}:∀{l:List Sp},(w.foldl bY l).length<=l.length+w.length:=by
 induction w with
 |nil=>exact ZA _
 |cons s w ih =>
  intro l;have:=ih (l:=bY l s);have h2:=UJ l s;rw[Z2];exact Z3 this ⋯
def KS(w:List Sp):(j9 w).length<=w.length:=by have:=UK (w:=w) (l:=[]);simpa[j9]using this
structure T4 where (a b c d:Int)
abbrev T4.one:T4:=⟨1,0,0,1⟩
abbrev T4.qt:T4:=⟨0,-1,1,0⟩
abbrev T4.mul(x y:T4):T4:=⟨x.a*y.a+x.b*y.c,x.a*y.b+x.b*y.d,x.c*y.a+x.d*y.c,x.c*y.b+x.d*y.d⟩
abbrev T4.u6(x:T4):T4:=⟨x.d,-x.b,-x.c,x.a⟩
def T4.ext'{x y:T4}(h1:x.a=y.a)(h2:x.b=y.b)(h3:x.c=y.c)(h4:x.d=y.d):x=y:=by cases x;cases y;simp only at h1 h2 h3 h4;subst h1 h2 h3 h4;rfl
def T4.assoc(x y z:T4):(x.mul y).mul z=x.mul (y.mul z):=by apply T4.ext'<;>simp only[T4.mul,Int.add_mul,Int.mul_add,Int.mul_assoc]<;>lk
def T4.one_mul(x:T4):T4.one.mul x=x:=by apply T4.ext'<;>simp[T4.mul,T4.one]
def T4.mul_one(x:T4):x.mul T4.one=x:=by apply T4.ext'<;>simp[T4.mul,T4.one]
def T4.vY(x y:T4):(x.mul y).u6=y.u6.mul x.u6:=by apply T4.ext'<;>simp only[T4.mul,T4.u6,Int.neg_mul,Int.mul_neg,Int.neg_neg,Int.mul_comm]<;>lk
abbrev qp:Nat->T4
 |0=>T4.one
 |n+1=>T4.qt.mul (qp n)
abbrev oj(s:Sp):T4:=if s.1 then⟨1,s.2,0,1⟩else qp s.2.toNat
abbrev nO(T:T4)(w:List Sp):T4:=w.foldl (λT s=>(oj s).mul T) T
abbrev ck(w:List Sp):T4:=nO T4.one w
def UL(w:List Sp):∀T:T4,nO T w=(ck w).mul T:=by
 induction w with
 |nil=>exactλT=>(T4.one_mul T).symm
 |cons s w ih =>
  intro T;show nO ((oj s).mul T) w=(nO ((oj s).mul T4.one) w).mul T;rw[ih,ih,T4.mul_one,T4.assoc]
def zo(u v:List Sp):ck (u ++ v)=(ck v).mul (ck u):=by show nO T4.one (u ++ v)=_;unfold nO;rw[Zaz];exact UL v _
def DX(u:List Sp)(s:Sp):ck (u ++ [s])=(oj s).mul (ck u):=by show nO T4.one (u ++ [s])=_;unfold nO;rw[Zaz];rfl
def t3{k:Int}(h:1<=k/\k<=3):k=1\/k=2\/k=3:=by lk
def UM{t s:Sp}(ht:gR t)(hs:gR s)(e:t.1=s.1):ck (cx t s)=(oj s).mul (oj t):=by
 obtain⟨tb,tk⟩:=t;obtain⟨sb,sk⟩:=s;simp only at e;subst e;cases tb with
 |true =>
  have e2:(oj (true,sk)).mul (oj (true,tk))=⟨1,tk+sk,0,1⟩:=by apply T4.ext'<;>simp[T4.mul,oj]<;>lk
  rw[e2];unfold cx iH;simp only[if_true];split
  ·next h=>rw[h];rfl
  ·rw[show ck [(true,tk+sk)]=(oj (true,tk+sk)).mul T4.one from rfl,T4.mul_one];rfl
 |false =>
  have h1:=ht.1 rfl;have h2:=hs.1 rfl;simp only at h1 h2;rcases t3 h1 with rfl|rfl|rfl<;>rcases t3 h2 with rfl|rfl|rfl<;>rfl
def UN{l:List Sp}{s:Sp}(hl:Pl l)(hs:gR s):ck (bY l s).reverse=(oj s).mul (ck l.reverse):=by
 cases l with
 |nil=>exact DX [] s
 |cons t r =>
  rw[u5];split
  ·next e =>
   rw[List.reverse_append,zo,Zbb,DX,<- T4.assoc]
   congr 1
   rw[<- UM hl.1 hs e];unfold cx;split<;>rfl
  ·rw[Zbb,DX]
def UO{w:List Sp}:∀{l:List Sp},Pl l->(∀s∈w,gR s)->ck (w.foldl bY l).reverse=nO (ck l.reverse) w:=by
 induction w with
 |nil=>exactλ_ _=>rfl
 |cons s w ih =>
  intro l hl hw;have hs:=hw s (ZK);show ck (w.foldl bY (bY l s)).reverse=nO ((oj s).mul (ck l.reverse)) w;rw[ih (hl.push hs) λs' h'=>hw s' (ZE _ h'),UN hl hs]
def OJ{w:List Sp}(hw:∀s∈w,gR s):ck (j9 w).reverse=ck w:=UO (l:=[]) trivial hw
def zp{s:Sp}(h:gR s):oj (m9 s)=(oj s).u6:=by
 obtain⟨b,k⟩:=s;cases b with
 |true=>apply T4.ext'<;>simp[T4.u6,oj,m9]
 |false =>
  have h1:=h.1 rfl;simp only at h1;rcases t3 h1 with rfl|rfl|rfl<;>rfl
def OL{w:List Sp}(hw:∀s∈w,gR s):ck (qw w)=(ck w).u6:=by
 induction w with
 |nil=>rfl
 |cons s w ih =>
  have e:qw (s :: w)=qw w ++ [m9 s]:=by unfold qw;simp
  have e2:ck (s :: w)=(ck w).mul (oj s):=by
   rw[show s :: w=[s] ++ w from rfl,zo]
   congr 1
   exact(DX [] s).trans (T4.mul_one _)
  rw[e,DX,ih λs' h'=>hw s' (ZE _ h'),zp (hw s (ZK)),e2,T4.vY]
end af
namespace af
abbrev qx:List Int->List Int->Bool
 |[],[]=>false
 |[],_ :: _=>true
 |_ :: _,[]=>false
 |x :: xs,y :: ys=>if x=y then qx xs ys else decide (x<y)
def Ho:∀xs:List Int,qx xs xs=false
 |[]=>rfl
 |x :: xs=>by unfold qx;rw[if_pos rfl];exact Ho xs
def KU:∀{xs ys zs:List Int},qx xs ys=true->qx ys zs=true->qx xs zs=true
 |[],[],_,h,_=>by cases h
 |[],_ :: _,[],_,h=>by cases h
 |[],_ :: _,_ :: _,_,_=>rfl
 |_ :: _,[],_,h,_=>by cases h
 |_ :: _,_ :: _,[],_,h=>by cases h
 |x :: xs,y :: ys,z :: zs,h1,h2=>by
  unfold qx at h1 h2 ⊢;by_cases a:x=y;rw[if_pos a]at h1;by_cases b:y=z;rw[if_pos b]at h2;rw[if_pos (a.trans b)];exact KU h1 h2;rw[if_neg b]at h2;rw[if_neg (λe=>b (a.symm.trans e))];rw[a];exact h2;rw[if_neg a]at h1;have h1:=of_decide_eq_true h1;by_cases b:y=z;rw[<- b,if_neg a];exact decide_eq_true h1;rw[if_neg b]at h2;have h2:=of_decide_eq_true h2;rw[if_neg ⋯];exact decide_eq_true ⋯
def KW:∀{xs ys:List Int},qx xs ys=false->qx ys xs=false->xs=ys
 |[],[],_,_=>rfl
 |[],_ :: _,h,_=>by cases h
 |_ :: _,[],_,h=>by cases h
 |x :: xs,y :: ys,h1,h2=>by
  unfold qx at h1 h2;by_cases a:x=y;subst a;rw[if_pos rfl]at h1 h2;rw[KW h1 h2];rw[if_neg a]at h1;rw[if_neg (Ne.symm a)]at h2;have h1:=of_decide_eq_false h1;have h2:=of_decide_eq_false h2;lk
@[reducible]def aP:=List Int×List Int
abbrev nc(p q:aP):Bool:=if p.1=q.1 then qx p.2 q.2 else qx p.1 q.1
def OM(p:aP):nc p p=false:=by unfold nc;rw[if_pos rfl];exact Ho _
def UP{p q r:aP}(h1:nc p q=true)(h2:nc q r=true):nc p r=true:=by unfold nc at h1 h2 ⊢;by_cases a:p.1=q.1;rw[if_pos a]at h1;by_cases b:q.1=r.1;rw[if_pos b]at h2;rw[if_pos (a.trans b)];exact KU h1 h2;rw[if_neg b]at h2;rw[if_neg (λe=>b (a.symm.trans e)),a];exact h2;rw[if_neg a]at h1;by_cases b:q.1=r.1;rw[<- b,if_neg a];exact h1;rw[if_neg b]at h2;have h:=KU h1 h2;rw[if_neg (λe=>by rw[e,Ho]at h;cases h)];exact h
def UQ{p q:aP}(h1:nc p q=false)(h2:nc q p=false):p=q:=by unfold nc at h1 h2;by_cases a:p.1=q.1;rw[if_pos a]at h1;rw[if_pos a.symm]at h2;exact Prod.ext a (KW h1 h2);rw[if_neg a]at h1;rw[if_neg (Ne.symm a)]at h2;exact absurd (KW h1 h2) a
abbrev ng:List aP->aP
 |[]=>([],[])
 |p :: l=>l.foldl (λb q=>if nc q b then q else b) p
abbrev Lst(l:List aP)(p:aP):Prop:=p∈l/\∀q∈l,nc q p=false
def Lst.unique{l m:List aP}{p q:aP}(a:Lst l p)(b:Lst m q)(h:∀x,x∈l↔x∈m):p=q:=UQ (b.2 p ((h p).mp a.1)) (a.2 q ((h q).mpr b.1))
def Lst.step{l:List aP}{b q:aP}(h:Lst l b):Lst (l ++ [q]) (if nc q b then q else b):=by
 split
 ·next hq =>
  refine⟨Z7 _ (List.mem_singleton_self _),λx hx=>?_⟩;rcases Z6.mp hx with hx|hx
  ·cases UR:nc x q with
   |false=>rfl
   |true=>have:=UP UR hq;rw[h.2 x hx]at this;cases this
  ·rw[ZU.mp hx];exact OM q
 ·next hq =>
  refine⟨ZaL _ h.1,λx hx=>?_⟩;rcases Z6.mp hx with hx|hx
  ·exact h.2 x hx
  ·rw[ZU.mp hx];simpa using hq
def Lst.fold:∀(l pre:List aP) (b:aP),Lst pre b->Lst (pre ++ l) (l.foldl (λb q=>if nc q b then q else b) b)
 |[],pre,b,h=>by rw[Zad];exact h
 |q :: l,pre,b,h=>by
  have:=Lst.fold l (pre ++ [q]) _ (h.step (q:=q));rw[Zba]at this;exact this
def Hq{l:List aP}(h:l≠[]):Lst l (ng l):=by
 cases l with
 |nil=>exact absurd rfl h
 |cons p l=>exact Lst.fold l [p] p ⟨List.mem_singleton_self _,λq hq=>by rw[ZU.mp hq];exact OM p⟩
def US{l m:List aP}(h:∀x,x∈l↔x∈m)(hl:l≠[]):ng l=ng m:=by
 have hm:m≠[]:=λe=>by
  obtain⟨x,hx⟩:=List.exists_mem_of_ne_nil l hl;have:=(h x).mp hx;rw[e]at this;cases this
 exact(Hq hl).unique (Hq hm) h
end af
namespace af
def xE(n:Nat):Tn n (upto n):=Zbe _
def Hr{n:Nat}{s:Int}(s0:0<=s)(s1:s<(n:Int)):app (upto n) s=s:=by unfold app;rw[ZG,BV ⋯,Option.getD_some];lk
section
variable {n:Nat}{a b c g x y:List Int}
def qM(ha:Tn n a)(hb:Tn n b)(hc:Tn n c):a6 (a6 a b) c=a6 a (a6 b c):=by refine rM (n:=n) ((ha.a6 hb).a6 hc).length (ha.a6 (hb.a6 hc)).length λs s0 s1=>?_;obtain⟨p0,p1⟩:=ha.app s0 s1;rw[pE s0 (by rw[(ha.a6 hb).length];exact s1),pE s0 (by rw[ha.length];exact s1),pE s0 (by rw[ha.length];exact s1),pE p0 (by rw[hb.length];exact p1)]
def DY(ha:Tn n a):a6 a (inv a)=upto n:=Us ha
def Hs(ha:Tn n a):a6 (inv a) a=upto n:=Ut ha
def zq(ha:Tn n a):a6 a (upto n)=a:=by refine rM (n:=n) (ha.a6 (xE n)).length ha.length λs s0 s1=>?_;obtain⟨p0,p1⟩:=ha.app s0 s1;rw[pE s0 (by rw[ha.length];exact s1),Hr p0 p1]
def DZ(ha:Tn n a):a6 (upto n) a=a:=by refine rM (n:=n) ((xE n).a6 ha).length ha.length λs s0 s1=>?_;rw[pE s0 (by rw[(xE n).length];exact s1),Hr s0 s1]
def Ht(ha:Tn n a)(hb:Tn n b)(h:a6 a b=upto n):inv a=b:=by
 have e:a6 (inv a) (a6 a b)=b:=by rw[<- qM ha.az ha hb,Hs ha,DZ hb]
 rw[h,zq ha.az]at e;exact e
def xF(ha:Tn n a)(hb:Tn n b):inv (a6 a b)=a6 (inv b) (inv a):=by refine Ht (ha.a6 hb) (hb.az.a6 ha.az) ?_;rw[qM ha hb (hb.az.a6 ha.az),<- qM hb hb.az ha.az,DY hb,DZ ha.az,DY ha]
def OO(ha:Tn n a)(hb:Tn n b):a6 (a6 a b) (inv b)=a:=by rw[qM ha hb hb.az,DY hb,zq ha]
def KY(ha:Tn n a)(hb:Tn n b):a6 (a6 a (inv b)) b=a:=by rw[qM ha hb.az hb,Hs hb,zq ha]
def UT(ha:Tn n a)(hb:Tn n b):a6 (inv a) (a6 a b)=b:=by rw[<- qM ha.az ha hb,Hs ha,DZ hb]
def UU(ha:Tn n a)(hb:Tn n b):a6 a (a6 (inv a) b)=b:=by rw[<- qM ha ha.az hb,DY ha,DZ hb]
def D0(hx:Tn n x)(i j:Int):a6 (cy x i) (cy x j)=cy x (i+j):=by refine rM (n:=n) ((hx.cy i).a6 (hx.cy j)).length (hx.cy (i+j)).length λs s0 s1=>?_;obtain⟨p0,p1⟩:=hx.pw s0 s1 i;have hl:=hx.length;rw[pE s0 (by rw[DV,hl];exact s1),qL s0 (by rw[hl];exact s1),qL p0 (by rw[hl];exact p1),qL s0 (by rw[hl];exact s1),hx.pw_add s0 s1,Int.add_comm j i]
def KZ(hx:Tn n x):cy x 0=upto n:=by refine rM (n:=n) (hx.cy 0).length (xE n).length λs s0 s1=>?_;rw[qL s0 (by rw[hx.length];exact s1),Hr s0 s1];rfl
def D1(hx:Tn n x):cy x 1=x:=by refine rM (n:=n) (hx.cy 1).length hx.length λs s0 s1=>?_;rw[qL s0 (by rw[hx.length];exact s1)];rfl
def K0(hx:Tn n x)(k:Int):inv (cy x k)=cy x (-k):=Ht (hx.cy k) (hx.cy (-k)) (by rw[D0 hx,Int.add_right_neg,KZ hx])
def K1(hx:Tn n x):cy x (-1)=inv x:=by rw[<- K0 hx,D1 hx]
def OQ(hx:Tn n x)(k:Int):cy (inv x) k=cy x (-k):=by refine rM (n:=n) (hx.az.cy k).length (hx.cy (-k)).length λs s0 s1=>?_;rw[qL s0 (by rw[hx.az.length];exact s1),qL s0 (by rw[hx.length];exact s1)];unfold pw;by_cases h:0<=k;rw[if_pos h];by_cases h0:k=0;subst h0;rfl;rw[if_neg ⋯,show -(-k)=k by lk];rw[if_neg h,if_pos ⋯,hx.inv_inv]
def OR(ha:Tn n a)(hb:Tn n b)(hg:Tn n g):a6 (anew a g) (anew b g)=anew (a6 a b) g:=by unfold anew;have hi:=hg.az;rw[qM (hi.a6 ha) hg ((hi.a6 hb).a6 hg),qM hi hb hg,UU hg (hb.a6 hg),qM hi ha (hb.a6 hg),<- qM ha hb hg,<- qM hi (ha.a6 hb) hg]
def UW(hg:Tn n g):anew (upto n) g=upto n:=by unfold anew;rw[zq hg.az,Hs hg]
def OS(ha:Tn n a)(hg:Tn n g):inv (anew a g)=anew (inv a) g:=Ht (ha.anew hg) (ha.az.anew hg) (by rw[OR ha ha.az hg,DY ha,UW hg])
def K2(hx:Tn n x)(hg:Tn n g){i:Int}(i0:0<=i)(i1:i<(n:Int)):∀k,bz (anew x g) (app g i) k=app g (bz x i k)
 |0=>rfl
 |k+1=>by
  obtain⟨p0,p1⟩:=hx.bz i0 i1 k;show app (anew x g) (bz (anew x g) (app g i) k)=app g (app x (bz x i k));rw[K2 hx hg i0 i1 k,hx.lF hg p0 p1]
def UX(hx:Tn n x)(hg:Tn n g){i:Int}(i0:0<=i)(i1:i<(n:Int))(k:Int):pw (anew x g) k (app g i)=app g (pw x k i):=by unfold pw;split;exact K2 hx hg i0 i1 _;rw[OS hx hg];exact K2 hx.az hg i0 i1 _
def UY(hx:Tn n x)(hg:Tn n g)(k:Int):cy (anew x g) k=anew (cy x k) g:=by refine rM (n:=n) ((hx.anew hg).cy k).length ((hx.cy k).anew hg).length λs s0 s1=>?_;obtain⟨p0,p1⟩:=hg.mE s0 s1;rw[qL s0 (by rw[(hx.anew hg).length];exact s1),(hx.cy k).iG hg s0 s1,qL p0 (by rw[hx.length];exact p1),<- UX hx hg p0 p1,hg.cQ s0 s1]
end
abbrev Vf(n:Nat)(p:aP):Prop:=Tn n p.1/\Tn n p.2
abbrev bC(n:Nat)(p q:aP):Prop:=∃g,Tn n g/\q=(anew p.1 g,anew p.2 g)
abbrev Sh(k:Int)(p:aP):aP:=(p.1,shr p.1 p.2 k)
abbrev Qt(p:aP):aP:=(inv p.2,p.1)
section
variable {n:Nat}{p q r:aP}
def Vf.sh(h:Vf n p)(k:Int):Vf n (Sh k p):=⟨h.1,h.1.shr h.2 k⟩
def Vf.qt(h:Vf n p):Vf n (Qt p):=⟨h.2.az,h.1⟩
def bC.refl(h:Vf n p):bC n p p:=⟨upto n,xE n,by
 have e:∀a:List Int,Tn n a->anew a (upto n)=a:=λa ha=>by
  unfold anew;rw[Ht (xE n) (xE n) (zq (xE n)),DZ ha,zq ha]
 rw[e _ h.1,e _ h.2]⟩
def bC.symm(h:Vf n p)(a:bC n p q):bC n q p:=by obtain⟨g,hg,rfl⟩:=a;exact⟨inv g,hg.az,by show p=(anew (anew p.1 g) (inv g),anew (anew p.2 g) (inv g));rw[h.1.lZ hg,h.2.lZ hg]⟩
def bC.trans(h:Vf n p)(a:bC n p q)(b:bC n q r):bC n p r:=by obtain⟨g,hg,rfl⟩:=a;obtain⟨f,hf,rfl⟩:=b;exact⟨a6 g f,hg.a6 hf,by show(anew (anew p.1 g) f,anew (anew p.2 g) f)=_;rw[h.1.lY hg hf,h.2.lY hg hf]⟩
def bC.sh(h:Vf n p)(a:bC n p q)(k:Int):bC n (Sh k p) (Sh k q):=by obtain⟨g,hg,rfl⟩:=a;refine⟨g,hg,?_⟩;show(anew p.1 g,a6 (cy (anew p.1 g) (-k)) (anew p.2 g))=(anew p.1 g,anew (a6 (cy p.1 (-k)) p.2) g);rw[UY h.1 hg,OR (h.1.cy _) h.2 hg]
def bC.qt(h:Vf n p)(a:bC n p q):bC n (Qt p) (Qt q):=by obtain⟨g,hg,rfl⟩:=a;refine⟨g,hg,?_⟩;show(inv (anew p.2 g),anew p.1 g)=(anew (inv p.2) g,anew p.1 g);rw[OS h.2 hg]
def u7(h:Vf n p)(j k:Int):Sh k (Sh j p)=Sh (j+k) p:=by show(p.1,shr p.1 (shr p.1 p.2 j) k)=(p.1,shr p.1 p.2 (j+k));rw[h.1.vX h.2]
def oW(h:Vf n p):Sh 0 p=p:=by show(p.1,shr p.1 p.2 0)=p;rw[h.1.uq h.2]
abbrev Q2(p:aP):aP:=(inv p.1,inv p.2)
def D2(p:aP):Qt (Qt p)=Q2 p:=rfl
def D3(h:Vf n p):Q2 (Q2 p)=p:=by show(inv (inv p.1),inv (inv p.2))=p;rw[h.1.inv_inv,h.2.inv_inv]
def Vf.q2(h:Vf n p):Vf n (Q2 p):=⟨h.1.az,h.2.az⟩
def bC.q2(h:Vf n p)(a:bC n p q):bC n (Q2 p) (Q2 q):=bC.qt h.qt (bC.qt h a)
def xG(h:Vf n p)(k:Int):bC n (Q2 (Sh k p)) (Sh k (Q2 p)):=by
 have hx:=h.1;have hy:=h.2;refine⟨cy p.1 (-k),hx.cy _,?_⟩;show(inv p.1,a6 (cy (inv p.1) (-k)) (inv p.2))=(anew (inv p.1) (cy p.1 (-k)),anew (inv (a6 (cy p.1 (-k)) p.2)) (cy p.1 (-k)));have e1:anew (inv p.1) (cy p.1 (-k))=inv p.1:=by
  unfold anew;rw[K0 hx,<- K1 hx,D0 hx,D0 hx]
  congr 1;lk
 have e2:anew (inv (a6 (cy p.1 (-k)) p.2)) (cy p.1 (-k))=a6 (cy (inv p.1) (-k)) (inv p.2):=by
  unfold anew;rw[xF (hx.cy _) hy,OQ hx,K0 hx,qM (hx.cy _) (hy.az.a6 (hx.cy _)) (hx.cy _),qM hy.az (hx.cy _) (hx.cy _),D0 hx,show - -k + -k=0 by lk,KZ hx,zq hy.az]
 rw[e1,e2]
def D4(h:Vf n p):bC n (Qt (Sh 1 (Qt p))) (Sh (-1) (Qt (Sh (-1) p))):=by
 have hx:=h.1;have hy:=h.2;have l:Qt (Sh 1 (Qt p))=(a6 (inv p.1) (inv p.2),inv p.2):=by
  show(inv (a6 (cy (inv p.2) (-1)) p.1),inv p.2)=_;rw[OQ hy,show -(-1:Int)=1 by lk,D1 hy,xF hy hx]
 have r:Sh (-1) (Qt (Sh (-1) p))=(a6 (inv p.2) (inv p.1),inv p.2):=by
  show(inv (a6 (cy p.1 (-(-1))) p.2),a6 (cy (inv (a6 (cy p.1 (-(-1))) p.2)) (-(-1))) p.1)=_;have hf:=hx.a6 hy;rw[show -(-1:Int)=1 by lk,D1 hx,D1 hf.az,xF hx hy,KY hy.az hx]
 refine⟨p.2,hy,?_⟩;rw[l,r];show(a6 (inv p.2) (inv p.1),inv p.2)=(a6 (a6 (inv p.2) (a6 (inv p.1) (inv p.2))) p.2,a6 (a6 (inv p.2) (inv p.2)) p.2);rw[<- qM hy.az hx.az hy.az,KY (hy.az.a6 hx.az) hy,KY hy.az hy]
def zt(h:Vf n p):bC n (Qt (Sh (-1) (Qt p))) (Q2 (Sh 1 (Qt (Sh 1 p)))):=by
 have hx:=h.1;have hy:=h.2;have hu:=hx.az.a6 hy;have l:Qt (Sh (-1) (Qt p))=(a6 (inv p.1) p.2,inv p.2):=by
  show(inv (a6 (cy (inv p.2) (-(-1))) p.1),inv p.2)=_;rw[show -(-1:Int)=1 by lk,D1 hy.az,xF hy.az hx,hy.inv_inv]
 have r:Q2 (Sh 1 (Qt (Sh 1 p)))=(a6 (inv p.1) p.2,a6 (inv p.1) (a6 (inv p.2) p.1)):=by
  show(inv (inv (a6 (cy p.1 (-1)) p.2)),inv (a6 (cy (inv (a6 (cy p.1 (-1)) p.2)) (-1)) p.1))=_;rw[K1 hx,K1 hu.az,hu.inv_inv,xF hu hx,xF hx.az hy,hx.inv_inv]
 refine⟨a6 (inv p.2) p.1,hy.az.a6 hx,?_⟩;rw[l,r];show(a6 (inv p.1) p.2,a6 (inv p.1) (a6 (inv p.2) p.1))=(a6 (a6 (inv (a6 (inv p.2) p.1)) (a6 (inv p.1) p.2)) (a6 (inv p.2) p.1),a6 (a6 (inv (a6 (inv p.2) p.1)) (inv p.2)) (a6 (inv p.2) p.1));have eg:inv (a6 (inv p.2) p.1)=a6 (inv p.1) p.2:=by rw[xF hy.az hx,hy.inv_inv]
 have UZ:a6 (inv p.2) p.1=inv (a6 (inv p.1) p.2):=by rw[xF hx.az hy,hx.inv_inv]
 rw[eg];have e1:a6 (a6 (a6 (inv p.1) p.2) (a6 (inv p.1) p.2)) (a6 (inv p.2) p.1)=a6 (inv p.1) p.2:=by rw[UZ,OO hu hu]
 have e2:a6 (a6 (a6 (inv p.1) p.2) (inv p.2)) (a6 (inv p.2) p.1)=a6 (inv p.1) (a6 (inv p.2) p.1):=by rw[OO hx.az hy]
 rw[e1,e2]
end
abbrev act:Int->List Int->aP->aP
 |k,[],p=>Sh k p
 |k,j :: ks,p=>act j ks (Qt (Sh k p))
abbrev tS(k:Int):T4:=⟨1,k,0,1⟩
abbrev iR(k:Int):T4:=⟨0,-1,1,k⟩
abbrev iI:Int->List Int->T4
 |k,[]=>tS k
 |k,j :: ks=>(iI j ks).mul (iR k)
abbrev kG(e:Bool)(M:T4):T4:=if e then⟨-M.a,-M.b,-M.c,-M.d⟩else M
abbrev pF(e:Bool)(p:aP):aP:=if e then Q2 p else p
def D5(e f:Bool)(M:T4):kG e (kG f M)=kG (e.xor f) M:=by cases e<;>cases f<;>simp[kG]
def D6(e:Bool)(M N:T4):(kG e M).mul N=kG e (M.mul N):=by cases e;rfl;unfold kG T4.mul;simp only[if_true];congr 1<;>grind
section
variable {n:Nat}{p q r:aP}
def Vf.act:∀{ks:List Int} {k:Int} {p:aP},Vf n p->Vf n (af.act k ks p)
 |[],k,p,h=>h.sh k
 |j :: ks,k,p,h=>Vf.act (ks:=ks) (h.sh k).qt
def bC.act:∀{ks:List Int} {k:Int} {p q:aP},Vf n p->bC n p q->bC n (af.act k ks p) (af.act k ks q)
 |[],k,p,q,h,a=>bC.sh h a k
 |j :: ks,k,p,q,h,a=>bC.act (ks:=ks) (h.sh k).qt (bC.qt (h.sh k) (bC.sh h a k))
def bC.pF(h:Vf n p)(a:bC n p q)(e:Bool):bC n (af.pF e p) (af.pF e q):=by cases e;exact a;exact bC.q2 h a
def Hu(h:Vf n p)(e f:Bool):pF e (pF f p)=pF (e.xor f) p:=by cases e<;>cases f;rfl;rfl;rfl;exact D3 h
def D7:∀{ks:List Int} {k:Int} {p:aP},Vf n p->bC n (act k ks (Q2 p)) (Q2 (act k ks p))
 |[],k,p,h=>bC.symm (h.sh k).q2 (xG h k)
 |j :: ks,k,p,h=>by
  have h1:bC n (Qt (Sh k (Q2 p))) (Qt (Q2 (Sh k p))):=bC.qt (h.q2.sh k) (bC.symm (h.sh k).q2 (xG h k));have h2:=bC.act (ks:=ks) (k:=j) ((h.q2.sh k).qt) h1;have h3:=D7 (ks:=ks) (k:=j) (h.sh k).qt;exact bC.trans (Vf.act (ks:=j :: ks) (k:=k) h.q2) h2 h3
def Hv{ks:List Int}{j k:Int}(h:Vf n p):act k ks (Sh j p)=act (j+k) ks p:=by
 cases ks with
 |nil=>exact u7 h j k
 |cons i ks=>show act i ks (Qt (Sh k (Sh j p)))=act i ks (Qt (Sh (j+k) p));rw[u7 h]
def OT{ks:List Int}{k:Int}(h:Vf n p):act k ks (Qt p)=act 0 (k :: ks) p:=by show _=act k ks (Qt (Sh 0 p));rw[oW h]
def U0{a b:Int}{ks:List Int}{j:Int}(hj:j=0\/j=1\/j=-1):∃(k':Int) (ks':List Int) (f:Bool),ks'.length<ks.length+2/\iI a (j :: b :: ks)=kG f (iI k' ks')/\∀{n:Nat} {p:aP},Vf n p->bC n (act a (j :: b :: ks) p) (pF f (act k' ks' p)):=by
 rcases hj with rfl|rfl|rfl
 refine⟨a+b,ks,true,by lk,?_,λ{n p} h=>?_⟩;cases ks with
 |nil=>simp[iI,kG,T4.mul,tS,iR];lk
 |cons i ks =>
  show(((iI i ks).mul (iR b)).mul (iR 0)).mul (iR a)=kG true ((iI i ks).mul (iR (a+b)));rw[T4.assoc,T4.assoc];have:(iR b).mul ((iR 0).mul (iR a))=kG true (iR (a+b)):=by simp[kG,T4.mul,iR];lk
  rw[this];unfold kG T4.mul;simp only[if_true];congr 1<;>grind
 show bC n (act b ks (Qt (Sh 0 (Qt (Sh a p))))) (Q2 (act (a+b) ks p));rw[oW (h.sh a).qt,D2,<- Hv h];exact D7 (h.sh a);refine⟨a-1,(b-1) :: ks,false,by simp,?_,λ{n p} h=>?_⟩;cases ks with
 |nil=>simp[iI,kG,T4.mul,tS,iR];refine⟨?_,?_⟩<;>grind
 |cons i ks =>
  show(((iI i ks).mul (iR b)).mul (iR 1)).mul (iR a)=((iI i ks).mul (iR (b-1))).mul (iR (a-1));rw[T4.assoc,T4.assoc,T4.assoc];have:(iR b).mul ((iR 1).mul (iR a))=(iR (b-1)).mul (iR (a-1)):=by simp[T4.mul,iR];refine⟨?_,?_,?_⟩<;>grind
  rw[this]
 show bC n (act b ks (Qt (Sh 1 (Qt (Sh a p))))) (act (b-1) ks (Qt (Sh (a-1) p)));have h1:=bC.act (ks:=ks) (k:=b) ((h.sh a).qt.sh 1).qt (D4 (h.sh a));rw[Hv ((h.sh a).sh (-1)).qt,u7 h,show -1+b=b-1 by lk,show a + -1=a-1 by lk]at h1;exact h1;refine⟨a+1,(b+1) :: ks,true,by simp,?_,λ{n p} h=>?_⟩;cases ks with
 |nil=>simp[iI,kG,T4.mul,tS,iR];refine⟨?_,?_⟩<;>grind
 |cons i ks =>
  show(((iI i ks).mul (iR b)).mul (iR (-1))).mul (iR a)=kG true (((iI i ks).mul (iR (b+1))).mul (iR (a+1)));rw[T4.assoc,T4.assoc,T4.assoc];have:(iR b).mul ((iR (-1)).mul (iR a))=kG true ((iR (b+1)).mul (iR (a+1))):=by simp[kG,T4.mul,iR];refine⟨?_,?_,?_⟩<;>grind
  rw[this];unfold kG T4.mul;simp only[if_true];congr 1<;>grind
 show bC n (act b ks (Qt (Sh (-1) (Qt (Sh a p))))) (Q2 (act (b+1) ks (Qt (Sh (a+1) p))));have h1:=bC.act (ks:=ks) (k:=b) ((h.sh a).qt.sh (-1)).qt (zt (h.sh a));have h2:=D7 (ks:=ks) (k:=b) (((h.sh a).sh 1).qt.sh 1);rw[Hv ((h.sh a).sh 1).qt,u7 h,show 1+b=b+1 by lk]at h2;have h3:=bC.trans (Vf.act (ks:=ks) (k:=b) ((h.sh a).qt.sh (-1)).qt) h1 (by rw[u7 h]at *;exact h2);exact h3
abbrev big:List Int->Prop
 |[]=>True
 |[_]=>True
 |j :: b :: ks=>(2<=j\/j<=-2)/\big (b :: ks)
def OU:∀(ks:List Int) (k:Int),big ks\/∃(k':Int) (ks':List Int) (f:Bool),ks'.length<ks.length/\iI k ks=kG f (iI k' ks')/\∀{n:Nat} {p:aP},Vf n p->bC n (act k ks p) (pF f (act k' ks' p))
 |[],_=>.inl trivial
 |[_],_=>.inl trivial
 |j :: b :: ks,k=>by
  by_cases hj:j=0\/j=1\/j=-1;obtain⟨k',ks',f,hl,hm,ha⟩:=U0 (a:=k) (b:=b) (ks:=ks) hj;exact .inr ⟨k',ks',f,by simpa using hl,hm,ha⟩;rcases OU (b :: ks) j with h|⟨k',ks',f,hl,hm,ha⟩
  exact .inl ⟨by lk,h⟩;refine .inr ⟨k,k' :: ks',f,by simpa using hl,?_,λ{n p} h=>?_⟩;show(iI j (b :: ks)).mul (iR k)=kG f ((iI k' ks').mul (iR k));rw[hm,D6];exact ha (h.sh k).qt
def OV:∀(ks:List Int) (k:Int),big ks->(ks=[]\/2<=k\/k<=-2)->(iI k ks).c.natAbs<(iI k ks).d.natAbs
 |[],k,_,_=>by show(0:Int).natAbs<(1:Int).natAbs;decide
 |j :: ks,k,h,hk=>by
  have hk:2<=k\/k<=-2:=by rcases hk with hk|hk;cases hk;exact hk
  have hj:ks=[]\/2<=j\/j<=-2:=by
   cases ks with
   |nil=>exact .inl rfl
   |cons b ks=>exact .inr h.1
  have hb:big ks:=by
   cases ks with
   |nil=>trivial
   |cons b ks=>exact h.2
  have ih:=OV ks j hb hj;show((iI j ks).c*0+(iI j ks).d*1).natAbs<((iI j ks).c * -1+(iI j ks).d*k).natAbs;generalize (iI j ks).c=c at ih;generalize (iI j ks).d=d at ih;rw[Int.mul_zero,ZaU,Int.mul_one];have e:(d*k).natAbs=d.natAbs*k.natAbs:=Int.natAbs_mul d k;have e2:d.natAbs*2<=d.natAbs*k.natAbs:=Nat.mul_le_mul_left _ ⋯;lk
def D8{ks:List Int}{k:Int}(h:big ks)(hn:ks≠[]):(iI k ks).c≠0:=by
 cases ks with
 |nil=>exact absurd rfl hn
 |cons j ks =>
  have hj:ks=[]\/2<=j\/j<=-2:=by
   cases ks with
   |nil=>exact .inl rfl
   |cons b ks=>exact .inr h.1
  have hb:big ks:=by
   cases ks with
   |nil=>trivial
   |cons b ks=>exact h.2
  have ih:=OV ks j hb hj;show(iI j ks).c*0+(iI j ks).d*1≠0;lk
def K3:∀(m:Nat) (ks:List Int) (k:Int),ks.length<=m->∀(e:Bool),iI k ks=kG e T4.one->∀{n:Nat} {p:aP},Vf n p->bC n (act k ks p) (pF e p):=by
 intro m
 induction m with
 |zero =>
  intro ks k hl e hm n p h;have:ks=[]:=List.eq_nil_of_length_eq_zero ⋯;subst this;have hm:(⟨1,k,0,1⟩:T4)=kG e T4.one:=hm;cases e with
  |false =>
   have hk:k=0:=congrArg T4.b hm;subst hk;show bC n (Sh 0 p) p;rw[oW h];exact bC.refl h
  |true=>exact absurd (congrArg T4.a hm) (show ¬(1:Int)=-1 by decide)
 |succ m ih =>
  intro ks k hl e hm n p h;by_cases hn:ks=[];subst hn;exact ih [] k (Zaa _) e hm h;rcases OU ks k with hb|⟨k',ks',f,hl',hm',ha⟩
  have:=D8 (k:=k) hb hn
  rw[hm]at this;exact absurd (by cases e<;>rfl) this;have hm2:iI k' ks'=kG (f.xor e) T4.one:=by
   have:kG f (iI k ks)=iI k' ks':=by rw[hm',D5,ZbF];rfl
   rw[<- this,hm,D5]
  have h1:=ih ks' k' ⋯ (f.xor e) hm2 h;have h2:=bC.trans h.act (ha h) (bC.pF h.act h1 f);rw[Hu h,<- Bool.xor_assoc,ZbF,Bool.false_xor]at h2;exact h2
end
abbrev nG:Nat->aP->aP
 |0,p=>p
 |j+1,p=>Qt (nG j p)
abbrev stM(p:aP)(s:Sp):aP:=if s.1=true then Sh s.2 p else nG s.2.toNat p
abbrev gh(p:aP)(w:List Sp):aP:=w.foldl stM p
section
variable {n:Nat}{p q:aP}
def Vf.nG(h:Vf n p):∀j,Vf n (af.nG j p)
 |0=>h
 |j+1=>(Vf.nG h j).qt
def Vf.st(h:Vf n p)(s:Sp):Vf n (stM p s):=by unfold stM;split;exact h.sh _;exact h.nG _
def Vf.ld:∀{w:List Sp} {p:aP},Vf n p->Vf n (gh p w)
 |[],_,h=>h
 |s :: w,p,h=>Vf.ld (w:=w) (h.st s)
def bC.nG(h:Vf n p)(a:bC n p q):∀j,bC n (af.nG j p) (af.nG j q)
 |0=>a
 |j+1=>bC.qt (h.nG j) (bC.nG h a j)
def bC.st(h:Vf n p)(a:bC n p q)(s:Sp):bC n (stM p s) (stM q s):=by unfold stM;split;exact bC.sh h a _;exact bC.nG h a _
def bC.ld:∀{w:List Sp} {p q:aP},Vf n p->bC n p q->bC n (gh p w) (gh q w)
 |[],_,_,_,a=>a
 |s :: w,p,q,h,a=>bC.ld (w:=w) (h.st s) (bC.st h a s)
def K4(p:aP)(u v:List Sp):gh p (u ++ v)=gh (gh p u) v:=by unfold gh;rw[Zaz]
end
def U1(s:Sp)(w:List Sp):ck (s :: w)=(ck w).mul (oj s):=by have:=zo [s] w;rw[show ck [s]=(oj s).mul T4.one from rfl,T4.mul_one]at this;exact this
def OW(e:Bool)(M N:T4):M.mul (kG e N)=kG e (M.mul N):=by cases e;rfl;unfold kG T4.mul;simp only[if_true];congr 1<;>grind
def zu(ks:List Int)(j k:Int):(iI k ks).mul (tS j)=iI (j+k) ks:=by
 cases ks with
 |nil=>simp[iI,T4.mul,tS]
 |cons i ks =>
  show((iI i ks).mul (iR k)).mul (tS j)=(iI i ks).mul (iR (j+k));rw[T4.assoc]
  congr 1
  simp[T4.mul,iR,tS]
def zv(ks:List Int)(k:Int):(iI k ks).mul T4.qt=iI 0 (k :: ks):=rfl
def OX:∀{w:List Sp},(∀s∈w,gR s)->∃(k:Int) (ks:List Int) (f:Bool),ck w=kG f (iI k ks)/\∀{n:Nat} {p:aP},Vf n p->bC n (gh p w) (pF f (act k ks p))
 |[],_=>⟨0,[],false,rfl,λ{n p} h=>by show bC n p (Sh 0 p);rw[oW h];exact bC.refl h⟩
 |s :: w,hw=>by
  obtain⟨k,ks,f,hm,ha⟩:=OX (w:=w) λx hx=>hw x (ZE _ hx);have hs:=hw s ZK;obtain⟨b,j⟩:=s;rw[U1,hm];cases b with
  |true =>
   refine⟨j+k,ks,f,?_,λ{n p} h=>?_⟩;rw[D6];congr 1;exact zu ks j k
   have:=ha (h.sh j)
   rw[Hv h]at this;exact this
  |false =>
   have c:j=1\/j=2\/j=3:=t3 (hs.1 rfl);rcases c with rfl|rfl|rfl
   refine⟨0,k :: ks,f,?_,λ{n p} h=>?_⟩;rw[D6];congr 1
   have:=ha h.qt
   rw[OT h]at this;exact this;refine⟨k,ks,!f,?_,λ{n p} h=>?_⟩;rw[D6,show oj (false,2)=kG true T4.one from rfl,OW,T4.mul_one,D5];cases f<;>rfl;have h1:=ha h.q2;have h2:=bC.trans (Vf.ld (w:=w) h.q2) h1 (bC.pF (Vf.act h.q2) (D7 h) f);have e:pF f (Q2 (act k ks p))=pF (!f) (act k ks p):=by
    have:=Hu (p:=act k ks p) h.act f true;rw[Bool.xor_true]at this;exact this
   rw[e]at h2;exact h2;refine⟨0,k :: ks,!f,?_,λ{n p} h=>?_⟩;have e3:oj (false,3)=kG true T4.qt:=rfl;rw[D6,e3,OW,D5,zv];cases f<;>rfl;have h1:=ha (p:=Q2 (Qt p)) h.qt.q2;have h2:=bC.trans (Vf.ld (w:=w) h.qt.q2) h1 (bC.pF (Vf.act h.qt.q2) (D7 h.qt) f);have e:pF f (Q2 (act k ks (Qt p)))=pF (!f) (act 0 (k :: ks) p):=by
    have:=Hu (p:=act k ks (Qt p)) h.qt.act f true;rw[Bool.xor_true]at this;rw[<- OT h];exact this
   rw[e]at h2;exact h2
def OY{w:List Sp}(hw:∀s∈w,gR s)(h1:ck w=T4.one){n:Nat}{p:aP}(h:Vf n p):bC n (gh p w) p:=by
 obtain⟨k,ks,f,hm,ha⟩:=OX hw;have e:iI k ks=kG f T4.one:=by
  have:kG f (ck w)=iI k ks:=by rw[hm,D5,ZbF];rfl
  rw[<- this,h1]
 have h2:=K3 ks.length ks k (ZA _) f e h;have h3:=bC.trans (Vf.ld h) (ha h) (bC.pF h.act h2 f);rw[Hu h,ZbF]at h3;exact h3
def OZ{w:List Sp}(hw:∀s∈w,gR s):∀s∈qw w,gR s:=λs hs=>by
 unfold qw at hs;obtain⟨t,ht,rfl⟩:=ZL.mp (ZaR.mp hs);exact DW (hw t ht)
def O0{w:List Sp}(hw:∀s∈w,gR s):ck (w ++ qw w)=T4.one:=by
 have hp:∀s∈w ++ qw w,gR s:=λs hs=>by
  rcases Z6.mp hs with hs|hs
  exact hw s hs;exact OZ hw s hs
 rw[<- OJ hp,UH hw];rfl
def U2{w:List Sp}(hw:∀s∈w,gR s):(ck w).a*(ck w).d-(ck w).b*(ck w).c=1:=by have:=O0 hw;rw[zo,OL hw]at this;have h:=congrArg T4.a this;have h:(ck w).d*(ck w).a + -(ck w).b*(ck w).c=1:=h;rw[Int.mul_comm (ck w).d,Int.neg_mul]at h;lk
def U3{M:T4}(h:M.a*M.d-M.b*M.c=1):M.mul M.u6=T4.one/\M.u6.mul M=T4.one:=by constructor<;>(apply T4.ext'<;>simp[T4.mul,T4.u6,T4.one]<;>grind)
def U4{u w:List Sp}(hu:∀s∈u,gR s)(hw:∀s∈w,gR s)(e:ck u=ck w){n:Nat}{p:aP}(h:Vf n p):bC n (gh p u) (gh p w):=by
 have hb:=OZ hw
 have h1:bC n (gh p (u ++ qw w)) p:=OY (λs hs=>by
  rcases Z6.mp hs with hs|hs
  exact hu s hs
  exact hb s hs) (by rw[zo,e,<- zo];exact O0 hw) h
 rw[K4]at h1;have h2:=bC.ld (w:=w) (Vf.ld (Vf.ld h)) h1;rw[<- K4]at h2
 have h3:bC n (gh (gh p u) (qw w ++ w)) (gh p u):=OY (λs hs=>by
  rcases Z6.mp hs with hs|hs
  exact hb s hs
  exact hw s hs) (by rw[zo,OL hw];exact(U3 (U2 hw)).1) (Vf.ld h)
 exact bC.trans (Vf.ld h) (bC.symm (Vf.ld (Vf.ld h)) h3) h2
abbrev iS(p:aP)(n:Nat)(s:Int):aP:=(num p.1 (bf p.1 p.2 s n),num p.2 (bf p.1 p.2 s n))
abbrev bG(n:Nat)(p:aP):aP:=ng ((upto n).map (iS p n))
def u9{n:Nat}{p q:aP}(n0:0<n)(h:Vf n p)(a:bC n p q):bG n p=bG n q:=by
 obtain⟨g,hg,rfl⟩:=a;have key:∀s:Int,0<=s->s<(n:Int)->iS (anew p.1 g,anew p.2 g) n (app g s)=iS p n s:=λs s0 s1=>by
  show(num (anew p.1 g) (bf (anew p.1 g) (anew p.2 g) (app g s) n),num (anew p.2 g) (bf (anew p.1 g) (anew p.2 g) (app g s) n))=_;have hb:=rO h.1 h.2 s0 s1 n;rw[DT h.1 h.2 hg s0 s1 n,Hm h.1 hg hb,Hm h.2 hg hb];rfl
 refine US (λx=>?_) (λe=>?_);constructor;intro hx;obtain⟨s,hs,rfl⟩:=ZL.mp hx;obtain⟨s0,s1⟩:=lE.mp hs;exact ZL.mpr ⟨app g s,lE.mpr (hg.app s0 s1),key s s0 s1⟩;intro hx;obtain⟨t,ht,rfl⟩:=ZL.mp hx;obtain⟨t0,t1⟩:=lE.mp ht;obtain⟨p0,p1⟩:=hg.mE t0 t1;refine ZL.mpr ⟨app (inv g) t,lE.mpr ⟨p0,p1⟩,?_⟩;have:=key (app (inv g) t) p0 p1;rw[hg.cQ t0 t1]at this;exact this.symm
 have:=congrArg List.length e
 rw[Zx,oh]at this;simp at this;lk
end af
namespace af
section
variable {n:Nat}{p q:aP}{g h:List Int}{s t:Int}
structure Wh(n:Nat)(p:aP):Prop where
 v:Vf n p
 all:∀x:Int,0<=x->x<(n:Int)->jO p.1 p.2 x
def Wh.bf(w:Wh n p)(s0:0<=s)(s1:s<(n:Int)):Tn n (bf p.1 p.2 s n):=Hl w.v.1 w.v.2 s0 s1 w.all
def O1(xs ys:List Int)(s:Int)(n:Nat):app (bf xs ys s n) 0=s:=by have:=zi xs ys s 0 n;rw[Zbf]at this;obtain⟨t,e⟩:=this;rw[<- e];rfl
abbrev gF(p q:aP)(n:Nat)(s t:Int):List Int:=a6 (inv (bf p.1 p.2 s n)) (bf q.1 q.2 t n)
abbrev Cg(n:Nat)(p q:aP)(g:List Int):Prop:=Tn n g/\q=(anew p.1 g,anew p.2 g)
def xH(wp:Wh n p)(wq:Wh n q)(s0:0<=s)(s1:s<(n:Int))(t0:0<=t)(t1:t<(n:Int))(e:iS p n s=iS q n t):Cg n p q (gF p q n s t)/\app (gF p q n s t) s=t:=by
 have tb:=wp.bf s0 s1;have tc:=wq.bf t0 t1;have n0:0<n:=by lk
 refine⟨⟨tb.az.a6 tc,?_⟩,?_⟩;unfold iS at e;have e1:=congrArg Prod.fst e;have e2:=congrArg Prod.snd e;simp only at e1 e2;rw[<- u3 wp.v.1 tb,<- u3 wq.v.1 tc]at e1;rw[<- u3 wp.v.2 tb,<- u3 wq.v.2 tc]at e2;have go:∀{a b:List Int},Tn n a->Tn n b->anew a (inv (bf p.1 p.2 s n))=anew b (inv (bf q.1 q.2 t n))->b=anew a (gF p q n s t):=λ{a b} ta tb' e=>by
  unfold gF;rw[<- Tn.lY ta tb.az tc,e];have:=Tn.lZ tb' tc.az;rw[tc.inv_inv]at this;exact this.symm
 exact Prod.ext (go wp.v.1 wq.v.1 e1) (go wp.v.2 wq.v.2 e2);unfold gF;rw[pE s0 (by rw[BU,tb.length];exact s1)];have:app (inv (bf p.1 p.2 s n)) s=0:=by
  have:=tb.gg (i:=0) ∅ ⋯;rw[O1]at this;exact this
 rw[this,O1]
def D9(v:Vf n p)(c:Cg n p q g)(s0:0<=s)(s1:s<(n:Int)):iS q n (app g s)=iS p n s:=by obtain⟨tg,rfl⟩:=c;unfold iS;have hb:=rO v.1 v.2 s0 s1 n;show(num (anew p.1 g) (bf (anew p.1 g) (anew p.2 g) (app g s) n),num (anew p.2 g) (bf (anew p.1 g) (anew p.2 g) (app g s) n))=_;rw[DT v.1 v.2 tg s0 s1 n,Hm v.1 tg hb,Hm v.2 tg hb]
def Ea(w:Wh n p)(c:Cg n p q g)(s0:0<=s)(s1:s<(n:Int)):gF p q n s (app g s)=g:=by have tb:=w.bf s0 s1;obtain⟨tg,rfl⟩:=c;unfold gF;show a6 (inv (bf p.1 p.2 s n)) (bf (anew p.1 g) (anew p.2 g) (app g s) n)=g;rw[DT w.v.1 w.v.2 tg s0 s1 n];exact UT tb tg
abbrev rP(p q:aP)(n m:Nat):List (List Int):=((upto m).filter λs=>decide (iS q m s=iS p n 0)).map λs=>a6 (inv (bf p.1 p.2 0 n)) (bf q.1 q.2 s m)
def Hw(w:Wh n p)(s0:0<=s)(s1:s<(n:Int)):(iS p n s).1.length=n:=by unfold iS num;rw[Zx,(w.bf s0 s1).length]
def zw{m:Nat}(wp:Wh n p)(wq:Wh m q)(n0:0<n)(e:n≠m):rP p q n m=[]:=by unfold rP;rw[List.map_eq_nil_iff,List.filter_eq_nil_iff];intro s hs h;obtain⟨s0,s1⟩:=lE.mp hs;have:=congrArg (λz:aP=>z.1.length) (of_decide_eq_true h);have this:(iS q m s).1.length=(iS p n 0).1.length:=this;rw[Hw wq s0 s1,Hw wp ∅ ⋯]at this;exact e this.symm
def Hx(xs ys:List Int):∀k,∀y∈bf xs ys 0 k,jO xs ys y
 |0,y,hy=>by rw[ZU.mp (show y∈[(0:Int)]from hy)];exact .zero
 |k+1,y,hy=>by
  have hy':y∈(match (bf xs ys 0 k)[k]? with|some x=>visit xs ys (bf xs ys 0 k) x|none=>bf xs ys 0 k):=hy;split at hy'
  ·next z hz =>
   have xI:=Hx xs ys k z (ZF hz);rcases rN.mp hy' with hy'|rfl
   ·rcases rN.mp hy' with hy'|rfl
    ·exact Hx xs ys k y hy'
    ·exact xI.r
   ·exact xI.u
  ·exact Hx xs ys k y hy'
def xJ(w:Wh n p)(v:Vf n q)(n0:0<n)(h:∀F:List Int,F.Nodup->(∀x∈F,0<=x/\x<(n:Int))->Cl q.1 q.2 F->Cl p.1 p.2 F):Wh n q:=by refine⟨v,λx x0 x1=>Hx q.1 q.2 n x ?_⟩;have c:=h (bf q.1 q.2 0 n) (zj _ _ _ _) (rO v.1 v.2 ∅ ⋯ n) (KP v.1 v.2 ∅ ⋯);refine c.all ?_ (w.all x x0 x1);have:=zi q.1 q.2 0 0 n;rw[Zbf]at this;exact this.subset (show(0:Int)∈[(0:Int)] by simp)
def O2{zs F:List Int}(hz:Tn n zs)(nd:F.Nodup)(hb:∀x∈F,0<=x/\x<(n:Int))(hc:∀x∈F,app zs x∈F):∀x∈F,app (inv zs) x∈F:=λx hx=>by
 obtain⟨x0,x1⟩:=hb x hx;obtain⟨a0,a1⟩:=hz.mE x0 x1;exact DS hz nd hb hc a0 a1 (by rw[hz.cQ x0 x1];exact hx)
def K5{zs F:List Int}(hc:∀x∈F,app zs x∈F){x:Int}(hx:x∈F):∀k,bz zs x k∈F
 |0=>hx
 |k+1=>hc _ (K5 hc hx k)
def Eb{zs F:List Int}(hz:Tn n zs)(nd:F.Nodup)(hb:∀x∈F,0<=x/\x<(n:Int))(hc:∀x∈F,app zs x∈F)(k:Int){x:Int}(hx:x∈F):pw zs k x∈F:=by unfold pw;split;exact K5 hc hx _;exact K5 (O2 hz nd hb hc) hx _
def Wh.sh(w:Wh n p)(n0:0<n)(k:Int):Wh n (Sh k p):=by
 refine xJ w (w.v.sh k) n0 λF nd hb hc x hx=>⟨(hc x hx).1,?_⟩;obtain⟨x0,x1⟩:=hb x hx;have h1:∀x∈F,app p.1 x∈F:=λx hx=>(hc x hx).1;have hy:=Eb w.v.1 nd hb h1 k hx;have:=(hc _ hy).2;obtain⟨y0,y1⟩:=hb _ hy;have e:app (Sh k p).2 (pw p.1 k x)=app p.2 x:=by
  show app (shr p.1 p.2 k) (pw p.1 k x)=_;unfold shr;have hlen:(cy p.1 (-k)).length=n:=(w.v.1.cy (-k)).length;rw[pE y0 (by rw[hlen];exact y1)]
  congr 1
  have e3:=D0 w.v.1 k (-k);rw[Int.add_right_neg,KZ w.v.1]at e3;have e4:app (a6 (cy p.1 k) (cy p.1 (-k))) x=app (upto n) x:=by rw[e3]
  rw[Hr x0 x1,pE x0 (by rw[(w.v.1.cy k).length];exact x1)]at e4;have e5:app (cy p.1 k) x=pw p.1 k x:=qL x0 (by rw[w.v.1.length];exact x1);rw[e5]at e4;exact e4
 rw[e]at this;exact this
def Wh.qt(w:Wh n p)(n0:0<n):Wh n (Qt p):=by refine xJ w w.v.qt n0 λF nd hb hc x hx=>⟨(hc x hx).2,?_⟩;have:=O2 w.v.2.az nd hb (λx hx=>(hc x hx).1) x hx;rw[w.v.2.inv_inv]at this;exact this
abbrev Od(xs ys F:List Int):Prop:=F[0]?=some 0/\∀(k:Nat) (y:Int),F[k+1]?=some y->∃(j:Nat) (x:Int),j<=k/\F[j]?=some x/\(y=app xs x\/y=app ys x)
def Od.one(xs ys:List Int):Od xs ys [0]:=⟨rfl,λk y h=>by cases h⟩
def Od.snoc{xs ys F:List Int}{x y:Int}(h:Od xs ys F)(hx:x∈F)(hy:y=app xs x\/y=app ys x):Od xs ys (F ++ [y]):=by
 have hl:0<F.length:=List.length_pos_of_mem hx;refine⟨by rw[ZQ hl];exact h.1,λk z hz=>?_⟩;by_cases hk:k+1<F.length;rw[ZQ hk]at hz;obtain⟨j,x',hj,hx',e⟩:=h.2 k z hz;exact⟨j,x',hj,by rw[ZQ ⋯];exact hx',e⟩;rw[ZW ⋯]at hz;have hz:z=y:=by
  cases h3:k+1-F.length with
  |zero=>rw[h3]at hz;cases hz;rfl
  |succ m=>rw[h3]at hz;cases hz
 obtain⟨j,hj,e⟩:=ZaO hx;have nK:k+1=F.length\/F.length<k+1:=by lk
 refine⟨j,x,by lk,by rw[ZQ hj,Zy hj,e],by rw[hz];exact hy⟩
structure Fo(xs ys F:List Int):Prop extends Fd xs ys F where
 od:Od xs ys F
def Fo.one(xs ys:List Int):Fo xs ys [0]:=⟨Fd.one xs ys,Od.one xs ys⟩
end
end af
namespace af
section
variable {n:Nat}{xs ys r r' r2:List Int}{i j x y:Int}
abbrev Sm(xs ys r:List Int):Prop:=∀s∈r,app ys (app xs s)=app xs (app ys s)
instance:Decidable (Sm xs ys r):=inferInstanceAs (Decidable (∀s∈r,app ys (app xs s)=app xs (app ys s)))
end
end af
namespace af
section
variable {n:Nat}{p q:aP}{g:List Int}
def Wh.nG(w:Wh n p)(n0:0<n):∀j,Wh n (af.nG j p)
 |0=>w
 |j+1=>(w.nG n0 j).qt n0
def Wh.st(w:Wh n p)(n0:0<n)(s:Sp):Wh n (stM p s):=by unfold stM;split;exact w.sh n0 _;exact w.nG n0 _
def Wh.ld(n0:0<n):∀{w:List Sp} {p:aP},Wh n p->Wh n (gh p w)
 |[],_,h=>h
 |s :: w,_,h=>Wh.ld n0 (w:=w) (h.st n0 s)
end
end af
namespace af
end af
namespace af
section
variable {n:Nat}{p q:aP}
def U5(vp:Vf n p)(vq:Vf n q)(k:Int)(a:bC n (Sh k p) (Sh k q)):bC n p q:=by have h:=bC.sh (vp.sh k) a (-k);rw[u7 vp,u7 vq,Int.add_right_neg,oW vp,oW vq]at h;exact h
def K7(p:aP)(n0:0<n):∃s:Int,0<=s/\s<(n:Int)/\bG n p=iS p n s:=by
 have h:=(Hq (l:=(upto n).map (iS p n)) (λe=>by
  have:=congrArg List.length e;rw[Zx,oh]at this;simp at this
  lk)).1
 obtain⟨s,hs,e⟩:=ZL.mp h;obtain⟨s0,s1⟩:=lE.mp hs;exact⟨s,s0,s1,e.symm⟩
def zx(wp:Wh n p)(wq:Wh n q)(n0:0<n)(e:bG n p=bG n q):bC n p q:=by obtain⟨s,s0,s1,es⟩:=K7 p n0;obtain⟨t,t0,t1,et⟩:=K7 q n0;rw[es,et]at e;obtain⟨tg,eq⟩:=(xH wp wq s0 s1 t0 t1 e).1;exact⟨_,tg,eq⟩
def zy(n0:0<n)(k:Int)(wp:Wh n p)(wq:Wh n q)(op:bG n p=p)(oq:bG n q=q)(e:bG n (Sh k p)=bG n (Sh k q)):p=q:=by have a:=U5 wp.v wq.v k (zx (wp.sh n0 k) (wq.sh n0 k) n0 e);rw[<- op,<- oq];exact u9 n0 wp.v a
end
end af
namespace L4
open PySem PySem.Spec L2
inductive D where
 |non|bl (b:Bool)|int (i:Int)|str (x:Str)|ty (n:String)|tup (ds:List D)|ref (i:Nat)
instance:Inhabited D:=⟨.non⟩
inductive O where
 |lst (ds:List D)|pH (ds:List D)|dct (kvs:List (Key×D))|Ec (kvs:List (List Int×D))|exc (c:Str) (fs:List (Str×D))|any|iE (lo hi:Int)
@[reducible]def Store:=List O
@[reducible]def aj:=List (Option D)
@[reducible]def Dm(α:Type):=Store->Option (α×Store)
inductive Fl where
 |nx (δ:aj)|bk (δ:aj)|ct (δ:aj)|rt (d:D)
mutual
inductive Rp(K:Zfr)(ρ:List Addr)(H:Hp):V->D->Prop
 |non:Rp K ρ H .non .non
 |bl (b:Bool):Rp K ρ H (.bl b) (.bl b)
 |int (i:Int):Rp K ρ H (.int i) (.int i)
 |str (x:Str):Rp K ρ H (.str x) (.str x)
 |ty (n:String):Rp K ρ H (.ty n) (.ty n)
 |ref {a:Addr} {i:Nat}:ρ[i]?=some a->Rp K ρ H (.ref a) (.ref i)
 |tup {a:Addr} {vs:List V} {ds:List D}:d9 K H a vs->cn K ρ H vs ds->Rp K ρ H (.ref a) (.tup ds)
inductive cn(K:Zfr)(ρ:List Addr)(H:Hp):List V->List D->Prop
 |nil:cn K ρ H [] []
 |cons {v:V} {vs:List V} {d:D} {ds:List D}:Rp K ρ H v d->cn K ρ H vs ds->cn K ρ H (v :: vs) (d :: ds)
end
structure Mn(K:Zfr)(ρ:List Addr)(H:Hp)(ρ':List Addr)(H':Hp):Prop where
 r:∀(i:Nat) (a:Addr),ρ[i]?=some a->ρ'[i]?=some a
 t:∀a vs,d9 K H a vs->d9 K H' a vs
 f:∀a o u,H a=some (.mJ o u)->H' a=some (.mJ o u)
 x:∀a ws,H a=some (.xd ws)->H' a=some (.xd ws)
section
variable {K:Zfr}{ρ ρ' ρ2:List Addr}{H H' H2:Hp}
def Mn.refl:Mn K ρ H ρ H:=⟨λ_ _ h=>h,λ_ _ h=>h,λ_ _ _ h=>h,λ_ _ h=>h⟩
def Mn.trans(m:Mn K ρ H ρ' H')(n:Mn K ρ' H' ρ2 H2):Mn K ρ H ρ2 H2:=⟨λi a h=>n.r i a (m.r i a h),λa vs h=>n.t a vs (m.t a vs h),λa o u h=>n.f a o u (m.f a o u h),λa ws h=>n.x a ws (m.x a ws h)⟩
mutual
def Rp.mn(m:Mn K ρ H ρ' H'):∀{v:V} {d:D},Rp K ρ H v d->Rp K ρ' H' v d
 |_,_,.non=>.non
 |_,_,.bl b=>.bl b
 |_,_,.int i=>.int i
 |_,_,.str x=>.str x
 |_,_,.ty n=>.ty n
 |_,_,.ref e=>.ref (m.r _ _ e)
 |_,_,.tup q r=>.tup (m.t _ _ q) (cn.mn m r)
def cn.mn(m:Mn K ρ H ρ' H'):∀{vs:List V} {ds:List D},cn K ρ H vs ds->cn K ρ' H' vs ds
 |_,_,.nil=>.nil
 |_,_,.cons a b=>.cons (Rp.mn m a) (cn.mn m b)
end
def cn.length:∀{vs:List V} {ds:List D},cn K ρ H vs ds->vs.length=ds.length
 |_,_,.nil=>rfl
 |_,_,.cons _ r=>by rw[Z2,Z2,r.length]
def cn.got:∀{vs:List V} {ds:List D},cn K ρ H vs ds->∀{i:Nat} {d:D},ds[i]?=some d->∃v,vs[i]?=some v/\Rp K ρ H v d
 |_,_,.nil,i,v,e=>by simp at e
 |_,_,.cons (v:=v) a b,0,d,e=>⟨v,by simp,by have:_=d:=ZN (by simpa using e);rw[<- this];exact a⟩
 |_,_,.cons a b,i+1,d,e=>by
  obtain⟨v,e1,r⟩:=cn.got b (i:=i) (by simpa using e);exact⟨v,by simpa using e1,r⟩
def cn.append:∀{vs:List V} {ds:List D} {ws:List V} {es:List D},cn K ρ H vs ds->cn K ρ H ws es->cn K ρ H (vs ++ ws) (ds ++ es)
 |_,_,_,_,.nil,s=>s
 |_,_,_,_,.cons a b,s=>.cons a (cn.append b s)
def cn.one{v:V}{d:D}(r:Rp K ρ H v d):cn K ρ H [v] [d]:=.cons r .nil
def cn.take:∀{vs:List V} {ds:List D} (n:Nat),cn K ρ H vs ds->cn K ρ H (vs.take n) (ds.take n)
 |_,_,0,_=>.nil
 |_,_,_+1,.nil=>.nil
 |_,_,n+1,.cons r t=>.cons r (cn.take n t)
def cn.drop:∀{vs:List V} {ds:List D} (n:Nat),cn K ρ H vs ds->cn K ρ H (vs.drop n) (ds.drop n)
 |_,_,0,r=>r
 |_,_,_+1,.nil=>.nil
 |_,_,n+1,.cons _ t=>cn.drop n t
def cn.set{v:V}{d:D}(r:Rp K ρ H v d):∀{vs:List V} {ds:List D} (i:Nat),cn K ρ H vs ds->cn K ρ H (vs.set i v) (ds.set i d)
 |_,_,_,.nil=>.nil
 |_,_,0,.cons _ t=>.cons r t
 |_,_,i+1,.cons q t=>.cons q (cn.set r i t)
def cn.erase:∀{vs:List V} {ds:List D} (i:Nat),cn K ρ H vs ds->cn K ρ H (vs.eraseIdx i) (ds.eraseIdx i)
 |_,_,_,.nil=>.nil
 |_,_,0,.cons _ t=>t
 |_,_,i+1,.cons q t=>.cons q (cn.erase i t)
def cn.flat{vs:List V}{ds:List D}(r:cn K ρ H vs ds):∀n:Nat,cn K ρ H (List.replicate n vs).flatten (List.replicate n ds).flatten
 |0=>.nil
 |n+1=>by rw[Zan,Zan,ZaW,ZaW];exact r.append (r.flat n)
def cn.ints:∀(ns:List Int),cn K ρ H (ns.map V.int) (ns.map D.int)
 |[]=>.nil
 |n :: r=>.cons (.int n) (cn.ints r)
end
abbrev Rs(K:Zfr)(ρ:List Addr)(H:Hp)(σ:St)(δ:aj):Prop:=σ.length=δ.length/\∀(i:Nat) (d:D),δ[i]?=some (some d)->∃v,σ[i]?=some (some v)/\Rp K ρ H v d
abbrev Rk(K:Zfr)(ρ:List Addr)(H:Hp):List (Key×V)->List (Key×D)->Prop:=Paired λp q=>p.1=q.1/\Rp K ρ H p.2 q.2
abbrev Ru(K:Zfr)(ρ:List Addr)(H:Hp):List (List Int×D)->List (List Int×Addr×Value)->Prop:=Paired λq x=>q.1=x.1/\d9 K H x.2.1 (x.1.map V.int)/\∃v,RelV v x.2.2/\Rp K ρ H v q.2
abbrev Xd(K:Zfr)(ρ:List Addr)(H:Hp):Option Addr->List (Str×D)->Prop
 |none,fs=>fs=[]
 |some d,fs=>∃ws,H d=some (.xd ws)/\∀f e,fs.lookup f=some e->∃v,ws.lookup f=some v/\Rp K ρ H v e
abbrev xK(K:Zfr)(ρ:List Addr)(H:Hp)(a:Addr):O->Prop
 |.lst ds=>∃vs,H a=some (.lst vs)/\cn K ρ H vs ds
 |.pH ds=>∃vs,Dp K H a vs/\cn K ρ H vs ds
 |.dct kvs=>∃ws,H a=some (.dK ws)/\Rk K ρ H ws kvs
 |.Ec kvs=>∃xs,H a=some (DU a xs)/\Ru K ρ H kvs xs
 |.exc c fs=>∃C dx tr,PySem.W.nsIn K mainGlobals c=some (some (.ref C))/\H a=some (XO a C dx tr)/\Xd K ρ H dx fs
 |.any=>True
 |.iE lo hi=>H a=some (.iE lo hi)
abbrev O.mut:O->Bool
 |.pH _=>false
 |.any=>false
 |_=>true
structure Rl(K:Zfr)(ρ:List Addr)(H:Hp)(st:Store):Prop where
 len:ρ.length=st.length
 nd:∀(i j:Nat) (a:Addr) (o o':O),ρ[i]?=some a->ρ[j]?=some a->st[i]?=some o->st[j]?=some o'->o.mut=true->o'.mut=true->i=j
 obj:∀(i:Nat) (a:Addr) (o:O),ρ[i]?=some a->st[i]?=some o->xK K ρ H a o
section
variable {K:Zfr}{ρ ρ' ρ2:List Addr}{H H' H2:Hp}{st st':Store}{a p:Addr}{i:Nat}{o o':O}{ho:HO}{σ:St}{δ:aj}
def Rs.mn(h:Rs K ρ H σ δ)(m:Mn K ρ H ρ' H'):Rs K ρ' H' σ δ:=⟨h.1,λi d e=>let ⟨v,e1,r⟩:=h.2 i d e;⟨v,e1,r.mn m⟩⟩
def Rk.mn(m:Mn K ρ H ρ' H'){ws:List (Key×V)}{kvs:List (Key×D)}(h:Rk K ρ H ws kvs):Rk K ρ' H' ws kvs:=by
 induction h with
 |nil=>exact .nil
 |cons a _ ih=>exact .cons ⟨a.1,a.2.mn m⟩ ih
def Ru.mn(m:Mn K ρ H ρ' H'){kvs:List (List Int×D)}{xs:List (List Int×Addr×Value)}(h:Ru K ρ H kvs xs):Ru K ρ' H' kvs xs:=by
 induction h with
 |nil=>exact .nil
 |cons a _ ih=>obtain⟨a1,a2,v,a3,a4⟩:=a;exact .cons ⟨a1,m.t _ _ a2,v,a3,a4.mn m⟩ ih
def Xd.mn(m:Mn K ρ H ρ' H'){dx:Option Addr}{fs:List (Str×D)}(h:Xd K ρ H dx fs):Xd K ρ' H' dx fs:=by
 cases dx with
 |none=>exact h
 |some d=>obtain⟨ws,e,q⟩:=h;exact⟨ws,m.x _ _ e,λf e' z=>let ⟨v,z1,z2⟩:=q f e' z;⟨v,z1,z2.mn m⟩⟩
def xK.keep(m:Mn K ρ H ρ' H')(h:∀u,H a=some u->H' a=some u)(r:xK K ρ H a o):xK K ρ' H' a o:=by
 cases o with
 |lst ds=>obtain⟨vs,e,q⟩:=r;exact⟨vs,h _ e,q.mn m⟩
 |pH ds =>
  obtain⟨vs,e,q⟩:=r;refine⟨vs,?_,q.mn m⟩;rcases e with⟨u,e⟩|e
  exact .inl ⟨u,h _ e⟩;exact .inr e
 |dct kvs=>obtain⟨ws,e,q⟩:=r;exact⟨ws,h _ e,q.mn m⟩
 |Ec kvs=>obtain⟨ws,e,q⟩:=r;exact⟨ws,h _ e,q.mn m⟩
 |exc c fs=>obtain⟨C,dx,tr,n,e,q⟩:=r;exact⟨C,dx,tr,n,h _ e,q.mn m⟩
 |any=>trivial
 |iE lo hi=>exact h _ r
def Mn.same(s:fH H H'):Mn K ρ H ρ H':=⟨λ_ _ h=>h,λ_ _ h=>(Kp.of_same (ch:=[]) s).J5 h,λ_ _ _ h=>s _ _ h,λ_ _ h=>s _ _ h⟩
def Rl.same(l:Rl K ρ H st)(s:fH H H'):Rl K ρ H' st:=⟨l.len,l.nd,λi a o h1 h2=>(l.obj i a o h1 h2).keep (Mn.same s) λu e=>s _ _ e⟩
def Rl.at(l:Rl K ρ H st)(h1:ρ[i]?=some a)(h2:st[i]?=some o)(hm:o.mut=true):∃u,H a=some u/\∀x y,u≠.mJ x y:=by
 have r:=l.obj i a o h1 h2;cases o with
 |lst ds=>obtain⟨vs,e,_⟩:=r;exact⟨_,e,λx y z=>nomatch z⟩
 |pH ds=>cases hm
 |dct kvs=>obtain⟨ws,e,_⟩:=r;exact⟨_,e,λx y z=>nomatch z⟩
 |Ec kvs=>obtain⟨ws,e,_⟩:=r;exact⟨_,e,λx y z=>by cases z⟩
 |exc c fs=>obtain⟨C,dx,tr,_,e,_⟩:=r;exact⟨_,e,λx y z=>by cases z⟩
 |any=>cases hm
 |iE lo hi=>exact⟨_,r,λx y z=>nomatch z⟩
def Mn.new(hp:H p=none):Mn K ρ H (ρ ++ [p]) (upd H p ho):=⟨λi a h=>by
  obtain⟨hi,_⟩:=Zz.mp h
  rw[ZQ hi];exact h,λ_ _ h=>(Kp.of_same (ch:=[]) (fH.up hp)).J5 h,λ_ _ _ h=>fH.up hp _ _ h,λ_ _ h=>fH.up hp _ _ h⟩
def Rl.new(l:Rl K ρ H st)(hp:H p=none)(mk:xK K (ρ ++ [p]) (upd H p ho) p o):Rl K (ρ ++ [p]) (upd H p ho) (st ++ [o]):=by
 have m:Mn K ρ H (ρ ++ [p]) (upd H p ho):=Mn.new hp;have split:∀(i:Nat) (a:Addr) (o':O),(ρ ++ [p])[i]?=some a->(st ++ [o])[i]?=some o'->(ρ[i]?=some a/\st[i]?=some o')\/(i=ρ.length/\a=p/\o'=o):=λi a o' h1 h2=>by
  by_cases hi:i<ρ.length;rw[ZQ hi]at h1;rw[ZQ (by rw[<- l.len];exact hi)]at h2;exact .inl ⟨h1,h2⟩;obtain⟨hb,_⟩:=Zz.mp h1;rw[ZH,ZaV]at hb;have e:i=ρ.length:=by lk
  subst e;rw[ZW (ZA _),ZaM]at h1;rw[l.len,ZW (ZA _),ZaM]at h2;exact .inr ⟨rfl,(ZN h1).symm,(ZN h2).symm⟩
 refine⟨by rw[ZH,ZH,l.len];rfl,λi j a u u' h1 h2 h3 h4 m1 m2=>?_,λi a u h1 h2=>?_⟩;rcases split i a u h1 h3 with⟨g1,g2⟩|⟨rfl,rfl,rfl⟩<;>rcases split j _ u' h2 h4 with⟨k1,k2⟩|⟨k1,k2,k3⟩
 exact l.nd i j a u u' g1 k1 g2 k2 m1 m2;subst k2;obtain⟨w,e,_⟩:=l.at g1 g2 m1;rw[e]at hp;cases hp;obtain⟨w,e,_⟩:=l.at k1 k2 m2;rw[e]at hp;cases hp;exact k1.symm;rcases split i a u h1 h2 with⟨g1,g2⟩|⟨rfl,rfl,rfl⟩
 exact(l.obj i a u g1 g2).keep m λw e=>fH.up hp _ _ e;exact mk
def Rl.put(l:Rl K ρ H st)(hi:ρ[i]?=some a)(hs:st[i]?=some o)(hm:o.mut=true)(hm':o'.mut=true)(m:Mn K ρ H ρ (upd H a ho))(r:xK K ρ (upd H a ho) a o'):Rl K ρ (upd H a ho) (st.set i o'):=by
 obtain⟨w,ew,nf⟩:=l.at hi hs hm;have U6:i<st.length:=(Zz.mp hs).1;have old:∀(j:Nat) (u:O),(st.set i o')[j]?=some u->(j=i/\u=o')\/(j≠i/\st[j]?=some u):=λj u h=>by
  by_cases hj:i=j;subst hj;rw[ZI U6]at h;exact .inl ⟨rfl,(ZN h).symm⟩;rw[ZJ hj]at h;exact .inr ⟨λz=>hj z.symm,h⟩
 refine⟨by rw[Zae];exact l.len,λj k b u u' h1 h2 h3 h4 m1 m2=>?_,λj b u h1 h2=>?_⟩;rcases old j u h3 with⟨rfl,rfl⟩|⟨nj,g3⟩<;>rcases old k u' h4 with⟨rfl,rfl⟩|⟨nk,g4⟩
 rfl;exact l.nd _ _ b o u' h1 h2 hs g4 hm m2;exact l.nd _ _ b u o h1 h2 g3 hs m1 hm;exact l.nd _ _ b u u' h1 h2 g3 g4 m1 m2;rcases old j u h2 with⟨rfl,rfl⟩|⟨nj,g2⟩
 rw[hi]at h1;cases h1;exact r;by_cases hb:b=a;subst hb;cases u with
 |pH ds =>
  obtain⟨vs,e,q⟩:=l.obj j b _ h1 g2;refine⟨vs,?_,q.mn m⟩;rcases e with⟨x,e⟩|e
  rw[ew]at e;cases e;exact absurd rfl (nf _ _);exact .inr e
 |lst ds=>exact absurd (l.nd j i b _ o h1 hi g2 hs rfl hm) nj
 |Ec ds=>exact absurd (l.nd j i b _ o h1 hi g2 hs rfl hm) nj
 |exc c fs=>exact absurd (l.nd j i b _ o h1 hi g2 hs rfl hm) nj
 |dct ds=>exact absurd (l.nd j i b _ o h1 hi g2 hs rfl hm) nj
 |any=>trivial
 |iE lo up=>exact absurd (l.nd j i b _ o h1 hi g2 hs rfl hm) nj
 exact(l.obj j b u h1 g2).keep m λw e=>by rw[dO hb];exact e
def Mn.put{xs:List V}(e:H a=some (.lst xs)):Mn K ρ H ρ (upd H a ho):=⟨λ_ _ h=>h,λb vs h=>(Kp.put (ch:=[a]) (o:=ho) Kp.refl (by simp) e).J5 h,λb o u h=>by rw[dO (λz=>by rw[z,e]at h;cases h)];exact h,λb ws h=>by rw[dO (λz=>by rw[z,e]at h;cases h)];exact h⟩
def Mn.putD{ws:List (Key×V)}(e:H a=some (.dK ws)):Mn K ρ H ρ (upd H a ho):=⟨λ_ _ h=>h,λb vs q=>by
 have ne:∀u,H b=some u->(∀w,u≠.dK w)->b≠a:=λu hu n z=>by rw[z,e]at hu;cases hu;exact n _ rfl
 rcases q with(q|⟨o,q⟩)|q
 exact .inl (.inl (by rw[dO (ne _ q λw z=>nomatch z)];exact q));exact .inl (.inr ⟨o,by rw[dO (ne _ q λw z=>nomatch z)];exact q⟩)
 exact .inr q,λb o u h=>by rw[dO (λz=>by rw[z,e]at h;cases h)];exact h,λb ws h=>by rw[dO (λz=>by rw[z,e]at h;cases h)];exact h⟩
def Rl.newL{vs:List V}{ds:List D}(l:Rl K ρ H st)(hp:H p=none)(r:cn K ρ H vs ds):Rl K (ρ ++ [p]) (upd H p (.lst vs)) (st ++ [.lst ds]):=l.new hp ⟨vs,mK,r.mn (Mn.new hp)⟩
def Rl.newD{vs:List (Key×V)}{ds:List (Key×D)}(l:Rl K ρ H st)(hp:H p=none)(r:Rk K ρ H vs ds):Rl K (ρ ++ [p]) (upd H p (.dK vs)) (st ++ [.dct ds]):=l.new hp ⟨vs,mK,r.mn (Mn.new hp)⟩
def newR(l:Rl K ρ H st)(v:D:=.ref st.length):(ρ ++ [p])[st.length]?=some p:=by rw[<- l.len,ZW (ZA _),ZaM];rfl
def Rl.putL{vs:List V}{ds xs:List D}(l:Rl K ρ H st)(hi:ρ[i]?=some a)(hs:st[i]?=some (.lst xs))(r:cn K ρ H vs ds):Rl K ρ (upd H a (.lst vs)) (st.set i (.lst ds))/\Mn K ρ H ρ (upd H a (.lst vs)):=by obtain⟨ws,e,_⟩:=l.obj i a _ hi hs;have m:Mn K ρ H ρ (upd H a (.lst vs)):=Mn.put e;exact⟨l.put hi hs rfl rfl m ⟨vs,mK,r.mn m⟩,m⟩
def Rl.zz{vs:List (Key×V)}{ds xs:List (Key×D)}(l:Rl K ρ H st)(hi:ρ[i]?=some a)(hs:st[i]?=some (.dct xs))(r:Rk K ρ H vs ds):Rl K ρ (upd H a (.dK vs)) (st.set i (.dct ds))/\Mn K ρ H ρ (upd H a (.dK vs)):=by obtain⟨ws,e,_⟩:=l.obj i a _ hi hs;have m:Mn K ρ H ρ (upd H a (.dK vs)):=Mn.putD e;exact⟨l.put hi hs rfl rfl m ⟨vs,mK,r.mn m⟩,m⟩
abbrev items(st:Store)(i:Nat):Option (List D):=match st[i]? with
 |some (.lst ds)=>some ds
 |some (.pH ds)=>some ds
 |_=>none
def Rl.items{ds:List D}(l:Rl K ρ H st)(hi:ρ[i]?=some a)(h:items st i=some ds):∃vs,jM K H a vs/\cn K ρ H vs ds:=by
 unfold L4.items at h;split at h
 ·next ds' hs=>cases h;obtain⟨vs,e,r⟩:=l.obj i a _ hi hs;exact⟨vs,.inl (.inl e),r⟩
 ·next ds' hs=>cases h;obtain⟨vs,e,r⟩:=l.obj i a _ hi hs;exact⟨vs,e.sq,r⟩
 ·cases h
end
abbrev So(K:Zfr){α β:Type}(R:List Addr->Hp->α->β->Prop)(t:St->Hp->(α->Hp->Prop)->Prop)(f:aj->Dm β):Prop :=
 ∀(ρ:List Addr) (σ:St) (H:Hp) (δ:aj) (st:Store) (b:β) (st':Store) (Q:α->Hp->Prop),Rl K ρ H st->Rs K ρ H σ δ->f δ st=some (b,st') ->
  (∀a H' ρ',Mn K ρ H ρ' H'->Rl K ρ' H' st'->R ρ' H' a b->Q a H')->t σ H Q
@[reducible]def dR(K:Zfr)(t:TE)(f:aj->Dm D):Prop:=So K (Rp K) t f
@[reducible]def pS(K:Zfr)(t:TT)(f:aj->Dm Bool):Prop:=So K (λ_ _=>Eq) t f
@[reducible]def qy(K:Zfr)(t:TA)(f:aj->Dm (List D)):Prop:=So K (cn K) t f
@[reducible]def Hy(K:Zfr)(t:TO)(f:aj->Dm (Option Int)):Prop:=So K (λ_ _=>Eq) t f
abbrev K8(K:Zfr)(r:V->Hp->VK->Prop)(g:D->Dm D):Prop :=
 ∀(ρ:List Addr) (H:Hp) (st:Store) (x:V) (a:D) (b:D) (st':Store) (Q:VK),Rl K ρ H st->Rp K ρ H x a->g a st=some (b,st')->(∀v H' ρ',Mn K ρ H ρ' H'->Rl K ρ' H' st'->Rp K ρ' H' v b->Q v H')->r x H Q
abbrev mF(K:Zfr)(r:R2)(g:D->D->Dm D):Prop :=
 ∀(ρ:List Addr) (H:Hp) (st:Store) (x y:V) (a c:D) (b:D) (st':Store) (Q:VK),Rl K ρ H st->Rp K ρ H x a->Rp K ρ H y c->g a c st=some (b,st')->(∀v H' ρ',Mn K ρ H ρ' H'->Rl K ρ' H' st'->Rp K ρ' H' v b->Q v H')->r x y H Q
abbrev rQ(K:Zfr)(r:List V->Hp->VK->Prop)(g:List D->Dm D):Prop :=
 ∀(ρ:List Addr) (H:Hp) (st:Store) (xs:List V) (as:List D) (b:D) (st':Store) (Q:VK),Rl K ρ H st->cn K ρ H xs as->g as st=some (b,st')->(∀v H' ρ',Mn K ρ H ρ' H'->Rl K ρ' H' st'->Rp K ρ' H' v b->Q v H')->r xs H Q
abbrev xM(K:Zfr)(T:String)(r:V->List V->Hp->VK->Prop)(g:D->List D->Dm D):Prop :=
 ∀(ρ:List Addr) (H:Hp) (st:Store) (x:V) (xs:List V) (a:D) (as:List D) (b:D) (st':Store) (Q:VK),Rl K ρ H st->Rp K ρ H x a->cn K ρ H xs as->g a as st=some (b,st')->(∀v H' ρ',Mn K ρ H ρ' H'->Rl K ρ' H' st'->Rp K ρ' H' v b->Q v H')->r x xs H Q
abbrev bnd{α β:Type}(m:Option (α×Store))(k:α->Dm β):Option (β×Store):=match m with
 |some (a,st)=>k a st
 |none=>none
def cm{α β:Type}{m:Option (α×Store)}{k:α->Dm β}{r:β×Store}(h:bnd m k=some r):∃a st,m=some (a,st)/\k a st=some r:=by
 cases m with
 |none=>cases h
 |some p=>exact⟨p.1,p.2,rfl,h⟩
section
variable {K:Zfr}
abbrev ag(i:Nat):aj->Dm D:=λδ st=>match δ[i]? with
 |some (some d)=>some (d,st)
 |_=>none
def ai(i:Nat):dR K (tu i) (ag i):=by
 intro ρ σ H δ st b st' Q l rs e q;unfold ag at e;split at e
 ·next d hd=>cases e;obtain⟨v,ev,r⟩:=rs.2 i _ hd;exact⟨v,ev,q v H ρ .refl l r⟩
 ·cases e
abbrev fC(d:D):aj->Dm D:=λ_ st=>some (d,st)
def sD{v:V}{d:D}(h:∀ρ H,Rp K ρ H v d):dR K (tC v) (fC d):=by intro ρ σ H δ st b st' Q l rs e q;cases e;exact q v H ρ .refl l (h ρ H)
def aQ(i:Int):dR K (tC (.int i)) (fC (.int i)):=sD λ_ _=>.int i
def sW(b:Bool):dR K (tC (.bl b)) (fC (.bl b)):=sD λ_ _=>.bl b
def pI(x:Str):dR K (tC (.str x)) (fC (.str x)):=sD λ_ _=>.str x
def B0:dR K (tC .non) (fC .non):=sD λ_ _=>.non
def zA(n:String):dR K (tC (.ty n)) (fC (.ty n)):=sD λ_ _=>.ty n
abbrev aB(g:D->D->Dm D)(fa fb:aj->Dm D):aj->Dm D:=λδ st=>bnd (fa δ st) λa st1=>bnd (fb δ st1) λb st2=>g a b st2
def aE{r:R2}{g:D->D->Dm D}{ta tb:TE}{fa fb:aj->Dm D}(hr:mF K r g)(ha:dR K ta fa)(hb:dR K tb fb):dR K (CW r ta tb) (aB g fa fb):=by intro ρ σ H δ st b st' Q l rs e q;obtain⟨a,st1,e1,e⟩:=cm e;obtain⟨c,st2,e2,e⟩:=cm e;refine ha ρ σ H δ st a st1 _ l rs e1 λx H1 ρ1 m1 l1 r1=>hb ρ1 σ H1 δ st1 c st2 _ l1 (rs.mn m1) e2 λy H2 ρ2 m2 l2 r2=>?_;exact hr ρ2 H2 st2 x y a c b st' Q l2 (r1.mn m2) r2 e λv H3 ρ3 m3 l3 r3=>q v H3 ρ3 ((m1.trans m2).trans m3) l3 r3
abbrev vZ(g:D->Dm D)(fa:aj->Dm D):aj->Dm D:=λδ st=>bnd (fa δ st) λa st1=>g a st1
def zB{r:V->Hp->VK->Prop}{g:D->Dm D}{ta:TE}{fa:aj->Dm D}(hr:K8 K r g)(ha:dR K ta fa):dR K (MJ r ta) (vZ g fa):=by intro ρ σ H δ st b st' Q l rs e q;obtain⟨a,st1,e1,e⟩:=cm e;exact ha ρ σ H δ st a st1 _ l rs e1 λx H1 ρ1 m1 l1 r1=>hr ρ1 H1 st1 x a b st' Q l1 r1 e λv H3 ρ3 m3 l3 r3=>q v H3 ρ3 (m1.trans m3) l3 r3
abbrev ah:aj->Dm (List D):=λ_ st=>some ([],st)
abbrev ae(fa:aj->Dm D)(fr:aj->Dm (List D)):aj->Dm (List D):=λδ st=>bnd (fa δ st) λa st1=>bnd (fr δ st1) λr st2=>some (a :: r,st2)
def ax:qy K vG ah:=by intro ρ σ H δ st b st' Q l rs e q;cases e;exact q [] H ρ .refl l .nil
def ao{ta:TE}{tr:TA}{fa:aj->Dm D}{fr:aj->Dm (List D)}(ha:dR K ta fa)(hr:qy K tr fr):qy K (n5 ta tr) (ae fa fr):=by intro ρ σ H δ st b st' Q l rs e q;obtain⟨a,st1,e1,e⟩:=cm e;obtain⟨c,st2,e2,e⟩:=cm e;cases e;exact ha ρ σ H δ st a st1 _ l rs e1 λx H1 ρ1 m1 l1 r1=>hr ρ1 σ H1 δ st1 c _ _ l1 (rs.mn m1) e2 λy H2 ρ2 m2 l2 r2=>q _ H2 ρ2 (m1.trans m2) l2 (.cons (r1.mn m2) r2)
abbrev lim(n:Nat):Bool:=Nat.ble n 100000
def Ed{n:Nat}(h:lim n=true):n<=sizeLine:=Z3 (Zbr h) ∅
def K9{n:Nat}(h:lim n=true):n<sizeLine:=Zav (Zbr h) ∅
abbrev bS(fa:aj->Dm (List D)):aj->Dm D:=λδ st=>bnd (fa δ st) λas st1=>if lim as.length=true then some (.tup as,st1)else none
def jH{ta:TA}{fa:aj->Dm (List D)}(ha:qy K ta fa):dR K (vH ta) (bS fa):=by
 intro ρ σ H δ st b st' Q l rs e q;obtain⟨as,st1,e1,e⟩:=cm e;split at e
 ·next hl =>
  cases e;refine ha ρ σ H δ st as _ _ l rs e1 λxs H1 ρ1 m1 l1 r1=>⟨by rw[r1.length];exact Ed hl,λp hp=>?_⟩;have m2:Mn K ρ1 H1 ρ1 (upd H1 p (.tup xs)):=Mn.same (fH.up hp);exact q _ _ ρ1 (m1.trans m2) (l1.same (fH.up hp)) (.tup (d9.of mK) (r1.mn m2))
 ·cases e
abbrev cG(fa:aj->Dm (List D)):aj->Dm D:=λδ st=>bnd (fa δ st) λas st1=>if lim as.length=true then some (.ref st1.length,st1 ++ [.lst as])else none
def kH{ta:TA}{fa:aj->Dm (List D)}(ha:qy K ta fa):dR K (C3 ta) (cG fa):=by
 intro ρ σ H δ st b st' Q l rs e q;obtain⟨as,st1,e1,e⟩:=cm e;split at e
 ·next hl =>
  cases e;refine ha ρ σ H δ st as _ _ l rs e1 λxs H1 ρ1 m1 l1 r1=>⟨by rw[r1.length];exact Ed hl,λp hp=>?_⟩;exact q _ _ _ (m1.trans (Mn.new hp)) (l1.newL hp r1) (.ref (newR l1))
 ·cases e
abbrev aA(fa:aj->Dm D):aj->Dm Bool:=λδ st=>bnd (fa δ st) λa st1=>match a with
 |.bl b=>some (b,st1)
 |_=>none
def dW{ta:TE}{fa:aj->Dm D}(ha:dR K ta fa):pS K (tI ta) (aA fa):=by intro ρ σ H δ st b st' Q l rs e q;obtain⟨a,st1,e1,e⟩:=cm e;cases a<;>simp at e;obtain⟨rfl,rfl⟩:=e;refine ha ρ σ H δ st _ _ _ l rs e1 λx H1 ρ1 m1 l1 r1=>?_;cases r1;exact⟨_,rfl,q _ H1 ρ1 m1 l1 rfl⟩
def va{ta:TE}{fa:aj->Dm D}(ha:dR K ta fa):pS K (tB ta) (aA fa):=dW ha
abbrev kU(fa:aj->Dm Bool):aj->Dm Bool:=λδ st=>bnd (fa δ st) λa st1=>some (!a,st1)
def wb{ta:TT}{fa:aj->Dm Bool}(ha:pS K ta fa):pS K (CI ta) (kU fa):=by intro ρ σ H δ st b st' Q l rs e q;obtain⟨a,st1,e1,e⟩:=cm e;cases e;exact ha ρ σ H δ st _ _ _ l rs e1 λx H1 ρ1 m1 l1 r1=>q _ H1 ρ1 m1 l1 (by rw[r1])
abbrev qN(fa fb:aj->Dm Bool):aj->Dm Bool:=λδ st=>bnd (fa δ st) λa st1=>if a=true then fb δ st1 else some (false,st1)
abbrev pT(fa fb:aj->Dm Bool):aj->Dm Bool:=λδ st=>bnd (fa δ st) λa st1=>if a=true then some (true,st1)else fb δ st1
def Hz{ta tb:TT}{fa fb:aj->Dm Bool}(ha:pS K ta fa)(hb:pS K tb fb):pS K (CH ta tb) (qN fa fb):=by
 intro ρ σ H δ st b st' Q l rs e q;obtain⟨a,st1,e1,e⟩:=cm e;refine ha ρ σ H δ st _ _ _ l rs e1 λx H1 ρ1 m1 l1 r1=>?_;subst r1;cases x with
 |true =>
  refine oP ?_;rw[if_pos rfl]at e;exact hb ρ1 σ H1 δ st1 b st' _ l1 (rs.mn m1) e λy H2 ρ2 m2 l2 r2=>q y H2 ρ2 (m1.trans m2) l2 r2
 |false =>
  refine oO ?_;rw[if_neg ZC]at e;cases e;exact q _ H1 ρ1 m1 l1 rfl
def vd{ta tb:TT}{fa fb:aj->Dm Bool}(ha:pS K ta fa)(hb:pS K tb fb):pS K (Mz ta tb) (pT fa fb):=by
 intro ρ σ H δ st b st' Q l rs e q;obtain⟨a,st1,e1,e⟩:=cm e;refine ha ρ σ H δ st _ _ _ l rs e1 λx H1 ρ1 m1 l1 r1=>?_;subst r1;cases x with
 |false =>
  refine oO ?_;rw[if_neg ZC]at e;exact hb ρ1 σ H1 δ st1 b st' _ l1 (rs.mn m1) e λy H2 ρ2 m2 l2 r2=>q y H2 ρ2 (m1.trans m2) l2 r2
 |true =>
  refine oP ?_;rw[if_pos rfl]at e;cases e;exact q _ H1 ρ1 m1 l1 rfl
abbrev pV(fa fb:aj->Dm D):aj->Dm D:=λδ st=>bnd (aA fa δ st) λa st1=>if a=true then fb δ st1 else some (.bl false,st1)
abbrev Ee(fa fb:aj->Dm D):aj->Dm D:=λδ st=>bnd (aA fa δ st) λa st1=>if a=true then some (.bl true,st1)else fb δ st1
abbrev pW(fa:aj->Dm D):aj->Dm D:=λδ st=>bnd (aA fa δ st) λa st1=>some (.bl (!a),st1)
def O3{fa:aj->Dm D}{δ:aj}{st st1:Store}{b:Bool}(h:aA fa δ st=some (b,st1)):fa δ st=some (.bl b,st1):=by obtain⟨a,st2,e1,e⟩:=cm h;cases a<;>simp at e;obtain⟨rfl,rfl⟩:=e;exact e1
def U7{ta tb:TE}{fa fb:aj->Dm D}(ha:dR K ta fa)(hb:dR K tb fb):dR K (wR ta tb) (pV fa fb):=by
 intro ρ σ H δ st b st' Q l rs e q;obtain⟨a,st1,e1,e⟩:=cm e;refine ha ρ σ H δ st _ _ _ l rs (O3 e1) λx H1 ρ1 m1 l1 r1=>?_;cases r1;refine⟨a,rfl,?_⟩;cases a with
 |true =>
  refine oP ?_;rw[if_pos rfl]at e;exact hb ρ1 σ H1 δ st1 b st' _ l1 (rs.mn m1) e λy H2 ρ2 m2 l2 r2=>q y H2 ρ2 (m1.trans m2) l2 r2
 |false =>
  refine oO ?_;rw[if_neg ZC]at e;cases e;exact q _ H1 ρ1 m1 l1 (.bl _)
def U8{ta:TE}{fa:aj->Dm D}(ha:dR K ta fa):dR K (wU ta) (pW fa):=by intro ρ σ H δ st b st' Q l rs e q;obtain⟨a,st1,e1,e⟩:=cm e;cases e;refine ha ρ σ H δ st _ _ _ l rs (O3 e1) λx H1 ρ1 m1 l1 r1=>?_;cases r1;exact⟨a,rfl,q _ H1 ρ1 m1 l1 (.bl _)⟩
abbrev dN{β:Type}(c:aj->Dm Bool)(fa fb:aj->Dm β):aj->Dm β:=λδ st=>bnd (c δ st) λa st1=>if a=true then fa δ st1 else fb δ st1
abbrev lG:aj->Dm (Option Int):=λ_ st=>some (none,st)
abbrev mq(fa:aj->Dm D):aj->Dm (Option Int):=λδ st=>bnd (fa δ st) λa st1=>match a with
 |.int i=>some (some i,st1)
 |_=>none
def La:Hy K rn lG:=by intro ρ σ H δ st b st' Q l rs e q;cases e;exact q _ H ρ .refl l rfl
def Ef{ta:TE}{fa:aj->Dm D}(ha:dR K ta fa):Hy K (xg ta) (mq fa):=by intro ρ σ H δ st b st' Q l rs e q;obtain⟨a,st1,e1,e⟩:=cm e;cases a<;>simp at e;obtain⟨rfl,rfl⟩:=e;refine ha ρ σ H δ st _ _ _ l rs e1 λx H1 ρ1 m1 l1 r1=>?_;cases r1;exact⟨_,rfl,q _ H1 ρ1 m1 l1 rfl⟩
abbrev zC(K:Zfr)(r:V->Option Int->Option Int->Hp->VK->Prop)(g:D->Option Int->Option Int->Dm D):Prop :=
 ∀lo hi,K8 K (λx=>r x lo hi) (λa=>g a lo hi)
abbrev zD(g:D->Option Int->Option Int->Dm D)(fa:aj->Dm D)(fl fh:aj->Dm (Option Int)):aj->Dm D:=λδ st=>bnd (fa δ st) λa st1=>bnd (fl δ st1) λlo st2=>bnd (fh δ st2) λhi st3=>g a lo hi st3
def HA{r:V->Option Int->Option Int->Hp->VK->Prop}{g:D->Option Int->Option Int->Dm D}{ta:TE}{tl th:TO}{fa:aj->Dm D}{fl fh:aj->Dm (Option Int)}(hr:zC K r g)(ha:dR K ta fa)(hl:Hy K tl fl)(hh:Hy K th fh):dR K (M5 r ta tl th) (zD g fa fl fh):=by intro ρ σ H δ st b st' Q l rs e q;obtain⟨a,st1,e1,e⟩:=cm e;obtain⟨lo,st2,e2,e⟩:=cm e;obtain⟨hi,st3,e3,e⟩:=cm e;refine ha ρ σ H δ st a st1 _ l rs e1 λx H1 ρ1 m1 l1 r1=>hl ρ1 σ H1 δ st1 lo st2 _ l1 (rs.mn m1) e2 λy H2 ρ2 m2 l2 r2=>hh ρ2 σ H2 δ st2 hi st3 _ l2 (rs.mn (m1.trans m2)) e3 λz H3 ρ3 m3 l3 r3=>?_;subst r2 r3;exact hr y z ρ3 H3 st3 x a b st' Q l3 (r1.mn (m2.trans m3)) e λv H4 ρ4 m4 l4 r4=>q v H4 ρ4 (((m1.trans m2).trans m3).trans m4) l4 r4
abbrev aM(g:List D->Dm D)(fa:aj->Dm (List D)):aj->Dm D:=λδ st=>bnd (fa δ st) λas st1=>g as st1
def bM{r:List V->Hp->VK->Prop}{g:List D->Dm D}{ta:TA}{fa:aj->Dm (List D)}(hr:rQ K r g)(ha:qy K ta fa):dR K (JI r ta) (aM g fa):=by intro ρ σ H δ st b st' Q l rs e q;obtain⟨as,st1,e1,e⟩:=cm e;exact ha ρ σ H δ st as st1 _ l rs e1 λx H1 ρ1 m1 l1 r1=>hr ρ1 H1 st1 x as b st' Q l1 r1 e λv H3 ρ3 m3 l3 r3=>q v H3 ρ3 (m1.trans m3) l3 r3
abbrev cu(K:Zfr)(n:Nat)(F:List D->Dm D):Sp:=λvs H Q _=>vs.length=n/\∃(ρ:List Addr) (st:Store) (ds:List D) (b:D) (st':Store),Rl K ρ H st/\cn K ρ H vs ds/\F ds st=some (b,st') /\
 ∀v H' ρ',Mn K ρ H ρ' H'->Rl K ρ' H' st'->Rp K ρ' H' v b->Q v H'
def cB{n:Nat}{F:List D->Dm D}{ta:TA}{fa:aj->Dm (List D)}{E:XK}(ha:qy K ta fa)(hn:∀δ st as st',fa δ st=some (as,st')->as.length=n):dR K (rj (cu K n F) [] E ta) (aM F fa):=by intro ρ σ H δ st b st' Q l rs e q;obtain⟨as,st1,e1,e⟩:=cm e;refine ha ρ σ H δ st as st1 _ l rs e1 λvs H1 ρ1 m1 l1 r1=>⟨?_,ρ1,st1,as,b,st',l1,?_,e,λv H3 ρ3 m3 l3 r3=>q v H3 ρ3 (m1.trans m3) l3 r3⟩;rw[Zad,r1.length];exact hn _ _ _ _ e1;rw[Zad];exact r1
def U9{δ:aj}{st st':Store}{as:List D}(h:ah δ st=some (as,st')):as.length=0:=by cases h;rfl
def Eg{fa:aj->Dm D}{fr:aj->Dm (List D)}{n:Nat}(hr:∀δ st as st',fr δ st=some (as,st')->as.length=n):∀δ st as st',ae fa fr δ st=some (as,st')->as.length=n+1:=λδ st as st' h=>by
 obtain⟨a,st1,e1,e⟩:=cm h;obtain⟨c,st2,e2,e⟩:=cm e;cases e;rw[Z2,hr _ _ _ _ e2]
end
end L4
namespace L4
open PySem PySem.Spec L2
section
variable {K:Zfr}
abbrev xN(h:Int->Int->D):D->D->Dm D
 |.int i,.int j,st=>some (h i j,st)
 |_,_,_=>none
def Eh{gv:Int->Int->V}{h:Int->Int->D}(hh:∀i j ρ H,Rp K ρ H (gv i j) (h i j)):mF K (si gv) (xN h):=by intro ρ H st x y a c b st' Q l rx ry e q;unfold xN at e;split at e;cases e;cases rx;cases ry;exact⟨_,_,rfl,rfl,q _ H ρ .refl l (hh _ _ ρ H)⟩;cases e
abbrev zE(c:Int->Int->Bool)(h:Int->Int->D):D->D->Dm D
 |.int i,.int j,st=>if c i j=true then some (h i j,st)else none
 |_,_,_=>none
def HB{C:Int->Int->Prop}{c:Int->Int->Bool}{gv:Int->Int->V}{h:Int->Int->D}(hc:∀i j,c i j=true->C i j)(hh:∀i j ρ H,Rp K ρ H (gv i j) (h i j)):mF K (rI C gv) (zE c h):=by
 intro ρ H st x y a d b st' Q l rx ry e q;unfold zE at e;split at e
 ·split at e
  ·next hcc=>cases e;cases rx;cases ry;exact⟨_,_,rfl,rfl,hc _ _ hcc,q _ H ρ .refl l (hh _ _ ρ H)⟩
  ·cases e
 ·cases e
abbrev gj:D->D->Dm D:=xN λi j=>.int (i+j)
abbrev mz:D->D->Dm D:=xN λi j=>.int (i-j)
abbrev nh:D->D->Dm D:=zE (λi j=>decide (-18446744073709551616<i/\i<18446744073709551616) || decide (-18446744073709551616<j/\j<18446744073709551616)) λi j=>.int (i*j)
abbrev om:D->D->Dm D:=zE (λi j=>decide (0<j/\j<1073741824)) λi j=>.int (i / j)
abbrev jS:D->D->Dm D:=zE (λi j=>decide (0<j)) λi j=>.int (i % j)
abbrev ur:D->D->Dm D:=zE (λi j=>decide (0<=j/\j<=1000000/\i.natAbs<18446744073709551616)) λi j=>.int (i ^ j.toNat)
abbrev ve:D->D->Dm D:=xN λi j=>.bl (decide (i<j))
abbrev Va:D->D->Dm D:=xN λi j=>.bl (decide (i<=j))
abbrev sE:D->D->Dm D:=xN λi j=>.bl (decide (j<i))
abbrev Lb:D->D->Dm D:=xN λi j=>.bl (decide (j<=i))
def nP:mF K (si λi j=>.int (i+j)) gj:=Eh λ_ _ _ _=>.int _
def B1:mF K (si λi j=>.int (i-j)) mz:=Eh λ_ _ _ _=>.int _
def xO:mF K (rI vF λi j=>.int (i*j)) nh:=HB (λi j h=>by
 rw[Zbj,decide_eq_true_eq,decide_eq_true_eq]at h
 exact h) λ_ _ _ _=>.int _
def Lc:mF K (rI CZ λi j=>.int (i / j)) om:=HB (λi j h=>of_decide_eq_true (p:=0<j/\j<1073741824) h) λ_ _ _ _=>.int _
def sF:mF K (rI (λ_ j=>0<j) λi j=>.int (i % j)) jS:=HB (λi j h=>of_decide_eq_true h) λ_ _ _ _=>.int _
def O4:mF K (rI C1 λi j=>.int (i ^ j.toNat)) ur:=HB (λi j h=>by have h:=of_decide_eq_true (p:=0<=j/\j<=1000000/\i.natAbs<18446744073709551616) h;exact⟨h.1,h.2.1,by lk⟩) λ_ _ _ _=>.int _
def xP:mF K (si λi j=>.bl (decide (i<j))) ve:=Eh λ_ _ _ _=>.bl _
def vf:mF K (si λi j=>.bl (decide (j<i))) sE:=Eh λ_ _ _ _=>.bl _
def Ei:mF K (si λi j=>.bl (decide (j<=i))) Lb:=Eh λ_ _ _ _=>.bl _
abbrev nQ:D->Dm D
 |.int i,st=>some (.int (-i),st)
 |_,_=>none
def zF:K8 K (rU λi=>.int (-i)) nQ:=by intro ρ H st x a b st' Q l rx e q;unfold nQ at e;split at e;cases e;cases rx;exact⟨_,rfl,q _ H ρ .refl l (.int _)⟩;cases e
abbrev sV:D->Option V
 |.non=>some .non
 |.bl b=>some (.bl b)
 |.int i=>some (.int i)
 |.str x=>some (.str x)
 |_=>none
def B2{ρ:List Addr}{H:Hp}{x v:V}{a:D}(r:Rp K ρ H x a)(h:sV a=some v):x=v:=by cases r<;>first|(cases h;rfl)|cases h
abbrev kI(neg:Bool):D->D->Dm D:=λa b st=>match sV a,sV b with
 |some x,some y=>if qE x y=true then some (.bl (if neg then !decide (x=y)else decide (x=y)),st)else none
 |_,_=>none
def rR:mF K ML (kI false):=by
 intro ρ H st x y a c b st' Q l rx ry e q;unfold kI at e;split at e
 ·next u v h1 h2 =>
  split at e
  ·next hs=>cases e;cases B2 rx h1;cases B2 ry h2;exact⟨hs,q _ H ρ .refl l (.bl _)⟩
  ·cases e
 ·cases e
def zG:mF K MN (kI true):=by
 intro ρ H st x y a c b st' Q l rx ry e q;unfold kI at e;split at e
 ·next u v h1 h2 =>
  split at e
  ·next hs=>cases e;cases B2 rx h1;cases B2 ry h2;exact⟨hs,q _ H ρ .refl l (.bl _)⟩
  ·cases e
 ·cases e
abbrev bH{α β:Type}(f:α->Option β):List α->Option (List β)
 |[]=>some []
 |a :: r=>match f a,bH f r with
  |some b,some s=>some (b :: s)
  |_,_=>none
def vg{α β:Type}{f:α->Option β}{a:α}{r:List α}{s:List β}(h:bH f (a :: r)=some s):∃b t,f a=some b/\bH f r=some t/\s=b :: t:=by
 unfold bH at h;split at h
 ·next b t h1 h2=>cases h;exact⟨b,t,h1,h2,rfl⟩
 ·cases h
def uu{α β γ:Type}{f:α->Option β}{g:γ->α}{k:γ->β}(h:∀c,f (g c)=some (k c)):∀l:List γ,bH f (l.map g)=some (l.map k)
 |[]=>rfl
 |c :: r=>by
  show bH f (g c :: r.map g)=_;unfold bH;rw[h c,uu h r];rfl
abbrev cW(st:Store):Nat->D->Option PyData
 |0,_=>none
 |_+1,.non=>some .none
 |_+1,.bl b=>some (.bool b)
 |_+1,.int i=>some (.int i)
 |_+1,.str x=>some (.str x)
 |_+1,.ty _=>none
 |n+1,.tup ds=>(bH (cW st n) ds).map PyData.tuple
 |n+1,.ref i=>match items st i with
  |some ds=>(bH (cW st n) ds).map PyData.list
  |none=>none
def B3{ρ:List Addr}{H:Hp}{st:Store}(l:Rl K ρ H st):∀(n:Nat) {v:V} {d:D} {p:PyData},Rp K ρ H v d->cW st n d=some p->Rep K H v p
 |0,_,_,_,_,h=>by simp[cW]at h
 |n+1,v,d,p,r,h=>by
  have all:∀{vs:List V} {ds:List D} {ps:List PyData},cn K ρ H vs ds->bH (cW st n) ds=some ps->fD K H vs ps:=by
   intro vs ds ps rr
   induction vs generalizing ds ps with
   |nil=>intro hm;cases rr;cases hm;exact .nil
   |cons w ws ih =>
    intro hm;cases rr with
    |cons ra rb =>
     obtain⟨b,t,h1,h2,rfl⟩:=vg hm;exact .cons (B3 l n ra h1) (ih rb h2)
  cases r with
  |non=>simp[cW]at h;subst h;exact .non
  |bl b=>simp[cW]at h;subst h;exact .bl b
  |int i=>simp[cW]at h;subst h;exact .int i
  |str x=>simp[cW]at h;subst h;exact .str x
  |ty n=>simp[cW]at h
  |ref hi =>
   simp only[cW]at h;split at h
   ·next ds hd =>
    obtain⟨ps,h1,rfl⟩:=Z4.mp h;obtain⟨vs,e,rr⟩:=l.items hi hd;exact .lst e (all rr h1)
   ·cases h
  |tup q rr =>
   simp only[cW]at h;obtain⟨ps,h1,rfl⟩:=Z4.mp h;exact .tup q (all rr h1)
abbrev gO(neg:Bool):D->D->Dm D:=λa b st=>match cW st 20 a,cW st 20 b with
 |some p,some q=>if(PyData.canLay0 p && PyData.canLay0 q && decide (min p.depth q.depth<=60))=true then some (.bl (if neg then !PyData.eqv p q else PyData.eqv p q),st)else none
 |_,_=>none
def xQ(neg:Bool):mF K (yW K neg) (gO neg):=by
 intro ρ H st x y a c b st' Q l rx ry e q;unfold gO at e;split at e
 ·next u v h1 h2 =>
  split at e
  ·next hs =>
   cases e;rw[ZV,ZV,decide_eq_true_eq]at hs;exact⟨u,v,B3 l 20 rx h1,B3 l 20 ry h2,hs.1.1,hs.1.2,hs.2,q _ H ρ .refl l (.bl _)⟩
  ·cases e
 ·cases e
def at_of{ρ:List Addr}{H:Hp}{vs:List V}{ds:List D}{i:Int}{d:D}(r:cn K ρ H vs ds)(h:fB ds i=some d):∃v,fB vs i=some v/\Rp K ρ H v d:=by
 unfold fB at h ⊢;rw[r.length];cases hx:mO ds.length i with
 |none=>rw[hx]at h;cases h
 |some j =>
  rw[hx]at h;exact r.got h
abbrev aN:D->D->Dm D
 |.tup ds,.int i,st=>match fB ds i with
  |some d=>some (d,st)
  |none=>none
 |_,_,_=>none
def cX:mF K (yN K) aN:=by
 intro ρ H st x y a c b st' Q l rx ry e q;unfold aN at e;split at e
 ·split at e
  ·next d hd =>
   cases e;cases ry;cases rx with
   |tup s r =>
    obtain⟨v,hv,rv⟩:=at_of r hd;exact⟨_,_,_,v,rfl,rfl,s,hv,q v H ρ .refl l rv⟩
  ·cases e
 ·cases e
abbrev bW:D->D->Dm D
 |.ref r,.int i,st=>match items st r with
  |some ds=>match fB ds i with
   |some d=>some (d,st)
   |none=>none
  |none=>none
 |_,_,_=>none
def iW:mF K (yM K) bW:=by
 intro ρ H st x y a c b st' Q l rx ry e q;unfold bW at e;split at e
 ·split at e
  ·next ds hi =>
   split at e
   ·next d hd =>
    cases e;cases ry;cases rx with
    |ref hr =>
     obtain⟨vs,s,r⟩:=l.items hr hi;obtain⟨v,hv,rv⟩:=at_of r hd;exact⟨_,_,_,v,rfl,rfl,s,hv,q v H ρ .refl l rv⟩
   ·cases e
  ·cases e
 ·cases e
abbrev zH:D->D->Dm D
 | .str z,.int i,st=>if lim z.length=true then match fB z.cps.toList i with
   |some c=>some (.str ⟨#[c]⟩,st)
   |none=>none
  else none
 |_,_,_=>none
abbrev cutD(xs:List D)(lo hi:Option Int):List D:=(xs.drop (HT.cF xs.length 0 lo)).take (HT.cF xs.length xs.length hi-HT.cF xs.length 0 lo)
def cn.cut{ρ:List Addr}{H:Hp}{vs:List V}{ds:List D}(r:cn K ρ H vs ds)(lo hi:Option Int):cn K ρ H (m8 vs lo hi) (cutD ds lo hi):=by unfold m8 cutD;rw[r.length];exact(r.drop _).take _
abbrev zI:D->Option Int->Option Int->Dm D
 |.tup ds,lo,hi,st=>some (.tup (cutD ds lo hi),st)
 |_,_,_,_=>none
def got{ρ:List Addr}{H:Hp}{st:Store}{vs:List V}{ds:List D}{Q:VK}(l:Rl K ρ H st)(r:cn K ρ H vs ds)(q:∀v H' ρ',Mn K ρ H ρ' H'->Rl K ρ' H' st->Rp K ρ' H' v (.tup ds)->Q v H'):qH K H vs Q :=
 λp H' s e=>q _ H' ρ (Mn.same e) (l.same e) (.tup s (r.mn (Mn.same e)))
def zJ:zC K (xr K) zI:=by
 intro lo hi ρ H st x a b st' Q l rx e q;cases a with
 |tup ds =>
  cases e;cases rx with
  |tup s r=>exact⟨_,_,rfl,s,got l (r.cut lo hi) q⟩
 |_=>cases e
abbrev sG:D->Option Int->Option Int->Dm D
 |.ref r,lo,hi,st=>match items st r with
  |some ds=>some (.ref st.length,st ++ [.lst (cutD ds lo hi)])
  |none=>none
 |_,_,_,_=>none
def Ld:zC K (C9 K) sG:=by
 intro lo hi ρ H st x a b st' Q l rx e q;cases a with
 |ref i =>
  simp only[sG]at e;split at e
  ·next ds hd =>
   cases e;cases rx with
   |ref hr =>
    obtain⟨vs,s,r⟩:=l.items hr hd;exact⟨_,_,rfl,s,λp hp=>q _ _ _ (Mn.new hp) (l.newL hp (r.cut lo hi)) (.ref (newR l))⟩
  ·cases e
 |_=>cases e
abbrev lH:D->D->Dm D
 |.tup a,.tup b,st=>if lim (a.length+b.length)=true then some (.tup (a ++ b),st)else none
 |_,_,_=>none
def Ej:mF K (tQ K) lH:=by
 intro ρ H st x y a c b st' Q l rx ry e q;unfold lH at e;split at e
 ·split at e
  ·next hl =>
   cases e;cases rx with
   |tup s r =>
    cases ry with
    |tup s' r'=>exact⟨_,_,_,_,rfl,rfl,s,s',by rw[r.length,r'.length];exact Ed hl,got l (r.append r') q⟩
  ·cases e
 ·cases e
abbrev own(st:Store)(i:Nat):Option (List D):=match st[i]? with
 |some (.lst ds)=>some ds
 |_=>none
def sH{st:Store}{i:Nat}{ds:List D}(h:own st i=some ds):st[i]?=some (.lst ds):=by
 unfold own at h;split at h
 ·next ds' hs=>cases h;exact hs
 ·cases h
abbrev nR:D->D->Dm D
 |.ref i,.ref j,st=>match own st i,own st j with
  |some a,some b=>if lim (a.length+b.length)=true then some (.ref st.length,st ++ [.lst (a ++ b)])else none
  |_,_=>none
 |_,_,_=>none
def zK:mF K Df nR:=by
 intro ρ H st x y a c b st' Q l rx ry e q;unfold nR at e;split at e
 ·split at e
  ·next a b h1 h2 =>
   split at e
   ·next hl =>
    cases e;cases rx with
    |ref hi =>
     cases ry with
     |ref hj =>
      obtain⟨vs,e1,r1⟩:=l.obj _ _ _ hi (sH h1);obtain⟨ws,e2,r2⟩:=l.obj _ _ _ hj (sH h2);exact⟨_,_,_,_,rfl,rfl,e1,e2,by rw[r1.length,r2.length];exact Ed hl,λp hp=>q _ _ _ (Mn.new hp) (l.newL hp (r1.append r2)) (.ref (newR l))⟩
   ·cases e
  ·cases e
 ·cases e
abbrev uv:D->D->Dm D
 |.ref i,.int k,st=>match own st i with
  |some a=>if(decide (-9223372036854775808<=k/\k<9223372036854775808) && lim (a.length*k.toNat))=true then some (.ref st.length,st ++ [.lst (List.replicate k.toNat a).flatten])else none
  |_=>none
 |_,_,_=>none
def O5{ρ:List Addr}{H:Hp}:∀{ws vs:List V} {ds:List D},cn K ρ H ws ds->bH sV ds=some vs->ws=vs
 |_,_,_,.nil,h=>by cases h;rfl
 |_,_,_,.cons a b,h=>by
  obtain⟨x,t,h1,h2,rfl⟩:=vg h;rw[B2 a h1,O5 b h2]
def O6{a:D}{v:V}(h:sV a=some v):kN v=true:=by cases a<;>first|(cases h;rfl)|cases h
def O7:∀{ds:List D} {vs:List V},bH sV ds=some vs->vs.all kN=true
 |[],_,h=>by cases h;rfl
 |d :: r,_,h=>by
  obtain⟨x,t,h1,h2,rfl⟩:=vg h;rw[List.all_cons,O6 h1,O7 h2];rfl
abbrev cD(st:Store):D->Option (List D)
 |.tup ds=>some ds
 |.ref i=>items st i
 |_=>none
def Ek{ρ:List Addr}{H:Hp}{st:Store}{x:V}{a:D}{ds:List D}(l:Rl K ρ H st)(r:Rp K ρ H x a)(h:cD st a=some ds):∃p vs,x=.ref p/\(jM K H p vs\/d9 K H p vs)/\cn K ρ H vs ds:=by
 cases r<;>first|(cases h;done)|skip
 ·next hi=>obtain⟨vs,s,r⟩:=l.items hi h;exact⟨_,vs,rfl,.inl s,r⟩
 ·next s r=>cases h;exact⟨_,_,rfl,.inr s,r⟩
abbrev sX(neg:Bool):D->D->Dm D:=λa c st=>match sV a,(cD st c).bind (bH sV)with
 |some x,some vs=>some (.bl (if neg then !xk x vs else xk x vs),st)
 |_,_=>none
def El(neg:Bool):mF K (JT K neg) (sX neg):=by
 intro ρ H st x y a c b st' Q l rx ry e q;unfold sX at e;split at e
 ·next u vs h1 h2 =>
  cases e;obtain⟨ds,h3,h4⟩:=Zal.mp h2;obtain⟨p,ws,rfl,s,r⟩:=Ek l ry h3;cases B2 rx h1;cases O5 r h4;exact⟨p,_,rfl,s,O6 h1,O7 h4,q _ H ρ .refl l (.bl _)⟩
 ·cases e
def cn.one'{ρ:List Addr}{H:Hp}{vs:List V}{d:D}(r:cn K ρ H vs [d]):∃v,vs=[v]/\Rp K ρ H v d:=by cases r with|cons a b=>cases b;exact⟨_,rfl,a⟩
def cn.two'{ρ:List Addr}{H:Hp}{vs:List V}{d e:D}(r:cn K ρ H vs [d,e]):∃v w,vs=[v,w]/\Rp K ρ H v d/\Rp K ρ H w e:=by
 cases r with
 |cons a b=>obtain⟨w,rfl,r⟩:=b.one';exact⟨_,_,rfl,a,r⟩
abbrev b7:List D->Dm D
 |[a],st=>match cD st a with
  |some ds=>some (.int ds.length,st)
  |none=>none
 |_,_=>none
def jI:rQ K (λxs H Q=>∃p ys,xs=[.ref p]/\(jM K H p ys\/d9 K H p ys)/\Q (.int ys.length) H) b7:=by
 intro ρ H st xs as b st' Q l rx e q;unfold b7 at e;split at e
 ·split at e
  ·next ds hd =>
   cases e;obtain⟨v,rfl,r⟩:=rx.one';obtain⟨p,vs,rfl,s,r⟩:=Ek l r hd;exact⟨p,vs,rfl,s,q _ H ρ .refl l (by rw[r.length];exact .int _)⟩
  ·cases e
 ·cases e
abbrev oo:List D->Dm D
 |[a],st=>match cD st a with
  |some ds=>some (.ref st.length,st ++ [.lst ds])
  |none=>none
 |_,_=>none
def Le:rQ K (λxs H Q=>∃p ys,xs=[.ref p]/\(jM K H p ys\/d9 K H p ys)/\∀l,H l=none->Q (.ref l) (upd H l (.lst ys))) oo:=by
 intro ρ H st xs as b st' Q l rx e q;unfold oo at e;split at e
 ·split at e
  ·next ds hd =>
   cases e;obtain⟨v,rfl,r⟩:=rx.one';obtain⟨p,vs,rfl,s,r⟩:=Ek l r hd;exact⟨p,vs,rfl,s,λp hp=>q _ _ _ (Mn.new hp) (l.newL hp r) (.ref (newR l))⟩
  ·cases e
 ·cases e
abbrev bN:List D->Dm D
 |[a],st=>match cD st a with
  |some ds=>some (.tup ds,st)
  |none=>none
 |_,_=>none
def nS:rQ K (λxs H Q=>∃p ys,xs=[.ref p]/\((jM K H p ys/\∀l,H l=none->Q (.ref l) (upd H l (.tup ys)))\/(d9 K H p ys/\Q (.ref p) H))) bN:=by
 intro ρ H st xs as b st' Q l rx e q;unfold bN at e;split at e
 ·split at e
  ·next ds hd =>
   cases e;obtain⟨v,rfl,r⟩:=rx.one';obtain⟨p,vs,rfl,s,r'⟩:=Ek l r hd;refine⟨p,vs,rfl,?_⟩;rcases s with s|s
   ·exact .inl ⟨s,(got l r' q).new⟩
   ·exact .inr ⟨s,(got l r' q).it s⟩
  ·cases e
 ·cases e
abbrev ot:List D->Dm D
 |[.int i,.int j],st=>some (.int (if j > i then j else i),st)
 |_,_=>none
abbrev rS:List D->Dm D
 |[.int i,.int j],st=>some (.int (if j<i then j else i),st)
 |_,_=>none
def O8:rQ K (λxs H Q=>∃i j,xs=[.int i,.int j]/\Q (.int (if j > i then j else i)) H) ot:=by intro ρ H st xs as b st' Q l rx e q;unfold ot at e;split at e;cases e;obtain⟨v,w,rfl,r1,r2⟩:=rx.two';cases r1;cases r2;exact⟨_,_,rfl,q _ H ρ .refl l (.int _)⟩;cases e
def Vb:rQ K (λxs H Q=>∃i j,xs=[.int i,.int j]/\Q (.int (if j<i then j else i)) H) rS:=by intro ρ H st xs as b st' Q l rx e q;unfold rS at e;split at e;cases e;obtain⟨v,w,rfl,r1,r2⟩:=rx.two';cases r1;cases r2;exact⟨_,_,rfl,q _ H ρ .refl l (.int _)⟩;cases e
abbrev pX:List D->Dm D
 |[.int i],st=>some (.int i,st)
 |[.bl k],st=>some (.int (if k then 1 else 0),st)
 |_,_=>none
def Vc:rQ K (λxs H Q=>(∃i,xs=[.int i]/\Q (.int i) H)\/∃k,xs=[.bl k]/\Q (.int (if k then 1 else 0)) H) pX:=by intro ρ H st xs as b st' Q l rx e q;unfold pX at e;split at e;cases e;obtain⟨v,rfl,r⟩:=rx.one';cases r;exact .inl ⟨_,rfl,q _ H ρ .refl l (.int _)⟩;cases e;obtain⟨v,rfl,r⟩:=rx.one';cases r;exact .inr ⟨_,rfl,q _ H ρ .refl l (.int _)⟩;cases e
abbrev fJ:List D->Dm D
 |[.int j],st=>some (.ref st.length,st ++ [.iE 0 j])
 |_,_=>none
abbrev fK:List D->Dm D
 |[.int i,.int j],st=>some (.ref st.length,st ++ [.iE i j])
 |_,_=>none
def Em:rQ K (λxs H Q=>∃j:Int,xs=[.int j]/\∀p,H p=none->Q (.ref p) (upd H p (.iE 0 j))) fJ:=by intro ρ H st xs as b st' Q l rx e q;unfold fJ at e;split at e;cases e;obtain⟨v,rfl,r⟩:=rx.one';cases r;exact⟨_,rfl,λp hp=>q _ _ _ (Mn.new hp) (l.new hp (show xK K _ _ p (.iE _ _)from mK)) (.ref (newR l))⟩;cases e
def B4:rQ K (λxs H Q=>∃i j:Int,xs=[.int i,.int j]/\∀p,H p=none->Q (.ref p) (upd H p (.iE i j))) fK:=by intro ρ H st xs as b st' Q l rx e q;unfold fK at e;split at e;cases e;obtain⟨v,w,rfl,r1,r2⟩:=rx.two';cases r1;cases r2;exact⟨_,_,rfl,λp hp=>q _ _ _ (Mn.new hp) (l.new hp (show xK K _ _ p (.iE _ _)from mK)) (.ref (newR l))⟩;cases e
abbrev aC(lo:Int)(n:Nat):List D:=(List.range n).map λ(k:Nat)=>D.int (lo+k)
def Vd{ρ:List Addr}{H:Hp}(lo:Int)(n:Nat):cn K ρ H (fZ lo n) (aC lo n):=by
 unfold fZ aC
 induction (List.range n)with
 |nil=>exact .nil
 |cons a r ih=>exact .cons (.int _) ih
abbrev sI(lo hi:Int):Bool:=decide (-4611686018427387904<=lo/\lo<4611686018427387904/\-4611686018427387904<=hi/\hi<4611686018427387904) && lim (hi-lo).toNat
def O9{lo hi:Int}(h:sI lo hi=true):(-(2 ^ 62)<=lo/\lo<2 ^ 62/\-(2 ^ 62)<=hi/\hi<2 ^ 62)/\(hi-lo).toNat<=2 ^ 24:=by unfold sI at h;rw[ZV,decide_eq_true_eq]at h;exact⟨by lk,Z3 (Zbr h.2) ∅⟩
abbrev jJ(st:Store):D->Option (Int×Int)
 |.ref i=>match st[i]? with
  |some (.iE lo hi)=>some (lo,hi)
  |_=>none
 |_=>none
def zL{ρ:List Addr}{H:Hp}{st:Store}{x:V}{a:D}{lo hi:Int}(l:Rl K ρ H st)(r:Rp K ρ H x a)(h:jJ st a=some (lo,hi)):∃p,x=.ref p/\H p=some (.iE lo hi):=by
 cases r<;>first|(cases h;done)|skip
 ·next hi' =>
  simp only[jJ]at h;split at h
  ·next lo' Ve hs=>cases h;exact⟨_,rfl,l.obj _ _ _ hi' hs⟩
  ·cases h
abbrev dc:List D->Dm D
 |[a],st=>match jJ st a with
  |some (lo,hi)=>if sI lo hi=true then some (.ref st.length,st ++ [.lst (aC lo (hi-lo).toNat)])else none
  |none=>none
 |_,_=>none
def uw:rQ K (λxs H Q=>∃p lo hi,xs=[.ref p]/\H p=some (.iE lo hi)/\(-(2 ^ 62)<=lo/\lo<2 ^ 62/\-(2 ^ 62)<=hi/\hi<2 ^ 62)/\(hi-lo).toNat<=2 ^ 24 /\
  ∀l,H l=none->Q (.ref l) (upd H l (.lst (fZ lo (hi-lo).toNat)))) dc:=by
 intro ρ H st xs as b st' Q l rx e q;unfold dc at e;split at e
 ·split at e
  ·next lo hi hd =>
   split at e
   ·next ok =>
    cases e;obtain⟨v,rfl,r⟩:=rx.one';obtain⟨p,rfl,s⟩:=zL l r hd;exact⟨p,lo,hi,rfl,s,(O9 ok).1,(O9 ok).2,λp hp=>q _ _ _ (Mn.new hp) (l.newL hp (Vd lo _)) (.ref (newR l))⟩
   ·cases e
  ·cases e
 ·cases e
abbrev wc:List D->Dm D
 |[a],st=>match jJ st a with
  |some (lo,hi)=>if sI lo hi=true then some (.tup (aC lo (hi-lo).toNat),st)else none
  |none=>none
 |_,_=>none
abbrev iV:D->Option Int
 |.int i=>some i
 |_=>none
def HC{ρ:List Addr}{H:Hp}:∀{ws:List V} {ds:List D} {ns:List Int},cn K ρ H ws ds->bH iV ds=some ns->ws=ns.map V.int
 |_,_,_,.nil,h=>by cases h;rfl
 |_,_,_,.cons a b,h=>by
  obtain⟨x,t,h1,h2,rfl⟩:=vg h;rw[HC b h2];cases a<;>first|(cases h1;rfl)|cases h1
abbrev sortI(ns:List Int):List Int:=ns.mergeSort λa b=>decide (a<=b)
def Pa{ms ns:List Int}(p:ms.Perm ns)(s:ms.Pairwise (·<=·)):ms=sortI ns:=by
 have p2:(sortI ns).Perm ns:=Zbz _ _;have s2:(sortI ns).Pairwise (·<=·):=by
  have:=List.pairwise_mergeSort (le:=λa b:Int=>decide (a<=b)) (λa b c h1 h2=>by simp only[decide_eq_true_eq]at *;lk) (λa b=>by simp only[Zbj,decide_eq_true_eq];lk) ns;exact this.imp λh=>of_decide_eq_true h
 exact(p.trans p2.symm).eq_of_pairwise (λa b _ _ h1 h2=>Int.le_antisymm h1 h2) s s2
abbrev kc:List D->Dm D
 |[a],st=>match (cD st a).bind (bH iV)with
  |some ns=>if ns.length<64 then some (.ref st.length,st ++ [.lst ((sortI ns).map D.int)])else none
  |none=>none
 |_,_=>none
def Vg:rQ K (λxs H Q=>∃(p:Addr) (ns:List Int),xs=[.ref p]/\(jM K H p (ns.map V.int)\/d9 K H p (ns.map V.int))/\ns.length<64 /\
  ∀(l:Addr) (ms:List Int),H l=none->ms.Perm ns->ms.Pairwise (·<=·)->Q (.ref l) (upd H l (.lst (ms.map V.int)))) kc:=by
 intro ρ H st xs as b st' Q l rx e q;unfold kc at e;split at e
 ·split at e
  ·next ns hd =>
   split at e
   ·next ok =>
    cases e;obtain⟨v,rfl,r⟩:=rx.one';obtain⟨ds,h3,h4⟩:=Zal.mp hd;obtain⟨p,vs,rfl,s,r⟩:=Ek l r h3;cases HC r h4;exact⟨p,ns,rfl,s,ok,λp ms hp pm sm=>by rw[Pa pm sm];exact q _ _ _ (Mn.new hp) (l.newL hp (cn.ints _)) (.ref (newR l))⟩
   ·cases e
  ·cases e
 ·cases e
abbrev bV:D->Option Bool
 |.bl i=>some i
 |_=>none
abbrev zM:List D->Dm D
 |[.ref i],st=>match (items st i).bind (bH bV)with
  |some bs=>some (.bl (bs.all id),st)
  |none=>none
 |_,_=>none
abbrev vh(T:String)(st:Store):D->Bool
 |.str _=>T == "str"
 |.tup _=>T == "tuple"
 |.ref i=>T == "list" && (items st i).isSome
 |_=>false
def Pb{ρ:List Addr}{H:Hp}{st:Store}{x:V}{a:D}{T:String}(l:Rl K ρ H st)(r:Rp K ρ H x a)(h:vh T st a=true):G0 K T x H:=by
 cases r<;>first|(cases h;done)|skip
 ·exact eq_of_beq h
 ·next hi =>
  simp only[vh,ZV]at h;obtain⟨ds,hd⟩:=Za1.mp h.2;obtain⟨vs,s,_⟩:=l.items hi hd;exact .inl ⟨eq_of_beq h.1,vs,s⟩
 ·next s r=>exact .inr (.inl ⟨eq_of_beq h,_,s⟩)
abbrev jK(T:String)(g:D->List D->Dm D)(fo:aj->Dm D)(fa:aj->Dm (List D)):aj->Dm D:=λδ st=>bnd (fo δ st) λo st1=>if vh T st1 o=true then bnd (fa δ st1) λas st2=>g o as st2 else none
def mG{T:String}{r:V->List V->Hp->VK->Prop}{g:D->List D->Dm D}{to:TE}{ta:TA}{fo:aj->Dm D}{fa:aj->Dm (List D)}(hr:xM K T r g)(ho:dR K to fo)(ha:qy K ta fa):dR K (JV K T r to ta) (jK T g fo fa):=by
 intro ρ σ H δ st b st' Q l rs e q;obtain⟨o,st1,e1,e⟩:=cm e;split at e
 ·next ht =>
  obtain⟨as,st2,e2,e⟩:=cm e;refine ho ρ σ H δ st o st1 _ l rs e1 λx H1 ρ1 m1 l1 r1=>⟨Pb l1 r1 ht,ha ρ1 σ H1 δ st1 as st2 _ l1 (rs.mn m1) e2 λxs H2 ρ2 m2 l2 r2=>?_⟩;exact hr ρ2 H2 st2 x xs o as b st' Q l2 (r1.mn m2) r2 e λv H3 ρ3 m3 l3 r3=>q v H3 ρ3 ((m1.trans m2).trans m3) l3 r3
 ·cases e
abbrev aU:D->List D->Dm D
 |.ref i,[y],st=>match own st i with
  |some xs=>if lim xs.length=true then some (.non,st.set i (.lst (xs ++ [y])))else none
  |none=>none
 |_,_,_=>none
def pJ:xM K "list" rq aU:=by
 intro ρ H st x xs a as b st' Q l rx ux e q;unfold aU at e;split at e
 ·split at e
  ·next ys hy =>
   split at e
   ·next hl =>
    cases e;obtain⟨v,rfl,r⟩:=ux.one';cases rx with
    |ref hi =>
     obtain⟨vs,e1,r1⟩:=l.obj _ _ _ hi (sH hy);obtain⟨l2,m2⟩:=l.putL hi (sH hy) (r1.append (.one r));exact⟨_,vs,v,rfl,rfl,e1,by rw[r1.length];exact K9 hl,q _ _ ρ m2 l2 .non⟩
   ·cases e
  ·cases e
 ·cases e
abbrev oX:D->List D->Dm D
 |.ref i,[.ref j],st=>match own st i,own st j with
  |some xs,some ys=>if lim (xs.length+ys.length)=true then some (.non,st.set i (.lst (xs ++ ys)))else none
  |_,_=>none
 |_,_,_=>none
abbrev l6:D->List D->Dm D
 |.ref i,[.int k],st=>match own st i with
  | some xs=>if decide (-9223372036854775808<=k/\k < 9223372036854775808)=true then match seqIndex? k xs.length with
    |some j=>match xs[j]? with
     |some y=>some (y,st.set i (.lst (xs.eraseIdx j)))
     |none=>none
    |none=>none
   else none
  |none=>none
 |_,_,_=>none
def Vh:xM K "list" tL l6:=by
 intro ρ H st x xs a as b st' Q l rx ux e q;unfold l6 at e;split at e
 ·split at e
  ·next ys hy =>
   split at e
   ·next hk =>
    split at e
    ·next j hj =>
     split at e
     ·next y hy' =>
      cases e;obtain⟨v,rfl,r⟩:=ux.one';cases r;cases rx with
      |ref hi =>
       obtain⟨vs,e1,r1⟩:=l.obj _ _ _ hi (sH hy);obtain⟨w,hw,rw'⟩:=r1.got hy';obtain⟨l2,m2⟩:=l.putL hi (sH hy) (r1.erase j);have hk:=of_decide_eq_true hk;exact⟨_,vs,_,j,w,rfl,rfl,e1,by lk,by lk,by rw[r1.length];exact hj,hw,q _ _ ρ m2 l2 (rw'.mn m2)⟩
     ·cases e
    ·cases e
   ·cases e
  ·cases e
 ·cases e
abbrev iX:D->List D->Dm D
 |.tup ds,[.int v],st=>match bH iV ds with
  |some ns=>match ns.findIdx? (λi=>decide (i=v))with
   |some j=>some (.int (j:Int),st)
   |none=>none
  |none=>none
 |_,_,_=>none
def Lf:xM K "tuple" (qJ K) iX:=by
 intro ρ H st x xs a as b st' Q l rx ux e q;unfold iX at e;split at e
 ·split at e
  ·next ns hn =>
   split at e
   ·next j hj =>
    cases e;obtain⟨v,rfl,r⟩:=ux.one';cases r;cases rx with
    |tup s r =>
     cases HC r hn;obtain⟨h1,h2,h3⟩:=Za0.mp hj;refine⟨_,ns,_,j,rfl,rfl,s,?_,λi hi z=>?_,q _ H ρ .refl l (.int _)⟩
     ·rw[Zy h1];exact congrArg some (of_decide_eq_true h2)
     ·have:=h3 i hi
      obtain⟨hl,ez⟩:=Zz.mp z;rw[ez]at this;simp at this
   ·cases e
  ·cases e
 ·cases e
abbrev ke:D->List D->Dm D
 |.ref i,[.int v],st=>match (items st i).bind (bH iV)with
  |some ns=>if v∈ns/\ns.length<=1000/\∀i∈ns,-1000000000000000000<=i/\i<=1000000000000000000 then some (.int (ns.idxOf v:Int),st)else none
  |none=>none
 |_,_,_=>none
abbrev sJ(st:Store):D->Option String
 |.non=>some "NoneType"
 |.bl _=>some "bool"
 |.int _=>some "int"
 |.str _=>some "str"
 |.tup _=>some "tuple"
 |.ref i=>match st[i]? with
  |some (.lst _)=>some "list"
  |some (.dct _)=>some "dict"
  |_=>none
 |.ty _=>none
abbrev oY:List D->Dm D
 |[a,.ty c],st=>match sJ st a with
  |some T=>if T=c then some (.bl true,st)else none
  |none=>none
 |_,_=>none
end
section
variable {K:Zfr}
def Pc:mF K Dg uv:=by
 intro ρ H st x y a c b st' Q l rx ry e q;unfold uv at e;split at e
 ·split at e
  ·next ds hd =>
   split at e
   ·next ok =>
    cases e;rw[ZV,decide_eq_true_eq]at ok;cases ry;cases rx with
    |ref hi =>
     obtain⟨vs,e1,r1⟩:=l.obj _ _ _ hi (sH hd);exact⟨_,_,vs,rfl,rfl,e1,by lk,by lk,by rw[r1.length];exact Ed ok.2,λp hp=>q _ _ _ (Mn.new hp) (l.newL hp (r1.flat _)) (.ref (newR l))⟩
   ·cases e
  ·cases e
 ·cases e
def Rs.set{ρ:List Addr}{H:Hp}{σ:St}{δ:aj}{v:V}{d:D}{i:Nat}(h:Rs K ρ H σ δ)(r:Rp K ρ H v d):Rs K ρ H (σ.set i (some v)) (δ.set i (some d)):=by
 refine⟨by rw[Zae,Zae];exact h.1,λj e hj=>?_⟩;by_cases hij:i=j;subst hij;have hl:i<δ.length:=by
  have:=(Zz.mp hj).1
  rwa [Zae]at this
 rw[ZI hl]at hj;cases hj;exact⟨v,by rw[ZI (by rw[h.1];exact hl)],r⟩;rw[ZJ hij]at hj;obtain⟨w,hw,rw'⟩:=h.2 j e hj;exact⟨w,by rw[ZJ hij];exact hw,rw'⟩
abbrev zN(K:Zfr)(g:TG)(f:D->aj->Dm aj):Prop :=
 ∀(ρ:List Addr) (σ:St) (H:Hp) (δ:aj) (st:Store) (v:V) (d:D) (δ':aj) (st':Store) (Q:St->Hp->Prop),Rl K ρ H st->Rs K ρ H σ δ->Rp K ρ H v d->f d δ st=some (δ',st') ->
  (∀σ' H' ρ',Mn K ρ H ρ' H'->Rl K ρ' H' st'->Rs K ρ' H' σ' δ'->Q σ' H')->g v σ H Q
abbrev wg(K:Zfr)(g:uT)(f:List D->aj->Dm aj):Prop :=
 ∀(ρ:List Addr) (σ:St) (H:Hp) (δ:aj) (st:Store) (v:List V) (d:List D) (δ':aj) (st':Store) (Q:St->Hp->Prop),Rl K ρ H st->Rs K ρ H σ δ->cn K ρ H v d->f d δ st=some (δ',st') ->
  (∀σ' H' ρ',Mn K ρ H ρ' H'->Rl K ρ' H' st'->Rs K ρ' H' σ' δ'->Q σ' H')->g v σ H Q
abbrev hName(i:Nat):D->aj->Dm aj:=λd δ st=>some (δ.set i (some d),st)
def aW(i:Nat):zN K (ml i) (hName i):=by intro ρ σ H δ st v d δ' st' Q l rs r e q;cases e;exact q _ H ρ .refl l (rs.set r)
abbrev nU:List D->aj->Dm aj
 |[],δ,st=>some (δ,st)
 |_,_,_=>none
abbrev cR(f:D->aj->Dm aj)(g:List D->aj->Dm aj):List D->aj->Dm aj
 |d :: ds,δ,st=>bnd (f d δ st) λδ1 st1=>g ds δ1 st1
 |_,_,_=>none
def xR:wg K CN nU:=by
 intro ρ σ H δ st v d δ' st' Q l rs r e q;cases r with
 |nil=>cases e;exact⟨rfl,q _ H ρ .refl l rs⟩
 |cons a b=>cases e
def ou{t:TG}{u:uT}{f:D->aj->Dm aj}{g:List D->aj->Dm aj}(hf:zN K t f)(hg:wg K u g):wg K (wX t u) (cR f g):=by
 intro ρ σ H δ st v d δ' st' Q l rs r e q;cases r with
 |nil=>cases e
 |cons a b =>
  obtain⟨δ1,st1,e1,e⟩:=cm e;exact⟨_,_,rfl,hf ρ σ H δ st _ _ δ1 st1 _ l rs a e1 λσ1 H1 ρ1 m1 l1 r1=>hg ρ1 σ1 H1 δ1 st1 _ _ δ' st' Q l1 r1 (b.mn m1) e λσ2 H2 ρ2 m2 l2 r2=>q σ2 H2 ρ2 (m1.trans m2) l2 r2⟩
abbrev ni(n:Nat)(f:List D->aj->Dm aj):D->aj->Dm aj
 |.tup ds,δ,st=>if ds.length=n then f ds δ st else none
 |_,_,_=>none
def xS{n:Nat}{t:uT}{f:List D->aj->Dm aj}(hf:wg K t f):zN K (CO K n t) (ni n f):=by
 intro ρ σ H δ st v d δ' st' Q l rs r e q;cases r<;>first|(cases e;done)|skip
 ·next s r =>
  simp only[ni]at e;split at e
  ·next hl=>exact⟨_,_,rfl,s,by rw[r.length];exact hl,hf ρ σ H δ st _ _ δ' st' Q l rs r e q⟩
  ·cases e
abbrev hSub(fo fi:aj->Dm D):D->aj->Dm aj:=λd δ st=>bnd (fo δ st) λo st1=>bnd (fi δ st1) λi st2=>match o,i with
 |.ref r,.int k=>match own st2 r with
  |some xs=>match mO xs.length k with
   |some j=>some (δ,st2.set r (.lst (xs.set j d)))
   |none=>none
  |none=>none
 |_,_=>none
def B5{to ti:TE}{fo fi:aj->Dm D}(ho:dR K to fo)(hi:dR K ti fi):zN K (L2.mz to ti xi) (hSub fo fi):=by
 intro ρ σ H δ st v d δ' st' Q l rs r e q;obtain⟨o,st1,e1,e⟩:=cm e;obtain⟨i,st2,e2,e⟩:=cm e;refine ho ρ σ H δ st o st1 _ l rs e1 λx H1 ρ1 m1 l1 r1=>hi ρ1 σ H1 δ st1 i st2 _ l1 (rs.mn m1) e2 λy H2 ρ2 m2 l2 r2=>?_;split at e
 ·split at e
  ·next xs hx =>
   split at e
   ·next j hj =>
    cases e;cases r2;cases r1 with
    |ref hr =>
     have hr2:=m2.r _ _ hr;obtain⟨vs,e3,r3⟩:=l2.obj _ _ _ hr2 (sH hx);obtain⟨l3,m3⟩:=l2.putL hr2 (sH hx) (r3.set (r.mn (m1.trans m2)) j);exact⟨_,vs,_,j,rfl,rfl,e3,by rw[r3.length];exact hj,q σ _ ρ2 ((m1.trans m2).trans m3) l3 (rs.mn ((m1.trans m2).trans m3))⟩
   ·cases e
  ·cases e
 ·cases e
abbrev Go(K:Zfr)(ρ:List Addr)(H:Hp)(st':Store)(E:Ends):Fl->Prop
 |.nx δ=>∀σ' H' ρ',Mn K ρ H ρ' H'->Rl K ρ' H' st'->Rs K ρ' H' σ' δ->E.nx σ' H'
 |.bk δ=>∀σ' H' ρ',Mn K ρ H ρ' H'->Rl K ρ' H' st'->Rs K ρ' H' σ' δ->E.bk σ' H'
 |.ct δ=>∀σ' H' ρ',Mn K ρ H ρ' H'->Rl K ρ' H' st'->Rs K ρ' H' σ' δ->E.ct σ' H'
 |.rt d=>∀v H' ρ',Mn K ρ H ρ' H'->Rl K ρ' H' st'->Rp K ρ' H' v d->E.rt v H'
def Go.mn{ρ ρ1:List Addr}{H H1:Hp}{st':Store}{E:Ends}{fl:Fl}(g:Go K ρ H st' E fl)(m:Mn K ρ H ρ1 H1):Go K ρ1 H1 st' E fl:=by cases fl<;>exactλv H' ρ' m' l r=>g v H' ρ' (m.trans m') l r
abbrev ow(K:Zfr)(t:TS)(f:aj->Dm Fl):Prop :=
 ∀(ρ:List Addr) (σ:St) (H:Hp) (δ:aj) (st:Store) (fl:Fl) (st':Store) (E:Ends),Rl K ρ H st->Rs K ρ H σ δ->f δ st=some (fl,st')->Go K ρ H st' E fl->t E σ H
abbrev aR:aj->Dm Fl:=λδ st=>some (.nx δ,st)
def iY:ow K wV aR:=by intro ρ σ H δ st fl st' E l rs e g;cases e;exact g σ H ρ .refl l rs
abbrev ay(f g:aj->Dm Fl):aj->Dm Fl:=λδ st=>bnd (f δ st) λfl st1=>match fl with
 |.nx δ1=>g δ1 st1
 |x=>some (x,st1)
def a9{t u:TS}{f g:aj->Dm Fl}(hf:ow K t f)(hg:ow K u g):ow K (yz t u) (ay f g):=by
 intro ρ σ H δ st fl st' E l rs e q;obtain⟨x,st1,e1,e⟩:=cm e;refine hf ρ σ H δ st x st1 _ l rs e1 ?_;cases x with
 |nx δ1=>exactλσ1 H1 ρ1 m1 l1 r1=>hg ρ1 σ1 H1 δ1 st1 fl st' E l1 r1 e (q.mn m1)
 |bk δ1=>cases e;exact q
 |ct δ1=>cases e;exact q
 |rt d=>cases e;exact q
def iJ{c:TT}{t u:TS}{fc:aj->Dm Bool}{f g:aj->Dm Fl}(hc:pS K c fc)(hf:ow K t f)(hg:ow K u g):ow K (vD c t u) (dN fc f g):=by
 intro ρ σ H δ st fl st' E l rs e q;obtain⟨a,st1,e1,e⟩:=cm e;refine hc ρ σ H δ st _ _ _ l rs e1 λx H1 ρ1 m1 l1 r1=>?_;subst r1;cases x with
 |true =>
  refine oP ?_;rw[if_pos rfl]at e;exact hf ρ1 σ H1 δ st1 fl st' E l1 (rs.mn m1) e (q.mn m1)
 |false =>
  refine oO ?_;rw[if_neg ZC]at e;exact hg ρ1 σ H1 δ st1 fl st' E l1 (rs.mn m1) e (q.mn m1)
abbrev cc(f:aj->Dm D):aj->Dm Fl:=λδ st=>bnd (f δ st) λ_ st1=>some (.nx δ,st1)
def pK{t:TE}{f:aj->Dm D}(hf:dR K t f):ow K (wW t) (cc f):=by intro ρ σ H δ st fl st' E l rs e q;obtain⟨a,st1,e1,e⟩:=cm e;cases e;exact hf ρ σ H δ st a _ _ l rs e1 λx H1 ρ1 m1 l1 r1=>q σ H1 ρ1 m1 l1 (rs.mn m1)
abbrev aX(f:aj->Dm D):aj->Dm Fl:=λδ st=>bnd (f δ st) λd st1=>some (.rt d,st1)
def dS{t:TE}{f:aj->Dm D}(hf:dR K t f):ow K (CK t) (aX f):=by intro ρ σ H δ st fl st' E l rs e q;obtain⟨a,st1,e1,e⟩:=cm e;cases e;exact hf ρ σ H δ st a _ _ l rs e1 λx H1 ρ1 m1 l1 r1=>q x H1 ρ1 m1 l1 r1
abbrev aH(f:aj->Dm D)(h:D->aj->Dm aj):aj->Dm Fl:=λδ st=>bnd (f δ st) λd st1=>bnd (h d δ st1) λδ1 st2=>some (.nx δ1,st2)
def bU{t:TE}{g:TG}{f:aj->Dm D}{h:D->aj->Dm aj}(hf:dR K t f)(hh:zN K g h):ow K (qC t g) (aH f h):=by intro ρ σ H δ st fl st' E l rs e q;obtain⟨a,st1,e1,e⟩:=cm e;obtain⟨δ1,st2,e2,e⟩:=cm e;cases e;exact hf ρ σ H δ st a st1 _ l rs e1 λx H1 ρ1 m1 l1 r1=>hh ρ1 σ H1 δ st1 x a δ1 _ _ l1 (rs.mn m1) r1 e2 λσ2 H2 ρ2 m2 l2 r2=>q σ2 H2 ρ2 (m1.trans m2) l2 r2
abbrev uy(i j:Nat)(fa:aj->Dm (List D)):aj->Dm Fl:=λδ st=>bnd (fa δ st) λas st1=>match as with
 |[a,b]=>some (.nx ((δ.set i (some a)).set j (some b)),st1)
 |_=>none
def Pd{i j:Nat}{t:TA}{fa:aj->Dm (List D)}(ha:qy K t fa):ow K (CP i j t) (uy i j fa):=by intro ρ σ H δ st fl st' E l rs e q;obtain⟨as,st1,e1,e⟩:=cm e;split at e;cases e;refine ha ρ σ H δ st _ _ _ l rs e1 λx H1 ρ1 m1 l1 r1=>?_;obtain⟨v,w,rfl,r,r'⟩:=r1.two';exact⟨v,w,rfl,q _ H1 ρ1 m1 l1 (((rs.mn m1).set r).set r')⟩;cases e
abbrev dw(c:aj->Dm Bool)(b:aj->Dm Fl):Nat->aj->Dm Fl
 |0,_,_=>none
 | n + 1,δ,st=>bnd (c δ st) λt st1=>if t=true then bnd (b δ st1) λfl st2=>match fl with
   |.nx δ2=>dw c b n δ2 st2
   |.ct δ2=>dw c b n δ2 st2
   |.bk δ2=>some (.nx δ2,st2)
   |.rt d=>some (.rt d,st2)
  else some (.nx δ,st1)
abbrev fuel:Nat:=1000000
abbrev iZ(c:aj->Dm Bool)(b:aj->Dm Fl):aj->Dm Fl:=dw c b fuel
def En{tc:TT}{tb:TS}{c:aj->Dm Bool}{b:aj->Dm Fl}(hc:pS K tc c)(hb:ow K tb b):ow K (qD tc tb) (iZ c b):=by
 intro ρ σ H δ st fl st' E l rs e q;refine⟨λm σ1 H1=>∃ρ1 δ1 st1,Mn K ρ H ρ1 H1/\Rl K ρ1 H1 st1/\Rs K ρ1 H1 σ1 δ1/\dw c b m δ1 st1=some (fl,st'),⟨fuel,ρ,δ,st,.refl,l,rs,e⟩,?_⟩;rintro m σ1 H1 ⟨ρ1,δ1,st1,m1,l1,sY,e1⟩;cases m with
 |zero=>cases e1
 |succ m =>
  obtain⟨t,st2,e2,e1⟩:=cm e1;refine hc ρ1 σ1 H1 δ1 st1 _ _ _ l1 sY e2 λx H2 ρ2 m2 l2 r2=>?_;subst r2;cases x with
  |true =>
   refine oP ?_;rw[if_pos rfl]at e1;obtain⟨f2,st3,e3,e1⟩:=cm e1;refine⟨λσ3 H3=>∃m',m' < m+1/\∃ρ1 δ1 st1,Mn K ρ H ρ1 H3/\Rl K ρ1 H3 st1/\Rs K ρ1 H3 σ3 δ1/\dw c b m' δ1 st1=some (fl,st'),λ_ _ h=>h,hb ρ2 σ1 H2 δ1 st2 f2 st3 _ l2 (sY.mn m2) e3 ?_⟩;cases f2 with
   |nx δ3=>exactλσ3 H3 ρ3 m3 l3 r3=>⟨m,Zat m,ρ3,δ3,st3,(m1.trans m2).trans m3,l3,r3,e1⟩
   |ct δ3=>exactλσ3 H3 ρ3 m3 l3 r3=>⟨m,Zat m,ρ3,δ3,st3,(m1.trans m2).trans m3,l3,r3,e1⟩
   |bk δ3=>cases e1;exact q.mn (m1.trans m2)
   |rt d=>cases e1;exact q.mn (m1.trans m2)
  |false =>
   refine oO ?_;rw[if_neg ZC]at e1;cases e1;exact q.mn (m1.trans m2) σ1 H2 ρ2 .refl l2 (sY.mn m2)
inductive Src where
 |fix (ds:List D)|live (i:Nat)|Eo (i:Nat)|zl (i:Nat) (es:List D)|zr (ds:List D) (i:Nat)
abbrev Src.at:Src->Nat->Store->Option (Option D)
 |.fix ds,i,_=>if i<=ds.length then some ds[i]? else none
 |.live r,i,st=>(items st r).map λds=>ds[i]?
 |.Eo r,i,st=>(items st r).bind λds=>if i<=ds.length then some (ds.mapIdx λi d=>D.tup [.int (i:Int),d])[i]? else none
 |.zl r es,i,st=>(items st r).bind λds=>if i<=(List.zipWith (λa b=>D.tup [a,b]) ds es).length then some (List.zipWith (λa b=>D.tup [a,b]) ds es)[i]? else none
 |.zr ds r,i,st=>(items st r).bind λes=>if i<=(List.zipWith (λa b=>D.tup [a,b]) ds es).length then some (List.zipWith (λa b=>D.tup [a,b]) ds es)[i]? else none
def B6{ds:List D}{i:Nat}{st:Store}{o:Option D}(h:Src.at (.fix ds) i st=some o):i<=ds.length/\ds[i]?=o:=by
 simp only[Src.at]at h;split at h
 ·next hl=>exact⟨hl,ZN h⟩
 ·cases h
abbrev Ep(K:Zfr)(ρ:List Addr)(H:Hp)(J:It)(S:Src):Prop :=
 ∀(ρ2:List Addr) (H2:Hp) (st2:Store) (i:Nat),Mn K ρ H ρ2 H2->Rl K ρ2 H2 st2 ->
  (S.at i st2=some none->J.stop i H2)/\∀d,S.at i st2=some (some d)->J.go i H2/\∀x H3,J.vE i H2 x H3->Mn K ρ2 H2 ρ2 H3/\Rl K ρ2 H3 st2/\Rp K ρ2 H3 x d
@[reducible]def zO(K:Zfr)(t:TI)(f:aj->Dm Src):Prop:=So K (Ep K) t f
abbrev iu(S:Src)(g:D->aj->Dm aj)(b:aj->Dm Fl):Nat->Nat->aj->Dm Fl
 |0,_,_,_=>none
 |n+1,i,δ,st=>match S.at i st with
  |none=>none
  |some none=>some (.nx δ,st)
  |some (some d)=>bnd (g d δ st) λδ1 st1=>bnd (b δ1 st1) λfl st2=>match fl with
   |.nx δ2=>iu S g b n (i+1) δ2 st2
   |.ct δ2=>iu S g b n (i+1) δ2 st2
   |.bk δ2=>some (.nx δ2,st2)
   |.rt d=>some (.rt d,st2)
abbrev de(fi:aj->Dm Src)(g:D->aj->Dm aj)(b:aj->Dm Fl):aj->Dm Fl:=λδ st=>bnd (fi δ st) λS st1=>iu S g b fuel 0 δ st1
def mv{wi:TI}{tg:TG}{tb:TS}{fi:aj->Dm Src}{g:D->aj->Dm aj}{b:aj->Dm Fl}(hi:zO K wi fi)(hg:zN K tg g)(hb:ow K tb b):ow K (CV wi tg tb) (de fi g b):=by
 intro ρ σ H δ st fl st' E l rs e q;obtain⟨S,lB,e0,e⟩:=cm e;refine hi ρ σ H δ st S lB _ l rs e0 λJ H0 ρ0 m0 l0 ok=>?_;refine⟨λi m σ1 H1=>∃ρ1 δ1 st1,Mn K ρ0 H0 ρ1 H1/\Rl K ρ1 H1 st1/\Rs K ρ1 H1 σ1 δ1/\iu S g b m i δ1 st1=some (fl,st'),⟨fuel,ρ0,δ,lB,.refl,l0,rs.mn m0,e⟩,?_⟩;rintro i m σ1 H1 ⟨ρ1,δ1,st1,m1,l1,sY,e1⟩;cases m with
 |zero=>cases e1
 |succ m =>
  obtain⟨hstop,hgo⟩:=ok ρ1 H1 st1 i m1 l1;unfold iu at e1;split at e1
  ·cases e1
  ·next hs=>cases e1;exact .inl ⟨hstop hs,q.mn (m0.trans m1) σ1 H1 ρ1 .refl l1 sY⟩
  ·next d hs =>
   obtain⟨δ2,st2,e2,e1⟩:=cm e1;obtain⟨f3,st3,e3,e1⟩:=cm e1;obtain⟨go,vE⟩:=hgo d hs;refine .inr ⟨go,λσ3 H3=>∃m',m' < m+1/\∃ρ1 δ1 st1,Mn K ρ0 H0 ρ1 H3/\Rl K ρ1 H3 st1/\Rs K ρ1 H3 σ3 δ1/\iu S g b m' (i+1) δ1 st1=some (fl,st'),λ_ _ h=>h,λx H2 hy=>?_⟩;obtain⟨m2,l2,r2⟩:=vE x H2 hy;refine hg ρ1 σ1 H2 δ1 st1 x d δ2 st2 _ l2 (sY.mn m2) r2 e2 λσ4 H4 ρ4 m4 l4 r4=>hb ρ4 σ4 H4 δ2 st2 f3 st3 _ l4 r4 e3 ?_;have m5:=((m1.trans m2).trans m4);cases f3 with
   |nx δ3=>exactλσ5 H5 ρ5 m6 l5 r5=>⟨m,Zat m,ρ5,δ3,st3,m5.trans m6,l5,r5,e1⟩
   |ct δ3=>exactλσ5 H5 ρ5 m6 l5 r5=>⟨m,Zat m,ρ5,δ3,st3,m5.trans m6,l5,r5,e1⟩
   |bk δ3=>cases e1;exact q.mn (m0.trans m5)
   |rt d=>cases e1;exact q.mn (m0.trans m5)
abbrev cZ(fa:aj->Dm D):aj->Dm Src:=λδ st=>bnd (fa δ st) λa st1=>match a with
 |.tup ds=>some (.fix ds,st1)
 |_=>none
def qz{t:TE}{fa:aj->Dm D}(ha:dR K t fa):zO K (CT K t) (cZ fa):=by
 intro ρ σ H δ st S st' Q l rs e q;obtain⟨a,st1,e1,e⟩:=cm e;cases a<;>simp at e;obtain⟨rfl,rfl⟩:=e;refine ha ρ σ H δ st _ _ _ l rs e1 λx H1 ρ1 m1 l1 r1=>?_;cases r1 with
 |tup s r =>
  refine⟨_,rfl,⟨_,s⟩,q _ H1 ρ1 m1 l1 λρ2 H2 st2 i m2 l2=>⟨λh=>?_,λd h=>?_⟩⟩;exact⟨_,m2.t _ _ s,by rw[r.length];exact Zam.mp (B6 h).2⟩;obtain⟨v,hv,rv⟩:=r.got (B6 h).2;refine⟨⟨_,v,m2.t _ _ s,hv⟩,λx H3 y=>?_⟩;obtain⟨rfl,hx⟩:=y;have:=hx _ (m2.t _ _ s);rw[hv]at this;cases this;exact⟨.refl,l2,rv.mn m2⟩
abbrev jT(fa:aj->Dm D):aj->Dm Src:=λδ st=>bnd (fa δ st) λa st1=>match a with
 |.ref i=>match items st1 i with
  |some _=>some (.live i,st1)
  |none=>none
 |_=>none
def Er{t:TE}{fa:aj->Dm D}(ha:dR K t fa):zO K (tH K t) (jT fa):=by
 intro ρ σ H δ st S st' Q l rs e q;obtain⟨a,st1,e1,e⟩:=cm e;split at e
 ·next k =>
  split at e
  ·next ds hd =>
   cases e;refine ha ρ σ H δ st _ _ _ l rs e1 λx H1 ρ1 m1 l1 r1=>?_;cases r1 with
   |ref hi =>
    obtain⟨vs,s,r⟩:=l1.items hi hd;refine⟨_,rfl,⟨_,s⟩,q _ H1 ρ1 m1 l1 λρ2 H2 st2 i m2 l2=>⟨λh=>?_,λd h=>?_⟩⟩
    ·obtain⟨Vi,hd2,h⟩:=Z4.mp h
     obtain⟨Pe,s2,r2⟩:=l2.items (m2.r _ _ hi) hd2;exact⟨Pe,s2,by rw[r2.length];exact Zam.mp h⟩
    ·obtain⟨Vi,hd2,h⟩:=Z4.mp h
     obtain⟨Pe,s2,r2⟩:=l2.items (m2.r _ _ hi) hd2;obtain⟨v,hv,rv⟩:=r2.got h;refine⟨⟨_,v,s2,hv⟩,λx H3 y=>?_⟩;obtain⟨rfl,hx⟩:=y;have:=hx _ s2;rw[hv]at this;cases this;exact⟨.refl,l2,rv⟩
  ·cases e
 ·cases e
abbrev b8(fa:aj->Dm (List D)):aj->Dm Src:=λδ st=>bnd (fa δ st) λas st1=>match as with
 |[.int j]=>if decide (-4611686018427387904<=j/\j<4611686018427387904)=true then some (.fix (aC 0 j.toNat),st1)else none
 |_=>none
abbrev oZ(fa:aj->Dm (List D)):aj->Dm Src:=λδ st=>bnd (fa δ st) λas st1=>match as with
 |[.int i,.int j]=>if decide ((-4611686018427387904<=i/\i<4611686018427387904)/\-4611686018427387904<=j/\j<4611686018427387904)=true then some (.fix (aC i (j-i).toNat),st1)else none
 |_=>none
def gP(lo:Int)(n:Nat):(aC lo n).length=n:=by simp[aC]
def xT{lo:Int}{n k:Nat}(h:k<n):(aC lo n)[k]?=some (.int (lo+k)):=by simp[aC,h]
def Pf{ρ:List Addr}{H:Hp}(lo:Int)(n:Nat):Ep K ρ H (CQ lo n) (.fix (aC lo n)):=by
 intro ρ2 H2 st2 i m2 l2;refine⟨λh=>?_,λd h=>?_⟩
 have:=Zam.mp (B6 h).2
 rw[gP]at this;exact this;have h:=(B6 h).2;have hl:=(Zz.mp h).1;rw[gP]at hl;rw[xT hl]at h;cases h;refine⟨hl,λx H3 y=>?_⟩;obtain⟨rfl,rfl⟩:=y;exact⟨.refl,l2,.int _⟩
def pY{t:TA}{fa:aj->Dm (List D)}(ha:qy K t fa):zO K (w8 t) (b8 fa):=by
 intro ρ σ H δ st S st' Q l rs e q;obtain⟨as,st1,e1,e⟩:=cm e;split at e
 ·split at e
  ·next ok =>
   cases e;have ok:=of_decide_eq_true ok;refine ha ρ σ H δ st _ _ _ l rs e1 λx H1 ρ1 m1 l1 r1=>?_;obtain⟨v,rfl,r⟩:=r1.one';cases r;exact⟨_,rfl,by lk,by lk,q _ H1 ρ1 m1 l1 (Pf 0 _)⟩
  ·cases e
 ·cases e
def Vj{t:TA}{fa:aj->Dm (List D)}(ha:qy K t fa):zO K (xa t) (oZ fa):=by
 intro ρ σ H δ st S st' Q l rs e q;obtain⟨as,st1,e1,e⟩:=cm e;split at e
 ·split at e
  ·next ok =>
   cases e;have ok:=of_decide_eq_true ok;refine ha ρ σ H δ st _ _ _ l rs e1 λx H1 ρ1 m1 l1 r1=>?_;obtain⟨v,w,rfl,r,r'⟩:=r1.two';cases r;cases r';exact⟨_,_,rfl,by lk,q _ H1 ρ1 m1 l1 (Pf _ _)⟩
  ·cases e
 ·cases e
abbrev mw(ds:List D):List D:=ds.mapIdx λi d=>.tup [.int (i:Int),d]
def Es(ds:List D):(mw ds).length=ds.length:=by simp[mw]
def Lg{ds:List D}{i:Nat}{x:D}(h:(mw ds)[i]?=some x):∃d,ds[i]?=some d/\x=.tup [.int (i:Int),d]:=by unfold mw at h;rw[List.getElem?_mapIdx]at h;obtain⟨d,h1,h2⟩:=Z4.mp h;exact⟨d,h1,h2.symm⟩
abbrev nr(fa:aj->Dm (List D)):aj->Dm Src:=λδ st=>bnd (fa δ st) λas st1=>match as with
 |[.tup ds]=>some (.fix (mw ds),st1)
 |_=>none
def Pg{t:TA}{fa:aj->Dm (List D)}(ha:qy K t fa):zO K (xv K t) (nr fa):=by
 intro ρ σ H δ st S st' Q l rs e q;obtain⟨as,st1,e1,e⟩:=cm e;split at e;cases e;refine ha ρ σ H δ st _ _ _ l rs e1 λx H1 ρ1 m1 l1 r1=>?_;obtain⟨v,rfl,r⟩:=r1.one';cases r with
 |tup s r =>
  refine⟨_,rfl,⟨_,s⟩,q _ H1 ρ1 m1 l1 λρ2 H2 st2 i m2 l2=>⟨λh=>?_,λd h=>?_⟩⟩;obtain⟨h1,h2⟩:=B6 h;have h2:=Zam.mp h2;rw[Es]at h1 h2;exact⟨_,m2.t _ _ s,by rw[r.length];lk⟩;obtain⟨h1,h2⟩:=B6 h;obtain⟨d',hd',rfl⟩:=Lg h2;obtain⟨v,hv,rv⟩:=r.got hd';refine⟨⟨_,v,m2.t _ _ s,hv⟩,λx H3 y=>?_⟩;obtain⟨p,z,rfl,hp,rfl,hx⟩:=y;have:=hx _ (m2.t _ _ s);rw[hv]at this;cases this;have m3:Mn K ρ2 H2 ρ2 (upd H2 p (.tup [.int (i:Int),v])):=Mn.same (fH.up hp);exact⟨m3,l2.same (fH.up hp),.tup (d9.of mK) (.cons (.int _) (.one ((rv.mn m2).mn m3)))⟩
 cases e
abbrev i5(S:Src)(g:D->aj->Dm aj)(tc:aj->Dm Bool)(te:aj->Dm D):Nat->Nat->List D->aj->Dm (List D)
 |0,_,_,_,_=>none
 |n+1,i,ys,δ,st=>if lim ys.length=true then match S.at i st with
  |none=>none
  |some none=>some (ys,st)
  |some (some d)=>bnd (g d δ st) λδ1 st1=>bnd (tc δ1 st1) λt st2=>if t=true then bnd (te δ1 st2) λy st3=>i5 S g tc te n (i+1) (ys ++ [y]) δ1 st3 else i5 S g tc te n (i+1) ys δ1 st2
  else none
abbrev pZ(n:Nat)(js:List Nat)(δ:aj):aj:=List.replicate n none ++ js.map λj=>δ.getD j none
abbrev cS(fi:aj->Dm Src)(n:Nat)(js:List Nat)(g:D->aj->Dm aj)(tc:aj->Dm Bool)(te:aj->Dm D):aj->Dm D:=λδ st=>bnd (fi δ st) λS st1=>bnd (i5 S g tc te fuel 0 [] (pZ n js δ) st1) λys st2=>some (.ref st2.length,st2 ++ [.lst ys])
def Rs.comp{ρ:List Addr}{H:Hp}{σ:St}{δ:aj}(h:Rs K ρ H σ δ)(n:Nat)(js:List Nat):Rs K ρ H (jR n js σ) (pZ n js δ):=by
 unfold jR pZ;refine⟨by simp,λi d hd=>?_⟩;by_cases hi:i<n;rw[ZQ (by simpa using hi),Za4,if_pos hi]at hd;cases hd;rw[ZW (by simpa using Zbq hi),ZO]at hd;rw[ZW (by simpa using Zbq hi),ZO];simp only[Zbc]at hd ⊢;cases hj:js[i-n]? with
 |none=>rw[hj]at hd;cases hd
 |some j =>
  rw[hj]at hd;have hd:δ.getD j none=some d:=ZN hd;rw[ZG]at hd;have hd':δ[j]?=some (some d):=by
   cases hx:δ[j]? with
   |none=>rw[hx]at hd;cases hd
   |some y=>rw[hx]at hd;exact congrArg some hd
  obtain⟨v,hv,r⟩:=h.2 j d hd';exact⟨v,by show some (σ.getD j none)=_;rw[ZG,hv];rfl,r⟩
def qO{wi:TI}{tg:TG}{tc:TT}{te:TE}{fi:aj->Dm Src}{n:Nat}{js:List Nat}{g:D->aj->Dm aj}{c:aj->Dm Bool}{f:aj->Dm D}(hi:zO K wi fi)(hg:zN K tg g)(hc:pS K tc c)(hf:dR K te f):dR K (tW wi n js tg tc te) (cS fi n js g c f):=by
 intro ρ σ H δ st b st' Q l rs e q;obtain⟨S,lB,e0,e⟩:=cm e;obtain⟨zs,qP,e9,e⟩:=cm e;cases e;refine hi ρ σ H δ st S lB _ l rs e0 λJ H0 ρ0 m0 l0 ok=>?_;refine⟨λi m ys σ1 H1=>∃ρ1 δ1 st1 ws,Mn K ρ0 H0 ρ1 H1/\Rl K ρ1 H1 st1/\Rs K ρ1 H1 σ1 δ1/\cn K ρ1 H1 ys ws/\i5 S g c f m i ws δ1 st1=some (zs,qP),⟨fuel,ρ0,_,lB,[],.refl,l0,(rs.mn m0).comp n js,.nil,e9⟩,?_⟩;rintro i m ys σ1 H1 ⟨ρ1,δ1,st1,ws,m1,l1,sY,HD,e1⟩;cases m with
 |zero=>cases e1
 |succ m =>
  obtain⟨hstop,hgo⟩:=ok ρ1 H1 st1 i m1 l1;unfold i5 at e1;split at e1
  ·next hl =>
   refine⟨by rw[HD.length];exact K9 hl,?_⟩;split at e1
   ·cases e1
   ·next hs =>
    cases e1;exact .inl ⟨hstop hs,λp hp=>q _ _ _ ((m0.trans m1).trans (Mn.new hp)) (l1.newL hp HD) (.ref (newR l1))⟩
   ·next d hs =>
    obtain⟨δ2,st2,e2,e1⟩:=cm e1;obtain⟨t,st3,e3,e1⟩:=cm e1;obtain⟨go,vE⟩:=hgo d hs;refine .inr ⟨go,λx H2 hy=>?_⟩;obtain⟨m2,l2,r2⟩:=vE x H2 hy;refine hg ρ1 σ1 H2 δ1 st1 x d δ2 st2 _ l2 (sY.mn m2) r2 e2 λσ4 H4 ρ4 m4 l4 r4=>hc ρ4 σ4 H4 δ2 st2 t st3 _ l4 r4 e3 λt' H5 ρ5 m5 l5 r5=>?_;subst r5;have m6:=(((m1.trans m2).trans m4).trans m5);cases t' with
    |true =>
     refine oP ?_;rw[if_pos rfl]at e1;obtain⟨y,HE,e6,e1⟩:=cm e1;exact hf ρ5 σ4 H5 δ2 st3 y HE _ l5 (r4.mn m5) e6 λv H7 ρ7 m7 l7 r7=>⟨m,Zat m,ρ7,δ2,HE,ws ++ [y],m6.trans m7,l7,r4.mn (m5.trans m7),(HD.mn (((m2.trans m4).trans m5).trans m7)).append (.one r7),e1⟩
    |false =>
     refine oO ?_;rw[if_neg ZC]at e1;exact⟨m,Zat m,ρ5,δ2,st3,ws,m6,l5,r4.mn m5,HD.mn ((m2.trans m4).trans m5),e1⟩
  ·cases e1
abbrev dz:aj->Dm Bool:=λ_ st=>some (true,st)
abbrev gS(n:Nat)(b:aj->Dm Fl):List D->Dm D:=λds st=>bnd (b (ds.map some ++ List.replicate (n-ds.length) none) st) λfl st1=>match fl with
 |.rt d=>some (d,st1)
 |.nx _=>some (.non,st1)
 |_=>none
def Rs.start{ρ:List Addr}{H:Hp}{vs:List V}{ds:List D}(r:cn K ρ H vs ds)(N:List Str):Rs K ρ H (start N vs) (ds.map some ++ List.replicate (N.length-ds.length) none):=by
 unfold L2.start;rw[r.length];refine⟨by simp[r.length],λi d hd=>?_⟩;by_cases hi:i<ds.length;rw[ZQ (by simpa using hi),ZO]at hd;rw[ZQ (by rw[Zx,r.length];exact hi),ZO];cases hx:ds[i]? with
 |none=>rw[hx]at hd;cases hd
 |some y =>
  rw[hx]at hd;cases hd;obtain⟨v,hv,rv⟩:=r.got hx;exact⟨v,by rw[hv];rfl,rv⟩
 rw[ZW (by simpa using Zbq hi),Za4]at hd;split at hd<;>cases hd
def jL{N:List Str}{k n:Nat}{t:TS}{b:aj->Dm Fl}{vs:List V}{H:Hp}{Q:VK}{E:XK}(hb:ow K t b)(hn:N.length=n)(h:cu K k (gS n b) vs H Q E):t { nx:=λ_ H'=>Q .non H',rt:=Q } (start N vs) H:=by
 obtain⟨hk,ρ,st,ds,d,st',l,r,e,q⟩:=h;subst hn;obtain⟨fl,st1,e1,e⟩:=cm e;refine hb ρ _ H _ st fl st1 _ l (Rs.start r N) e1 ?_;cases fl with
 |rt v=>cases e;exact q
 |nx δ=>cases e;exactλσ' H' ρ' m l' r'=>q .non H' ρ' m l' .non
 |bk δ=>cases e
 |ct δ=>cases e
end
section
variable {X:Cx}{K:Zfr}
def Ph{N:List Str}{uz:Scope}{cells:List (Str×Addr)}{C:Addr}{fp:List Addr}{s:Shared}{H:Hp}{uA:Scope}{own fr:List Str}(h:tV (tU uz X.env.scope) uA own fr):tV (aT X N uz cells C fp s H).env.scope uA own fr:=h
def sL:pS K (λ_ H Q=>Q true H) dz:=by intro ρ σ H δ st b st' Q l rs e q;cases e;exact q _ H ρ .refl l rfl
end
abbrev xU(K:Zfr):Sp:=λvs H Q _=>∃(a:Addr) (ns:List Int),vs=[.ref a]/\Dp K H a (ns.map V.int)/\ns.length<=63/\∀H',Q (.bl true) H'
def zP{P:Program}{w:World}{K:Zfr}{mg:Str->Option Value}{base:Heap}{k:Nat}{f:Addr}{fd:FuncData}{ps:List Str}{F:List D->Dm D}(G:aJ P w K mg base b6 k f fd ps (cu K 1 F))
  (h:∀ns:List Int,ns.length<=63->∃st',F [.ref 0] [.pH (ns.map D.int)]=some (.bl true,st')):aJ P w K mg base b6 k f fd ps (xU K):=by
 refine G.imp λvs H Q E hs=>?_;obtain⟨a,ns,rfl,hS,hn,q⟩:=hs;obtain⟨st',e⟩:=h ns hn;have one:∀i (b:Addr),([a]:List Addr)[i]?=some b->i=0/\b=a:=λi b h=>by
  cases i with
  |zero=>exact⟨rfl,(ZN h).symm⟩
  |succ i=>simp at h
 refine⟨rfl,[a],[.pH (ns.map D.int)],[.ref 0],.bl true,st',⟨rfl,λi j b o o' h1 h2 _ _ _ _=>by rw[(one i b h1).1,(one j b h2).1],λi b o h1 h2=>?_⟩,.one (.ref rfl),e,λv H' ρ' m l r=>by cases r;exact q H'⟩;obtain⟨rfl,rfl⟩:=one i b h1;cases(ZN h2);exact⟨ns.map V.int,hS,cn.ints ns⟩
abbrev Wp{α:Type}(m:Option (α×Store))(Q:α->Store->Prop):Prop:=∃a st,m=some (a,st)/\Q a st
section
variable {α β:Type}{Q Q':α->Store->Prop}{st:Store}{δ:aj}
def bg{m:Option (α×Store)}(h:Wp m Q)(hq:∀a st,Q a st->Q' a st):Wp m Q':=let ⟨a,st,e,q⟩:=h;⟨a,st,e,hq a st q⟩
def bu{a:α}:Wp (some (a,st)) Q↔Q a st:=⟨λ⟨_,_,e,q⟩=>by cases e;exact q,λq=>⟨a,st,rfl,q⟩⟩
def gQ:Wp (none:Option (α×Store)) Q↔False:=⟨λ⟨_,_,e,_⟩=>(by cases e),False.elim⟩
def dr{R:β->Store->Prop}{m:Option (α×Store)}{k:α->Dm β}:Wp (bnd m k) R↔Wp m λa st1=>Wp (k a st1) R:=by
 cases m with
 |none=>exact⟨λ⟨_,_,e,_⟩=>(by cases e),λ⟨_,_,e,_⟩=>(by cases e)⟩
 |some p=>exact⟨λh=>⟨p.1,p.2,rfl,h⟩,λ⟨a,s,e,h⟩=>by cases e;exact h⟩
def oy{c:Prop}[Decidable c]{m n:Option (α×Store)}:Wp (if c then m else n) Q↔if c then Wp m Q else Wp n Q:=by split<;>exact Iff.rfl
end
section
variable {st:Store}{δ:aj}{Q:D->Store->Prop}
def zQ{i:Nat}:Wp (ag i δ st) Q↔∃d,δ[i]?=some (some d)/\Q d st:=by
 unfold ag;split
 ·next d hd=>rw[bu];exact⟨λh=>⟨d,hd,h⟩,λ⟨e,he,h⟩=>by rw[hd]at he;cases he;exact h⟩
 ·next h=>rw[gQ];exact⟨False.elim,λ⟨e,he,_⟩=>h e he⟩
def Lh{d:D}:Wp (fC d δ st) Q↔Q d st:=bu
def Et{g:D->D->Dm D}{fa fb:aj->Dm D}:Wp (aB g fa fb δ st) Q↔Wp (fa δ st) λa st1=>Wp (fb δ st1) λb st2=>Wp (g a b st2) Q:=by unfold aB;rw[dr];simp only[dr]
def Eu{g:D->Dm D}{fa:aj->Dm D}:Wp (vZ g fa δ st) Q↔Wp (fa δ st) λa st1=>Wp (g a st1) Q:=dr
def Ew{g:List D->Dm D}{fa:aj->Dm (List D)}:Wp (aM g fa δ st) Q↔Wp (fa δ st) λa st1=>Wp (g a st1) Q:=dr
def zR{R:List D->Store->Prop}:Wp (ah δ st) R↔R [] st:=bu
def Vk{R:List D->Store->Prop}{fa:aj->Dm D}{fr:aj->Dm (List D)}:Wp (ae fa fr δ st) R↔Wp (fa δ st) λa st1=>Wp (fr δ st1) λr st2=>R (a :: r) st2:=by unfold ae;rw[dr];simp only[dr,bu]
def zS{fa:aj->Dm (List D)}:Wp (bS fa δ st) Q↔Wp (fa δ st) λas st1=>lim as.length=true/\Q (.tup as) st1:=by unfold bS;rw[dr];simp only[oy,bu,gQ];constructor<;>exactλh=>bg h λa s h=>by first|(split at h;exact⟨by assumption,h⟩;exact h.elim)|(rw[if_pos h.1];exact h.2)
def zT{fa:aj->Dm (List D)}:Wp (cG fa δ st) Q↔Wp (fa δ st) λas st1=>lim as.length=true/\Q (.ref st1.length) (st1 ++ [.lst as]):=by unfold cG;rw[dr];simp only[oy,bu,gQ];constructor<;>exactλh=>bg h λa s h=>by first|(split at h;exact⟨by assumption,h⟩;exact h.elim)|(rw[if_pos h.1];exact h.2)
def Vl{R:Bool->Store->Prop}{fa:aj->Dm D}:Wp (aA fa δ st) R↔Wp (fa δ st) λa st1=>∃b,a=.bl b/\R b st1:=by unfold aA;rw[dr];constructor<;>refineλh=>bg h λa s h=>?_;cases a<;>simp only[bu,gQ]at h;exact⟨_,rfl,h⟩;obtain⟨b,rfl,h⟩:=h;exact bu.mpr h
def zU{R:Bool->Store->Prop}{fa:aj->Dm Bool}:Wp (kU fa δ st) R↔Wp (fa δ st) λa st1=>R (!a) st1:=by unfold kU;rw[dr];simp only[bu]
def zV{R:Bool->Store->Prop}{fa fb:aj->Dm Bool}:Wp (qN fa fb δ st) R↔Wp (fa δ st) λa st1=>if a=true then Wp (fb δ st1) R else R false st1:=by unfold qN;rw[dr];simp only[oy,bu]
def Ey{R:Bool->Store->Prop}{fa fb:aj->Dm Bool}:Wp (pT fa fb δ st) R↔Wp (fa δ st) λa st1=>if a=true then R true st1 else Wp (fb δ st1) R:=by unfold pT;rw[dr];simp only[oy,bu]
def xV{α:Type}{R:α->Store->Prop}{c:aj->Dm Bool}{fa fb:aj->Dm α}:Wp (dN c fa fb δ st) R↔Wp (c δ st) λa st1=>if a=true then Wp (fa δ st1) R else Wp (fb δ st1) R:=by unfold dN;rw[dr];simp only[oy]
def Vm{fa fb:aj->Dm D}:Wp (pV fa fb δ st) Q↔Wp (aA fa δ st) λa st1=>if a=true then Wp (fb δ st1) Q else Q (.bl false) st1:=by unfold pV;rw[dr];simp only[oy,bu]
def zW{fa fb:aj->Dm D}:Wp (Ee fa fb δ st) Q↔Wp (aA fa δ st) λa st1=>if a=true then Q (.bl true) st1 else Wp (fb δ st1) Q:=by unfold Ee;rw[dr];simp only[oy,bu]
def Vn{fa:aj->Dm D}:Wp (pW fa δ st) Q↔Wp (aA fa δ st) λa st1=>Q (.bl (!a)) st1:=by unfold pW;rw[dr];simp only[bu]
def Vo{R:Option Int->Store->Prop}:Wp (lG δ st) R↔R none st:=bu
def Vp{R:Option Int->Store->Prop}{fa:aj->Dm D}:Wp (mq fa δ st) R↔Wp (fa δ st) λa st1=>∃i,a=.int i/\R (some i) st1:=by unfold mq;rw[dr];constructor<;>refineλh=>bg h λa s h=>?_;cases a<;>simp only[bu,gQ]at h;exact⟨_,rfl,h⟩;obtain⟨b,rfl,h⟩:=h;exact bu.mpr h
def Ez{g:D->Option Int->Option Int->Dm D}{fa:aj->Dm D}{fl fh:aj->Dm (Option Int)}:Wp (zD g fa fl fh δ st) Q↔Wp (fa δ st) λa st1=>Wp (fl δ st1) λlo st2=>Wp (fh δ st2) λhi st3=>Wp (g a lo hi st3) Q:=by unfold zD;rw[dr];simp only[dr]
def EA{T:String}{g:D->List D->Dm D}{fo:aj->Dm D}{fa:aj->Dm (List D)}:Wp (jK T g fo fa δ st) Q↔Wp (fo δ st) λo st1=>vh T st1 o=true/\Wp (fa δ st1) λas st2=>Wp (g o as st2) Q:=by unfold jK;rw[dr];simp only[oy,dr,gQ];constructor<;>exactλh=>bg h λa s h=>by first|(split at h;exact⟨by assumption,h⟩;exact h.elim)|(rw[if_pos h.1];exact h.2)
variable {i j:Int}{ds es:List D}{k:Nat}
def zX:Wp (gj (.int i) (.int j) st) Q↔Q (.int (i+j)) st:=bu
def zY:Wp (mz (.int i) (.int j) st) Q↔Q (.int (i-j)) st:=bu
def EB:Wp (ve (.int i) (.int j) st) Q↔Q (.bl (decide (i<j))) st:=bu
def EC:Wp (Va (.int i) (.int j) st) Q↔Q (.bl (decide (i<=j))) st:=bu
def ED:Wp (sE (.int i) (.int j) st) Q↔Q (.bl (decide (j<i))) st:=bu
def EE:Wp (Lb (.int i) (.int j) st) Q↔Q (.bl (decide (j<=i))) st:=bu
def zZ:Wp (nQ (.int i) st) Q↔Q (.int (-i)) st:=bu
def HF{c:Int->Int->Bool}{h:Int->Int->D}:Wp (zE c h (.int i) (.int j) st) Q↔c i j=true/\Q (h i j) st:=by
 show Wp (if c i j=true then some (h i j,st)else none) Q↔_;rw[oy,bu,gQ];split
 ·next h=>exact⟨λq=>⟨h,q⟩,λq=>q.2⟩
 ·next h=>exact⟨False.elim,λq=>h q.1⟩
def Aa:Wp (nh (.int i) (.int j) st) Q↔((-18446744073709551616<i/\i<18446744073709551616)\/(-18446744073709551616<j/\j<18446744073709551616))/\Q (.int (i*j)) st:=by unfold nh;rw[HF,Zbj,decide_eq_true_eq,decide_eq_true_eq]
def Vq:Wp (om (.int i) (.int j) st) Q↔(0<j/\j<1073741824)/\Q (.int (i / j)) st:=by unfold om;rw[HF,decide_eq_true_eq]
def Ab:Wp (jS (.int i) (.int j) st) Q↔0<j/\Q (.int (i % j)) st:=by unfold jS;rw[HF,decide_eq_true_eq]
def Ac:Wp (ur (.int i) (.int j) st) Q↔(0<=j/\j<=1000000/\i.natAbs<18446744073709551616)/\Q (.int (i ^ j.toNat)) st:=by unfold ur;rw[HF,decide_eq_true_eq]
def Ad{neg:Bool}:Wp (kI neg (.int i) (.int j) st) Q↔Q (.bl (if neg then !decide (i=j)else decide (i=j))) st:=by
 have e:decide (V.int i=V.int j)=decide (i=j):=by
  by_cases h:i=j;subst h;simp;simp[h]
 show Wp (if qE (V.int i) (V.int j)=true then some (D.bl (if neg then !decide (V.int i=V.int j)else decide (V.int i=V.int j)),st)else none) Q↔_;rw[if_pos (show qE _ _=true from rfl),bu,e]
def Ae{neg:Bool}{x y:Str}:Wp (kI neg (.str x) (.str y) st) Q↔Q (.bl (if neg then !decide (x=y)else decide (x=y))) st:=by
 have e:decide (V.str x=V.str y)=decide (x=y):=by
  by_cases h:x=y;subst h;simp;simp[h]
 show Wp (if qE (V.str x) (V.str y)=true then some (D.bl (if neg then !decide (V.str x=V.str y)else decide (V.str x=V.str y)),st)else none) Q↔_;rw[if_pos (show qE _ _=true from rfl),bu,e]
def Af:Wp (aN (.tup ds) (.int i) st) Q↔∃d,fB ds i=some d/\Q d st:=by
 show Wp (match fB ds i with|some d=>some (d,st)|none=>none) Q↔_;cases fB ds i with
 |none=>rw[gQ];exact⟨False.elim,λ⟨_,e,_⟩=>by cases e⟩
 |some d=>rw[bu];exact⟨λq=>⟨d,rfl,q⟩,λ⟨_,e,q⟩=>by cases e;exact q⟩
def Ag:Wp (bW (.ref k) (.int i) st) Q↔∃ds d,items st k=some ds/\fB ds i=some d/\Q d st:=by
 show Wp (match items st k with|some ds=>(match fB ds i with|some d=>some (d,st)|none=>none)|none=>none) Q↔_;cases items st k with
 |none=>rw[gQ];exact⟨False.elim,λ⟨_,_,e,_⟩=>by cases e⟩
 |some ds =>
  show Wp (match fB ds i with|some d=>some (d,st)|none=>none) Q↔_;cases h:fB ds i with
  |none=>rw[gQ];exact⟨False.elim,λ⟨_,_,e,e',_⟩=>by cases e;rw[h]at e';cases e'⟩
  |some d=>rw[bu];exact⟨λq=>⟨ds,d,rfl,h,q⟩,λ⟨_,_,e,e',q⟩=>by cases e;rw[h]at e';cases e';exact q⟩
def Ah{lo hi:Option Int}:Wp (zI (.tup ds) lo hi st) Q↔Q (.tup (cutD ds lo hi)) st:=bu
def Ai{lo hi:Option Int}:Wp (sG (.ref k) lo hi st) Q↔∃ds,items st k=some ds/\Q (.ref st.length) (st ++ [.lst (cutD ds lo hi)]):=by
 show Wp (match items st k with|some ds=>some (D.ref st.length,st ++ [O.lst (cutD ds lo hi)])|none=>none) Q↔_;cases items st k with
 |none=>rw[gQ];exact⟨False.elim,λ⟨_,e,_⟩=>by cases e⟩
 |some ds=>rw[bu];exact⟨λq=>⟨ds,rfl,q⟩,λ⟨_,e,q⟩=>by cases e;exact q⟩
def Vr:Wp (lH (.tup ds) (.tup es) st) Q↔lim (ds.length+es.length)=true/\Q (.tup (ds ++ es)) st:=by
 show Wp (if lim (ds.length+es.length)=true then some (D.tup (ds ++ es),st)else none) Q↔_;rw[oy,bu,gQ];split
 ·next h=>exact⟨λq=>⟨h,q⟩,λq=>q.2⟩
 ·next h=>exact⟨False.elim,λq=>h q.1⟩
def Aj{a b:Nat}:Wp (nR (.ref a) (.ref b) st) Q↔∃xs ys,own st a=some xs/\own st b=some ys/\lim (xs.length+ys.length)=true/\Q (.ref st.length) (st ++ [.lst (xs ++ ys)]):=by
 show Wp (match own st a,own st b with|some xs,some ys=>if lim (xs.length+ys.length)=true then some (D.ref st.length,st ++ [O.lst (xs ++ ys)])else none|_,_=>none) Q↔_;cases ha:own st a<;>cases hb:own st b
 ·simp only[gQ];exact⟨False.elim,λ⟨_,_,e,_⟩=>by cases e⟩
 ·simp only[gQ];exact⟨False.elim,λ⟨_,_,e,_⟩=>by cases e⟩
 ·simp only[gQ];exact⟨False.elim,λ⟨_,_,_,e,_⟩=>by cases e⟩
 ·next xs ys =>
  show Wp (if lim (xs.length+ys.length)=true then some (D.ref st.length,st ++ [O.lst (xs ++ ys)])else none) Q↔_;rw[oy,bu,gQ];split
  ·next h=>exact⟨λq=>⟨_,_,rfl,rfl,h,q⟩,λ⟨_,_,e,e',_,q⟩=>by cases e;cases e';exact q⟩
  ·next h=>exact⟨False.elim,λ⟨_,_,e,e',q,_⟩=>by cases e;cases e';exact h q⟩
def Ak{a:D}:Wp (b7 [a] st) Q↔∃ds,cD st a=some ds/\Q (.int ds.length) st:=by
 show Wp (match cD st a with|some ds=>some (D.int ds.length,st)|none=>none) Q↔_;cases cD st a with
 |none=>rw[gQ];exact⟨False.elim,λ⟨_,e,_⟩=>by cases e⟩
 |some ds=>rw[bu];exact⟨λq=>⟨ds,rfl,q⟩,λ⟨_,e,q⟩=>by cases e;exact q⟩
def Vs{a:D}:Wp (oo [a] st) Q↔∃ds,cD st a=some ds/\Q (.ref st.length) (st ++ [.lst ds]):=by
 show Wp (match cD st a with|some ds=>some (D.ref st.length,st ++ [O.lst ds])|none=>none) Q↔_;cases cD st a with
 |none=>rw[gQ];exact⟨False.elim,λ⟨_,e,_⟩=>by cases e⟩
 |some ds=>rw[bu];exact⟨λq=>⟨ds,rfl,q⟩,λ⟨_,e,q⟩=>by cases e;exact q⟩
def Vt{a:D}:Wp (bN [a] st) Q↔∃ds,cD st a=some ds/\Q (.tup ds) st:=by
 show Wp (match cD st a with|some ds=>some (D.tup ds,st)|none=>none) Q↔_;cases cD st a with
 |none=>rw[gQ];exact⟨False.elim,λ⟨_,e,_⟩=>by cases e⟩
 |some ds=>rw[bu];exact⟨λq=>⟨ds,rfl,q⟩,λ⟨_,e,q⟩=>by cases e;exact q⟩
def Vu:Wp (ot [.int i,.int j] st) Q↔Q (.int (if j > i then j else i)) st:=bu
def Vv:Wp (rS [.int i,.int j] st) Q↔Q (.int (if j<i then j else i)) st:=bu
def Vw:Wp (pX [.int i] st) Q↔Q (.int i) st:=bu
def Vx{b:Bool}:Wp (pX [.bl b] st) Q↔Q (.int (if b then 1 else 0)) st:=bu
def Vy:Wp (fJ [.int j] st) Q↔Q (.ref st.length) (st ++ [.iE 0 j]):=bu
def Vz:Wp (fK [.int i,.int j] st) Q↔Q (.ref st.length) (st ++ [.iE i j]):=bu
def VA{y:D}:Wp (aU (.ref k) [y] st) Q↔∃xs,own st k=some xs/\lim xs.length=true/\Q .non (st.set k (.lst (xs ++ [y]))):=by
 show Wp (match own st k with|some xs=>if lim xs.length=true then some (D.non,st.set k (O.lst (xs ++ [y])))else none|none=>none) Q↔_;cases own st k with
 |none=>rw[gQ];exact⟨False.elim,λ⟨_,e,_⟩=>by cases e⟩
 |some xs =>
  show Wp (if lim xs.length=true then some (D.non,st.set k (O.lst (xs ++ [y])))else none) Q↔_;rw[oy,bu,gQ];split
  ·next h=>exact⟨λq=>⟨_,rfl,h,q⟩,λ⟨_,e,_,q⟩=>by cases e;exact q⟩
  ·next h=>exact⟨False.elim,λ⟨_,e,q,_⟩=>by cases e;exact h q⟩
end
abbrev Ws(m:Option (Fl×Store))(N B C:aj->Store->Prop)(R:D->Store->Prop):Prop:=Wp m λfl st=>match fl with
 |.nx δ=>N δ st
 |.bk δ=>B δ st
 |.ct δ=>C δ st
 |.rt d=>R d st
section
variable {st:Store}{δ:aj}{N B C:aj->Store->Prop}{R:D->Store->Prop}{f g:aj->Dm Fl}{e:aj->Dm D}
def xW{m:Option (Fl×Store)}{N':aj->Store->Prop}(h:Ws m N B C R)(hn:∀δ st,N δ st->N' δ st):Ws m N' B C R:=bg h λfl st q=>by
 cases fl with
 |nx δ=>exact hn δ st q
 |bk δ=>exact q
 |ct δ=>exact q
 |rt d=>exact q
def aZ(h:Ws (f δ st) (λδ1 st1=>Ws (g δ1 st1) N B C R) B C R):Ws (ay f g δ st) N B C R:=by
 unfold Ws ay;rw[dr];refine bg h λfl st1 q=>?_;cases fl with
 |nx δ1=>exact q
 |bk δ1=>exact bu.mpr q
 |ct δ1=>exact bu.mpr q
 |rt d=>exact bu.mpr q
def iD(h:N δ st):Ws (aR δ st) N B C R:=bu.mpr h
def vk{t:D->aj->Dm aj}(h:Wp (e δ st) λd st1=>Wp (t d δ st1) N):Ws (aH e t δ st) N B C R:=by unfold Ws aH;rw[dr];refine bg h λd st1 q=>?_;rw[dr];exact bg q λδ1 st2 q=>bu.mpr q
def bZ{i:Nat}(h:Wp (e δ st) λd st1=>N (δ.set i (some d)) st1):Ws (aH e (hName i) δ st) N B C R:=vk (bg h λd st1 q=>bu.mpr q)
def pL(h:Wp (e δ st) λ_ st1=>N δ st1):Ws (cc e δ st) N B C R:=by unfold Ws cc;rw[dr];exact bg h λd st1 q=>bu.mpr q
def fG(h:Wp (e δ st) R):Ws (aX e δ st) N B C R:=by unfold Ws aX;rw[dr];exact bg h λd st1 q=>bu.mpr q
def gL{c:aj->Dm Bool}(h:Wp (c δ st) λb st1=>(b=true->Ws (f δ st1) N B C R)/\(b=false->Ws (g δ st1) N B C R)):Ws (dN c f g δ st) N B C R:=by
 unfold Ws;rw[xV];refine bg h λb st1 q=>?_;cases b with
 |true=>rw[if_pos rfl];exact q.1 rfl
 |false=>rw[if_neg ZC];exact q.2 rfl
def Pj{i j:Nat}{fa:aj->Dm (List D)}(h:Wp (fa δ st) λas st1=>∃a b,as=[a,b]/\N ((δ.set i (some a)).set j (some b)) st1):Ws (uy i j fa δ st) N B C R:=by unfold Ws uy;rw[dr];refine bg h λas st1 q=>?_;obtain⟨a,b,rfl,q⟩:=q;exact bu.mpr q
def iK{n:Nat}{b:aj->Dm Fl}{ds:List D}(h:Ws (b (ds.map some ++ List.replicate (n-ds.length) none) st) (λ_ st1=>R .non st1) (λ_ _=>False) (λ_ _=>False) R):Wp (gS n b ds st) R:=by
 unfold gS;rw[dr];refine bg h λfl st1 q=>?_;cases fl with
 |nx δ1=>exact bu.mpr q
 |bk δ1=>exact q.elim
 |ct δ1=>exact q.elim
 |rt d=>exact bu.mpr q
def B7{c:aj->Dm Bool}{b:aj->Dm Fl}(W:Nat->aj->Store->Prop)(m:Nat)(hm:m<fuel)(h0:W m δ st)
  (step:∀m δ st,W m δ st->Wp (c δ st) λt st1=>(t=true->Ws (b δ st1) (λδ2 st2=>∃m',m' < m/\W m' δ2 st2) N (λδ2 st2=>∃m',m' < m/\W m' δ2 st2) R)/\(t=false->N δ st1)):Ws (iZ c b δ st) N B C R:=by
 have key:∀(k m:Nat) (δ:aj) (st:Store),m<k->W m δ st->Ws (dw c b k δ st) N B C R:=by
  intro k
  induction k with
  |zero=>intro m δ st h;exact absurd h (Zaf _)
  |succ k ih =>
   intro m δ st hk hw;unfold Ws dw;rw[dr];refine bg (step m δ st hw) λt st1 q=>?_;cases t with
   |false=>rw[if_neg ZC];exact bu.mpr (q.2 rfl)
   |true =>
    rw[if_pos rfl,dr];refine bg (q.1 rfl) λfl st2 q=>?_;cases fl with
    |nx δ2=>obtain⟨m',hm',w⟩:=q;exact ih m' δ2 st2 ⋯ w
    |ct δ2=>obtain⟨m',hm',w⟩:=q;exact ih m' δ2 st2 ⋯ w
    |bk δ2=>exact bu.mpr q
    |rt d=>exact bu.mpr q
 exact key fuel m δ st hm h0
def nt{fi:aj->Dm Src}{t:D->aj->Dm aj}{b:aj->Dm Fl}(ds:List D)(Pv:Nat->aj->Store->Prop)(hi:Wp (fi δ st) λS st1=>S=.fix ds/\Pv 0 δ st1)(hl:ds.length<100000)
  (step:∀i d δ st,ds[i]?=some d->Pv i δ st->Wp (t d δ st) λδ1 st1=>Ws (b δ1 st1) (Pv (i+1)) N (Pv (i+1)) R) (fin:∀δ st,Pv ds.length δ st->N δ st):Ws (de fi t b δ st) N B C R:=by
 unfold Ws de;rw[dr];refine bg hi λS lB q=>?_;obtain⟨rfl,h0⟩:=q;have key:∀(k i:Nat) (δ:aj) (st:Store),i<=ds.length->ds.length-i<k->Pv i δ st->Ws (iu (.fix ds) t b k i δ st) N B C R:=by
  intro k
  induction k with
  |zero=>intro i δ st _ h;exact absurd h (Zaf _)
  |succ k ih =>
   intro i δ st hi hk hw;unfold Ws iu;have e:Src.at (.fix ds) i st=some ds[i]?:=by show(if i<=ds.length then some ds[i]? else none)=_;rw[if_pos hi]
   rw[e];cases hd:ds[i]? with
   |none =>
    have:=Zam.mp hd;have e:i=ds.length:=by lk
    exact bu.mpr (fin δ st (e ▸ hw))
   |some d =>
    have hlt:=(Zz.mp hd).1;show Wp (bnd _ _) _;rw[dr];refine bg (step i d δ st hd hw) λδ1 st1 q=>?_;rw[dr];refine bg q λfl st2 q=>?_;cases fl with
    |nx δ2=>exact ih (i+1) δ2 st2 ⋯ ⋯ q
    |ct δ2=>exact ih (i+1) δ2 st2 ⋯ ⋯ q
    |bk δ2=>exact bu.mpr q
    |rt d=>exact bu.mpr q
 exact key fuel 0 δ lB (Zaa _) (Nat.lt_trans ⋯ (show 100000<fuel by decide)) h0
def HG{fi:aj->Dm Src}{t:D->aj->Dm aj}{b:aj->Dm Fl}(ds:List D)(r:Nat)(Pv:Nat->aj->Store->Prop)(hi:Wp (fi δ st) λS st1=>S=.live r/\Pv 0 δ st1)(hl:ds.length<100000)(hk:∀i δ st,Pv i δ st->items st r=some ds)
  (step:∀i d δ st,ds[i]?=some d->Pv i δ st->Wp (t d δ st) λδ1 st1=>Ws (b δ1 st1) (Pv (i+1)) N (Pv (i+1)) R) (fin:∀δ st,Pv ds.length δ st->N δ st):Ws (de fi t b δ st) N B C R:=by
 unfold Ws de;rw[dr];refine bg hi λS lB q=>?_;obtain⟨rfl,h0⟩:=q;have key:∀(k i:Nat) (δ:aj) (st:Store),i<=ds.length->ds.length-i<k->Pv i δ st->Ws (iu (.live r) t b k i δ st) N B C R:=by
  intro k
  induction k with
  |zero=>intro i δ st _ h;exact absurd h (Zaf _)
  |succ k ih =>
   intro i δ st hi hk' hw;unfold Ws iu;have e:Src.at (.live r) i st=some ds[i]?:=by show(items st r).map _=_;rw[hk i δ st hw];rfl
   rw[e];cases hd:ds[i]? with
   |none =>
    have:=Zam.mp hd;have e:i=ds.length:=by lk
    exact bu.mpr (fin δ st (e ▸ hw))
   |some d =>
    have hlt:=(Zz.mp hd).1;show Wp (bnd _ _) _;rw[dr];refine bg (step i d δ st hd hw) λδ1 st1 q=>?_;rw[dr];refine bg q λfl st2 q=>?_;cases fl with
    |nx δ2=>exact ih (i+1) δ2 st2 ⋯ ⋯ q
    |ct δ2=>exact ih (i+1) δ2 st2 ⋯ ⋯ q
    |bk δ2=>exact bu.mpr q
    |rt d=>exact bu.mpr q
 exact key fuel 0 δ lB (Zaa _) (Nat.lt_trans ⋯ (show 100000<fuel by decide)) h0
def Pk{fi:aj->Dm Src}{n:Nat}{js:List Nat}{t:D->aj->Dm aj}{c:aj->Dm Bool}{f:aj->Dm D}{Q:D->Store->Prop}(ds:List D)(Pv:Nat->List D->aj->Store->Prop)
  (hi:Wp (fi δ st) λS st1=>(∀i ys δ st,i<=ds.length->Pv i ys δ st->S.at i st=some ds[i]?)/\Pv 0 [] (pZ n js δ) st1) (hl:ds.length<100000) (hy:∀i ys δ st,Pv i ys δ st->ys.length<=i)
  (step:∀i d ys δ st,ds[i]?=some d->Pv i ys δ st->Wp (t d δ st) λδ1 st1=>Wp (c δ1 st1) λb st2=>(b=true->Wp (f δ1 st2) λy st3=>Pv (i+1) (ys ++ [y]) δ1 st3)/\(b=false->Pv (i+1) ys δ1 st2))
  (fin:∀ys δ st,Pv ds.length ys δ st->Q (.ref st.length) (st ++ [.lst ys])):Wp (cS fi n js t c f δ st) Q:=by
 unfold cS;rw[dr];refine bg hi λS lB q=>?_;obtain⟨hS,h0⟩:=q;have key:∀(k i:Nat) (ys:List D) (δ:aj) (st:Store),i<=ds.length->ds.length-i<k->Pv i ys δ st->Wp (i5 S t c f k i ys δ st) λzs qP=>∃δ9,Pv ds.length zs δ9 qP:=by
  intro k
  induction k with
  |zero=>intro i ys δ st _ h;exact absurd h (Zaf _)
  |succ k ih =>
   intro i ys δ st hi hk' hw;unfold i5;have hlim:lim ys.length=true:=Nat.ble_eq_true_of_le (by have:=hy i ys δ st hw;lk);rw[if_pos hlim,hS i ys δ st hi hw];cases hd:ds[i]? with
   |none =>
    have:=Zam.mp hd;have e:i=ds.length:=by lk
    exact bu.mpr ⟨δ,e ▸ hw⟩
   |some d =>
    have hlt:=(Zz.mp hd).1;show Wp (bnd _ _) _;rw[dr];refine bg (step i d ys δ st hd hw) λδ1 st1 q=>?_;rw[dr];refine bg q λb st2 q=>?_;cases b with
    |true =>
     rw[if_pos rfl,dr];exact bg (q.1 rfl) λy st3 q=>ih (i+1) _ δ1 st3 ⋯ ⋯ q
    |false =>
     rw[if_neg ZC];exact ih (i+1) ys δ1 st2 ⋯ ⋯ (q.2 rfl)
 rw[dr];exact bg (key fuel 0 [] _ lB (Zaa _) (Nat.lt_trans ⋯ (show 100000<fuel by decide)) h0) λzs qP ⟨δ9,q⟩=>bu.mpr (fin zs δ9 qP q)
end
abbrev keyOf:D->Option Key
 |.int i=>some (.inl i)
 |.str x=>some (.inr x)
 |_=>none
abbrev jU(st:Store):D->Option (List (Key×D))
 |.ref i=>match st[i]? with
  |some (.dct kvs)=>some kvs
  |_=>none
 |_=>none
abbrev dU(kvs:List (Key×D))(k:Key):Option D:=(kvs.find? λkv=>decide (kv.1=k)).map (·.2)
abbrev putD(kvs:List (Key×D))(k:Key)(v:D):List (Key×D) :=
 if(kvs.any λkv=>decide (kv.1=k))=true then kvs.map (λkv=>if kv.1=k then(kv.1,v)else kv)else kvs ++ [(k,v)]
section
variable {K:Zfr}{ρ:List Addr}{H:Hp}{st:Store}
def BN{x:V}{y:D}{k:Key}(r:Rp K ρ H x y)(h:keyOf y=some k):x=kV k:=by cases r<;>first|(cases h;rfl)|cases h
def Pm{x:V}{a:D}{kvs:List (Key×D)}(l:Rl K ρ H st)(r:Rp K ρ H x a)(h:jU st a=some kvs):∃p i ws,x=.ref p/\a=.ref i/\ρ[i]?=some p/\st[i]?=some (.dct kvs)/\H p=some (.dK ws)/\Rk K ρ H ws kvs:=by
 cases r<;>first|(cases h;done)|skip
 next hi =>
  simp only[jU]at h;split at h
  ·next kvs' hs =>
   cases h;obtain⟨ws,e,r⟩:=l.obj _ _ _ hi hs;exact⟨_,_,ws,rfl,rfl,hi,hs,e,r⟩
  ·cases h
def Rk.val{ws:List (Key×V)}{kvs:List (Key×D)}(r:Rk K ρ H ws kvs)(k:Key):(∀d,dU kvs k=some d->∃v,kR ws k=some v/\Rp K ρ H v d)/\(kR ws k).isSome=(dU kvs k).isSome:=by
 induction r with
 |nil=>exact⟨λd h=>(by cases h),rfl⟩
 |@cons p q ps qs h t ih =>
  obtain⟨h1,h2⟩:=h;unfold dU kR at ih ⊢;rw[ZaA,ZaA];by_cases e:p.1=k;rw[decide_eq_true e,decide_eq_true (h1 ▸ e)];exact⟨λd hd=>by cases hd;exact⟨_,rfl,h2⟩,rfl⟩;rw[decide_eq_false e,decide_eq_false (h1 ▸ e)];exact ih
def Rk.app{ws B8:List (Key×V)}{kvs kvs':List (Key×D)}(r:Rk K ρ H ws kvs)(r':Rk K ρ H B8 kvs'):Rk K ρ H (ws ++ B8) (kvs ++ kvs'):=by
 induction r with
 |nil=>exact r'
 |cons h _ ih=>exact .cons h ih
def Rk.put{ws:List (Key×V)}{kvs:List (Key×D)}{v:V}{d:D}(r:Rk K ρ H ws kvs)(k:Key)(rv:Rp K ρ H v d):Rk K ρ H (putK ws k v) (putD kvs k d):=by
 have hany:(ws.any λkv=>decide (kv.1=k))=(kvs.any λkv=>decide (kv.1=k)):=by
  induction r with
  |nil=>rfl
  |cons h _ ih=>rw[Zax,Zax,ih,h.1]
 have hmap:Rk K ρ H (ws.map λkv=>if kv.1=k then(kv.1,v)else kv) (kvs.map λkv=>if kv.1=k then(kv.1,d)else kv):=by
  clear hany
  induction r with
  |nil=>exact .nil
  |@cons p q ps qs h _ ih =>
   refine .cons ?_ ih;dsimp only;by_cases e:p.1=k;rw[if_pos e,if_pos (h.1 ▸ e)];exact⟨h.1,rv⟩;rw[if_neg e,if_neg (h.1 ▸ e)];exact h
 unfold putK putD;rw[hany];split;exact hmap;exact r.app (.cons ⟨rfl,rv⟩ .nil)
def Rk.length{ws:List (Key×V)}{kvs:List (Key×D)}(r:Rk K ρ H ws kvs):ws.length=kvs.length:=by
 induction r with
 |nil=>rfl
 |cons _ _ ih=>rw[Z2,Z2,ih]
end
section
variable {K:Zfr}
abbrev uB:aj->Dm D:=λ_ st=>some (.ref st.length,st ++ [.dct []])
def VB:dR K tO uB:=by intro ρ σ H δ st b st' Q l rs e q;cases e;exactλp hp=>q _ _ _ (Mn.new hp) (l.newD hp .nil) (.ref (newR l))
abbrev xX(fd fy:aj->Dm D):aj->Dm D:=λδ st=>bnd (fd δ st) λx st1=>bnd (fy δ st1) λy st2=>match jU st2 x,keyOf y with
 |some kvs,some k=>match dU kvs k with
  |some v=>some (v,st2)
  |none=>none
 |_,_=>none
abbrev wj(neg:Bool)(fy fd:aj->Dm D):aj->Dm D:=λδ st=>bnd (fy δ st) λy st1=>bnd (fd δ st1) λx st2=>match jU st2 x,keyOf y with
 |some kvs,some k=>some (.bl (if neg then !(dU kvs k).isSome else(dU kvs k).isSome),st2)
 |_,_=>none
def VC{td ty:TE}{fd fy:aj->Dm D}(hy:dR K ty fy)(hd:dR K td fd):dR K (rA ty td) (wj true fy fd):=by
 intro ρ σ H δ st b st' Q l rs e q;obtain⟨y,st1,e1,e⟩:=cm e;obtain⟨x,st2,e2,e⟩:=cm e;refine hy ρ σ H δ st y st1 _ l rs e1 λvy H1 ρ1 m1 l1 r1=>hd ρ1 σ H1 δ st1 x st2 _ l1 (rs.mn m1) e2 λvx H2 ρ2 m2 l2 r2=>?_;split at e
 ·next kvs k hx hk =>
  cases e;obtain⟨p,i,ws,rfl,rfl,hi,hs,hp,rk⟩:=Pm l2 r2 hx;refine⟨p,kR ws k,rfl,by rw[BN r1 hk];exact tM.k hp,q _ H2 ρ2 (m1.trans m2) l2 ?_⟩;rw[(rk.val k).2];exact .bl _
 ·cases e
abbrev rT(fd fy fv:aj->Dm D):aj->Dm Fl:=λδ st=>bnd (fv δ st) λv st1=>bnd (fd δ st1) λx st2=>bnd (fy δ st2) λy st3=>match x,jU st3 x,keyOf y with
 |.ref i,some kvs,some k=>if lim kvs.length=true then some (.nx δ,st3.set i (.dct (putD kvs k v)))else none
 |_,_,_=>none
def VD{td ty tv:TE}{fd fy fv:aj->Dm D}(hd:dR K td fd)(hy:dR K ty fy)(hv:dR K tv fv):ow K (xo td ty tv) (rT fd fy fv):=by
 intro ρ σ H δ st fl st' E l rs e q;obtain⟨v,st1,e1,e⟩:=cm e;obtain⟨x,st2,e2,e⟩:=cm e;obtain⟨y,st3,e3,e⟩:=cm e;refine hv ρ σ H δ st v st1 _ l rs e1 λvv H1 ρ1 m1 l1 r1=>hd ρ1 σ H1 δ st1 x st2 _ l1 (rs.mn m1) e2 λvx H2 ρ2 m2 l2 r2=>hy ρ2 σ H2 δ st2 y st3 _ l2 (rs.mn (m1.trans m2)) e3 λvy H3 ρ3 m3 l3 r3=>?_;obtain⟨i,rfl⟩:∃i,x=.ref i:=by
  cases x<;>first|exact⟨_,rfl⟩|(simp at e;done)|cases e
 cases hx:jU st3 (.ref i)with
 |none=>rw[hx]at e;cases e
 |some kvs =>
 cases hk:keyOf y with
 |none=>rw[hx,hk]at e;cases e
 |some k =>
  rw[hx,hk]at e;simp only at e;split at e
  ·next hl =>
   cases e;obtain⟨p,j,ws,rfl,ej,hi,hs,hp,rk⟩:=Pm l3 (r2.mn m3) hx;cases ej;obtain⟨l4,m4⟩:=l3.zz hi hs (rk.put k (r1.mn (m2.trans m3)));have mm:=((m1.trans m2).trans m3).trans m4;refine⟨p,_,rfl,?_,q σ _ ρ3 mm l4 (rs.mn mm)⟩;rw[BN r3 hk];exact tN.k hp (by rw[rk.length];exact K9 hl)
  ·cases e
abbrev EF:aj->Dm (List (D×D)):=λ_ st=>some ([],st)
abbrev uC(fk fv:aj->Dm D)(fr:aj->Dm (List (D×D))):aj->Dm (List (D×D)):=λδ st=>bnd (fk δ st) λk st1=>bnd (fv δ st1) λv st2=>bnd (fr δ st2) λr st3=>some ((k,v) :: r,st3)
abbrev keysOf:List (D×D)->Option (List (Key×D))
 |[]=>some []
 |(k,v) :: r=>match keyOf k,keysOf r with
  |some k',some r'=>some ((k',v) :: r')
  |_,_=>none
abbrev uD(kvs more:List (Key×D)):List (Key×D):=more.foldl (λacc kv=>putD acc kv.1 kv.2) kvs
abbrev xY(fp:aj->Dm (List (D×D))):aj->Dm D:=λδ st=>bnd (fp δ (st ++ [.dct []])) λps st2=>match st2[st.length]?,keysOf ps with
 |some (.dct []),some kvs=>if kvs.length<=15 then some (.ref st.length,st2.set st.length (.dct (uD [] kvs)))else none
 |_,_=>none
end
section
variable {st:Store}{δ:aj}{Q:D->Store->Prop}
def VE:Wp (uB δ st) Q↔Q (.ref st.length) (st ++ [.dct []]):=bu
def VF{fd fy:aj->Dm D}:Wp (xX fd fy δ st) Q↔Wp (fd δ st) λx st1=>Wp (fy δ st1) λy st2=>∃kvs k v,jU st2 x=some kvs/\keyOf y=some k/\dU kvs k=some v/\Q v st2:=by
 unfold xX;rw[dr];simp only[dr];constructor<;>refineλh=>bg h λx s h=>bg h λy s2 h=>?_
 ·split at h
  ·next kvs k h1 h2 =>
   split at h
   ·next v h3=>exact⟨kvs,k,v,by assumption,by assumption,h3,bu.mp h⟩
   ·exact(gQ.mp h).elim
  ·exact(gQ.mp h).elim
 ·obtain⟨kvs,k,v,h1,h2,h3,h⟩:=h
  rw[h1,h2];simp only[h3];exact bu.mpr h
def Al{neg:Bool}{fd fy:aj->Dm D}:Wp (wj neg fy fd δ st) Q↔Wp (fy δ st) λy st1=>Wp (fd δ st1) λx st2=>∃kvs k,jU st2 x=some kvs/\keyOf y=some k/\Q (.bl (if neg then !(dU kvs k).isSome else(dU kvs k).isSome)) st2:=by
 unfold wj;rw[dr];simp only[dr];constructor<;>refineλh=>bg h λx s h=>bg h λy s2 h=>?_
 ·split at h
  ·next kvs k h1 h2=>exact⟨kvs,k,by assumption,by assumption,bu.mp h⟩
  ·exact(gQ.mp h).elim
 ·obtain⟨kvs,k,h1,h2,h⟩:=h
  rw[h1,h2];exact bu.mpr h
def VG{R:List (D×D)->Store->Prop}:Wp (EF δ st) R↔R [] st:=bu
def VH{fk fv:aj->Dm D}{fr:aj->Dm (List (D×D))}{R:List (D×D)->Store->Prop}:Wp (uC fk fv fr δ st) R↔Wp (fk δ st) λk st1=>Wp (fv δ st1) λv st2=>Wp (fr δ st2) λr st3=>R ((k,v) :: r) st3:=by unfold uC;rw[dr];simp only[dr,bu]
def VI{fp:aj->Dm (List (D×D))}:Wp (xY fp δ st) Q↔Wp (fp δ (st ++ [.dct []])) λps st2=>st2[st.length]?=some (.dct [])/\∃kvs,keysOf ps=some kvs/\kvs.length<=15/\Q (.ref st.length) (st2.set st.length (.dct (uD [] kvs))):=by
 unfold xY;rw[dr];constructor<;>refineλh=>bg h λps s h=>?_
 ·split at h
  ·next kvs h1 h2 =>
   rw[oy,bu,gQ]at h;split at h
   ·next hl=>exact⟨by assumption,kvs,by assumption,hl,h⟩
   ·exact h.elim
  ·exact(gQ.mp h).elim
 ·obtain⟨h1,kvs,h2,h3,h⟩:=h
  rw[h1,h2];simp only[if_pos h3];exact bu.mpr h
def VJ{fd fy fv:aj->Dm D}{N B C:aj->Store->Prop}{R:D->Store->Prop}(h:Wp (fv δ st) λv st1=>Wp (fd δ st1) λx st2=>Wp (fy δ st2) λy st3=>∃i kvs k,x=.ref i/\jU st3 x=some kvs/\keyOf y=some k/\lim kvs.length=true/\N δ (st3.set i (.dct (putD kvs k v)))):Ws (rT fd fy fv δ st) N B C R:=by unfold Ws rT;rw[dr];refine bg h λv st1 h=>?_;rw[dr];refine bg h λx st2 h=>?_;rw[dr];refine bg h λy st3 h=>?_;obtain⟨i,kvs,k,rfl,h1,h2,h3,h⟩:=h;rw[h1,h2];simp only[h3];exact bu.mpr h
end
structure Ex(c:List Nat)(st st':Store):Prop where
 len:st.length<=st'.length
 keep:∀(i:Nat) (o:O),st[i]?=some o->i ∉ c->st'[i]?=some o
section
variable {c c':List Nat}{st st1 st2:Store}{i:Nat}{o:O}{ds:List D}
def Ex.refl:Ex c st st:=⟨ZA _,λ_ _ h _=>h⟩
def Ex.trans(a:Ex c st st1)(b:Ex c st1 st2):Ex c st st2:=⟨Z3 a.len b.len,λi o h n=>b.keep i o (a.keep i o h n) n⟩
def Ex.mono(a:Ex c st st1)(h:∀x∈c,x∈c'):Ex c' st st1:=⟨a.len,λi o e n=>a.keep i o e λz=>n (h i z)⟩
def Ex.any(a:Ex [] st st1):Ex c st st1:=a.mono λx h=>nomatch h
def eu{α:Type}{l:List α}{i:Nat}{o:α}(h:l[i]?=some o):i<l.length:=(Zz.mp h).1
def kg{l m:List O}(h:l[i]?=some o):(l ++ m)[i]?=some o:=by rw[ZQ (eu h)];exact h
def iw{l:List O}:(l ++ [o])[l.length]?=some o:=by rw[ZW (ZA _),ZaM];rfl
def Ex.app(a:Ex c st st1)(m:List O):Ex c st (st1 ++ m):=⟨by rw[ZH];exact Z3 a.len (Nat.le_add_right _ _),λi o h n=>kg (a.keep i o h n)⟩
def Ex.cj(m:List O):Ex c st (st ++ m):=Ex.refl.app m
def Ex.put(a:Ex c st st1)(h:i∈c):Ex c st (st1.set i o):=⟨by rw[Zae];exact a.len,λj u e n=>by rw[ZJ (λz=>n (by rw[<- z];exact h))];exact a.keep j u e n⟩
def Ex.loc(a:Ex c st st1)(h:st.length<=i):Ex c st (st1.set i o):=⟨by rw[Zae];exact a.len,λj u e n=>by rw[ZJ (by have:=eu e;lk)];exact a.keep j u e n⟩
def bJ(h:st[i]?=some (.lst ds)):items st i=some ds:=by unfold items;rw[h]
def Pn(h:st[i]?=some (.pH ds)):items st i=some ds:=by unfold items;rw[h]
def kJ(h:st[i]?=some (.lst ds)):own st i=some ds:=by unfold own;rw[h]
def sM:items (st ++ [.lst ds]) st.length=some ds:=bJ iw
def VL:own (st ++ [.lst ds]) st.length=some ds:=kJ iw
def VM{o':O}:items (st ++ [.lst ds] ++ [o']) st.length=some ds:=bJ (kg iw)
def VN{o':O}:own (st ++ [.lst ds] ++ [o']) st.length=some ds:=kJ (kg iw)
def VO{o' o2:O}:items (st ++ [.lst ds] ++ [o'] ++ [o2]) st.length=some ds:=bJ (kg (kg iw))
def VP{o' o2:O}:own (st ++ [.lst ds] ++ [o'] ++ [o2]) st.length=some ds:=kJ (kg (kg iw))
def VQ{lo hi:Int}:jJ (st ++ [.iE lo hi]) (.ref st.length)=some (lo,hi):=by simp only[jJ,iw]
def VR:cD st (.tup ds)=some ds:=rfl
def Li:cD st (.ref i)=items st i:=rfl
def nu(h:(items st i).isSome=true):vh "list" st (.ref i)=true:=by simp only[vh,h];rfl
def Lj:vh "tuple" st (.tup ds)=true:=by simp only[vh];rfl
def jV{n:Nat}(h:n<=100000):lim n=true:=Nat.ble_eq_true_of_le h
end
section
variable {st:Store}{Q:D->Store->Prop}{i j:Int}{k:Nat}{ds es:List D}
def VS{a:D}:Wp (dc [a] st) Q↔∃p,jJ st a=some p/\sI p.1 p.2=true/\Q (.ref st.length) (st ++ [.lst (aC p.1 (p.2-p.1).toNat)]):=by
 show Wp (match jJ st a with|some (lo,hi)=>if sI lo hi=true then some (D.ref st.length,st ++ [O.lst (aC lo (hi-lo).toNat)])else none|none=>none) Q↔_;cases jJ st a with
 |none=>rw[gQ];exact⟨False.elim,λ⟨_,e,_⟩=>by cases e⟩
 |some p =>
  obtain⟨lo,hi⟩:=p;show Wp (if sI lo hi=true then some (D.ref st.length,st ++ [O.lst (aC lo (hi-lo).toNat)])else none) Q↔_;rw[oy,bu,gQ];split
  ·next h=>exact⟨λq=>⟨_,rfl,h,q⟩,λ⟨_,e,_,q⟩=>by cases e;exact q⟩
  ·next h=>exact⟨False.elim,λ⟨_,e,q,_⟩=>by cases e;exact h q⟩
def VT{a:D}:Wp (wc [a] st) Q↔∃p,jJ st a=some p/\sI p.1 p.2=true/\Q (.tup (aC p.1 (p.2-p.1).toNat)) st:=by
 show Wp (match jJ st a with|some (lo,hi)=>if sI lo hi=true then some (D.tup (aC lo (hi-lo).toNat),st)else none|none=>none) Q↔_;cases jJ st a with
 |none=>rw[gQ];exact⟨False.elim,λ⟨_,e,_⟩=>by cases e⟩
 |some p =>
  obtain⟨lo,hi⟩:=p;show Wp (if sI lo hi=true then some (D.tup (aC lo (hi-lo).toNat),st)else none) Q↔_;rw[oy,bu,gQ];split
  ·next h=>exact⟨λq=>⟨_,rfl,h,q⟩,λ⟨_,e,_,q⟩=>by cases e;exact q⟩
  ·next h=>exact⟨False.elim,λ⟨_,e,q,_⟩=>by cases e;exact h q⟩
def Am:Wp (uv (.ref k) (.int j) st) Q↔∃xs,own st k=some xs/\(-9223372036854775808<=j/\j<9223372036854775808)/\lim (xs.length*j.toNat)=true/\Q (.ref st.length) (st ++ [.lst (List.replicate j.toNat xs).flatten]):=by
 show Wp (match own st k with|some a=>if(decide (-9223372036854775808<=j/\j<9223372036854775808) && lim (a.length*j.toNat))=true then some (D.ref st.length,st ++ [O.lst (List.replicate j.toNat a).flatten])else none|_=>none) Q↔_;cases own st k with
 |none=>simp only[gQ];exact⟨False.elim,λ⟨_,e,_⟩=>by cases e⟩
 |some xs =>
  show Wp (if(decide (-9223372036854775808<=j/\j<9223372036854775808) && lim (xs.length*j.toNat))=true then some (D.ref st.length,st ++ [O.lst (List.replicate j.toNat xs).flatten])else none) Q↔_;rw[oy,bu,gQ];split
  ·next h=>rw[ZV,decide_eq_true_eq]at h;exact⟨λq=>⟨_,rfl,h.1,h.2,q⟩,λ⟨_,e,_,_,q⟩=>by cases e;exact q⟩
  ·next h=>rw[ZV,decide_eq_true_eq]at h;exact⟨False.elim,λ⟨_,e,q,q',_⟩=>by cases e;exact h ⟨q,q'⟩⟩
def VU:Wp (l6 (.ref k) [.int i] st) Q↔∃xs j y,own st k=some xs/\(-9223372036854775808<=i/\i<9223372036854775808)/\seqIndex? i xs.length=some j/\xs[j]?=some y/\Q y (st.set k (.lst (xs.eraseIdx j))):=by
 constructor
 ·rintro⟨a,s,e,q⟩
  simp only[l6]at e;split at e
  ·next xs hx =>
   split at e
   ·next hk =>
    split at e
    ·next j hj =>
     split at e
     ·next y hy=>cases e;exact⟨xs,j,_,hx,of_decide_eq_true hk,hj,hy,q⟩
     ·cases e
    ·cases e
   ·cases e
  ·cases e
 ·rintro⟨xs,j,y,hx,hk,hj,hy,q⟩
  refine⟨_,_,?_,q⟩;simp only[l6,hx,hj,hy,decide_eq_true hk];rfl
def VW{b:Nat}:Wp (oX (.ref k) [.ref b] st) Q↔∃xs ys,own st k=some xs/\own st b=some ys/\lim (xs.length+ys.length)=true/\Q .non (st.set k (.lst (xs ++ ys))):=by
 constructor
 ·rintro⟨a,s,e,q⟩
  simp only[oX]at e;split at e
  ·next xs ys hx hy =>
   split at e
   ·next hl=>cases e;exact⟨xs,ys,hx,hy,hl,q⟩
   ·cases e
  ·cases e
 ·rintro⟨xs,ys,hx,hy,hl,q⟩
  refine⟨_,_,?_,q⟩;simp only[oX,hx,hy,hl];rfl
def Po{v:Int}:Wp (iX (.tup ds) [.int v] st) Q↔∃ns j,bH iV ds=some ns/\ns.findIdx? (λi=>decide (i=v))=some j/\Q (.int (j:Int)) st:=by
 constructor
 ·rintro⟨a,s,e,q⟩
  simp only[iX]at e;split at e
  ·next ns hn =>
   split at e
   ·next j hj=>cases e;exact⟨ns,j,hn,hj,q⟩
   ·cases e
  ·cases e
 ·rintro⟨ns,j,hn,hj,q⟩
  refine⟨_,_,?_,q⟩;simp only[iX,hn,hj]
def VX{v:Int}{ns:List Int}(h:items st k=some (ns.map D.int))(hv:v∈ns)(hl:ns.length<=1000)(hb:∀i∈ns,-1000000000000000000<=i/\i<=1000000000000000000):Wp (ke (.ref k) [.int v] st) Q↔Q (.int (ns.idxOf v:Int)) st:=by
 have e:bH iV (ns.map D.int)=some ns:=by
  have:=uu (f:=iV) (g:=D.int) (k:=id) (λ_=>rfl) ns;rw[this,ZaT]
 have e2:ke (.ref k) [.int v] st=some (.int (ns.idxOf v:Int),st):=by
  simp only[ke,h,ZaE,e];rw[if_pos ⟨hv,hl,hb⟩]
 rw[e2,bu]
def An:Wp (zM [.ref k] st) Q↔∃ds bs,items st k=some ds/\bH bV ds=some bs/\Q (.bl (bs.all id)) st:=by
 constructor
 ·rintro⟨a,s,e,q⟩
  simp only[zM]at e;split at e
  ·next bs hb =>
   cases e;obtain⟨ds,h1,h2⟩:=Zal.mp hb;exact⟨ds,bs,h1,h2,q⟩
  ·cases e
 ·rintro⟨ds,bs,h1,h2,q⟩
  refine⟨_,_,?_,q⟩;simp only[zM,h1,ZaE,h2]
def EG{neg:Bool}{a c:D}:Wp (sX neg a c st) Q↔∃x ds vs,sV a=some x/\cD st c=some ds/\bH sV ds=some vs/\Q (.bl (if neg then !xk x vs else xk x vs)) st:=by
 constructor
 ·rintro⟨b,s,e,q⟩
  simp only[sX]at e;split at e
  ·next x vs h1 h2 =>
   cases e;obtain⟨ds,h3,h4⟩:=Zal.mp h2;exact⟨x,ds,vs,h1,h3,h4,q⟩
  ·cases e
 ·rintro⟨x,ds,vs,h1,h2,h3,q⟩
  refine⟨_,_,?_,q⟩;simp only[sX,h1,h2,ZaE,h3]
def Pp(ns:List Int):bH sV (ns.map D.int)=some (ns.map V.int):=uu (f:=sV) (g:=D.int) (k:=V.int) (λ_=>rfl) ns
def Pq(ns:List Int):bH iV (ns.map D.int)=some ns:=by have:=uu (f:=iV) (g:=D.int) (k:=id) (λ_=>rfl) ns;rw[this,ZaT]
def HI{neg:Bool}{a b:D}:Wp (gO neg a b st) Q↔∃p q,cW st 20 a=some p/\cW st 20 b=some q/\(PyData.canLay0 p=true/\PyData.canLay0 q=true/\min p.depth q.depth<=60)/\Q (.bl (if neg then !PyData.eqv p q else PyData.eqv p q)) st:=by
 constructor
 ·rintro⟨c,s,e,q⟩
  simp only[gO]at e;split at e
  ·next x y h1 h2 =>
   split at e
   ·next hs =>
    cases e;rw[ZV,ZV,decide_eq_true_eq]at hs;exact⟨x,y,h1,h2,⟨hs.1.1,hs.1.2,hs.2⟩,q⟩
   ·cases e
  ·cases e
 ·rintro⟨x,y,h1,h2,⟨h3,h4,h5⟩,q⟩
  refine⟨_,_,?_,q⟩;simp only[gO,h1,h2,h3,h4,decide_eq_true h5];rfl
def Ao{z:Str}:Wp (zH (.str z) (.int i) st) Q↔∃c,lim z.length=true/\fB z.cps.toList i=some c/\Q (.str ⟨#[c]⟩) st:=by
 constructor
 ·rintro⟨c,s,e,q⟩
  simp only[zH]at e;split at e
  ·next h1 =>
   split at e
   ·next c hc=>cases e;exact⟨c,h1,hc,q⟩
   ·cases e
  ·cases e
 ·rintro⟨c,h1,h2,q⟩
  refine⟨_,_,?_,q⟩;simp only[zH,h1,h2];rfl
def VY{δ:aj}{fa:aj->Dm (List D)}{R:Src->Store->Prop}:Wp (b8 fa δ st) R↔Wp (fa δ st) λas st1=>∃j,as=[.int j]/\(-4611686018427387904<=j/\j<4611686018427387904)/\R (.fix (aC 0 j.toNat)) st1:=by
 unfold b8;rw[dr];constructor<;>refineλh=>bg h λas s h=>?_
 ·split at h
  ·next j =>
   rw[oy,bu,gQ]at h;split at h
   ·next hk=>exact⟨j,rfl,of_decide_eq_true hk,h⟩
   ·exact h.elim
  ·exact(gQ.mp h).elim
 ·obtain⟨j,rfl,h1,h⟩:=h
  simp only[decide_eq_true h1,if_true];exact bu.mpr h
def VZ{δ:aj}{fa:aj->Dm (List D)}{R:Src->Store->Prop}:Wp (oZ fa δ st) R↔Wp (fa δ st) λas st1=>∃i j,as=[.int i,.int j]/\((-4611686018427387904<=i/\i<4611686018427387904)/\-4611686018427387904<=j/\j<4611686018427387904)/\R (.fix (aC i (j-i).toNat)) st1:=by
 unfold oZ;rw[dr];constructor<;>refineλh=>bg h λas s h=>?_
 ·split at h
  ·next i j =>
   rw[oy,bu,gQ]at h;split at h
   ·next hk=>exact⟨i,j,rfl,of_decide_eq_true hk,h⟩
   ·exact h.elim
  ·exact(gQ.mp h).elim
 ·obtain⟨i,j,rfl,h1,h⟩:=h
  simp only[decide_eq_true h1,if_true];exact bu.mpr h
def V0{δ:aj}{fa:aj->Dm D}{R:Src->Store->Prop}:Wp (cZ fa δ st) R↔Wp (fa δ st) λa st1=>∃ds,a=.tup ds/\R (.fix ds) st1:=by unfold cZ;rw[dr];constructor<;>refineλh=>bg h λa s h=>?_;cases a<;>simp only[bu,gQ]at h;exact⟨_,rfl,h⟩;obtain⟨j,rfl,h⟩:=h;exact bu.mpr h
def V1{δ:aj}{fa:aj->Dm D}{R:Src->Store->Prop}:Wp (jT fa δ st) R↔Wp (fa δ st) λa st1=>∃i ds,a=.ref i/\items st1 i=some ds/\R (.live i) st1:=by
 unfold jT;rw[dr];constructor<;>refineλh=>bg h λa s h=>?_
 ·split at h
  ·split at h
   ·next i ds hd=>exact⟨_,ds,rfl,hd,bu.mp h⟩
   ·exact(gQ.mp h).elim
  ·exact(gQ.mp h).elim
 ·obtain⟨i,ds,rfl,hd,h⟩:=h
  simp only[hd];exact bu.mpr h
def V2{δ:aj}{fa:aj->Dm (List D)}{R:Src->Store->Prop}:Wp (nr fa δ st) R↔Wp (fa δ st) λas st1=>∃ds,as=[.tup ds]/\R (.fix (mw ds)) st1:=by unfold nr;rw[dr];constructor<;>refineλh=>bg h λas s h=>?_;split at h;exact⟨_,rfl,bu.mp h⟩;exact(gQ.mp h).elim;obtain⟨ds,rfl,h⟩:=h;exact bu.mpr h
def Pr{i:Nat}{d:D}{δ:aj}{R:aj->Store->Prop}:Wp (hName i d δ st) R↔R (δ.set i (some d)) st:=bu
def V3{δ:aj}{R:aj->Store->Prop}:Wp (nU [] δ st) R↔R δ st:=bu
def V4{f:D->aj->Dm aj}{g:List D->aj->Dm aj}{d:D}{ds:List D}{δ:aj}{R:aj->Store->Prop}:Wp (cR f g (d :: ds) δ st) R↔Wp (f d δ st) λδ1 st1=>Wp (g ds δ1 st1) R:=dr
def V5{n:Nat}{f:List D->aj->Dm aj}{ds:List D}{δ:aj}{R:aj->Store->Prop}:Wp (ni n f (.tup ds) δ st) R↔ds.length=n/\Wp (f ds δ st) R:=by
 show Wp (if ds.length=n then f ds δ st else none) R↔_;rw[oy,gQ];split
 ·next h=>exact⟨λq=>⟨h,q⟩,λq=>q.2⟩
 ·next h=>exact⟨False.elim,λq=>h q.1⟩
def V6{fo fi:aj->Dm D}{d:D}{δ:aj}{R:aj->Store->Prop}:Wp (hSub fo fi d δ st) R↔Wp (fo δ st) λo st1=>Wp (fi δ st1) λi st2=>∃r k xs j,o=.ref r/\i=.int k/\own st2 r=some xs/\mO xs.length k=some j/\R δ (st2.set r (.lst (xs.set j d))):=by
 unfold hSub;rw[dr];simp only[dr];constructor<;>refineλh=>bg h λo s h=>bg h λi s2 h=>?_
 ·split at h
  ·split at h
   ·next xs hx =>
    split at h
    ·next j hj=>exact⟨_,_,xs,j,rfl,rfl,hx,hj,bu.mp h⟩
    ·exact(gQ.mp h).elim
   ·exact(gQ.mp h).elim
  ·exact(gQ.mp h).elim
 ·obtain⟨r,k,xs,j,rfl,rfl,hx,hj,h⟩:=h
  simp only[hx,hj];exact bu.mpr h
def V7{a:D}{c:String}:Wp (oY [a,.ty c] st) Q↔sJ st a=some c/\Q (.bl true) st:=by
 constructor
 ·rintro⟨b,s,e,q⟩
  simp only[oY]at e;split at e
  ·next T hT =>
   split at e
   ·next h=>cases e;subst h;exact⟨hT,q⟩
   ·cases e
  ·cases e
 ·rintro⟨h,q⟩
  refine⟨_,_,?_,q⟩;simp only[oY,h,if_true]
def Pt{δ:aj}{R:Bool->Store->Prop}:Wp (dz δ st) R↔R true st:=bu
end
def Pu{α:Type}(x:α)(xs:List α):fB (x :: xs) 0=some x:=by unfold fB mO;rw[if_pos ∅,if_pos (by simp only[Z2];lk)];rfl
def Pw{α:Type}(x y:α)(xs:List α):fB (x :: y :: xs) 1=some y:=by unfold fB mO;rw[if_pos ∅,if_pos (by simp only[Z2];lk)];rfl
def Ap{α:Type}{a:α}{l:List α}:(a :: l)[0]?=some a:=List.getElem?_cons_zero
def Aq{α:Type}{a:α}{l:List α}{i:Nat}:(a :: l)[i+1]?=l[i]?:=List.getElem?_cons_succ
def Ar{α:Type}{a b:α}{l:List α}:(a :: l).set 0 b=b :: l:=List.set_cons_zero
def As{α:Type}{a b:α}{l:List α}{i:Nat}:(a :: l).set (i+1) b=a :: l.set i b:=List.set_cons_succ
def Au{α:Type}(a b:α):(some a=some b)=(a=b):=Option.some.injEq a b
def EH{α:Type}{p:α->Prop}{a':α}:(∃a,a'=a/\p a)↔p a':=exists_eq_left'
def Lk{α:Type}{p:α->Prop}{a':α}:(∃a,a=a'/\p a)↔p a':=exists_eq_left
def EI{α:Type}{p:α->Prop}{b:Prop}:(∃x,b/\p x)↔b/\∃x,p x:=exists_and_left
def EJ(a b:Int):(D.int a=D.int b)=(a=b):=D.int.injEq a b
def Lm(a b:Bool):(D.bl a=D.bl b)=(a=b):=D.bl.injEq a b
def EK(a b:Str):(D.str a=D.str b)=(a=b):=D.str.injEq a b
def EL(a b:List D):(D.tup a=D.tup b)=(a=b):=D.tup.injEq a b
def EM(a b:Nat):(D.ref a=D.ref b)=(a=b):=D.ref.injEq a b
def Av{α:Type}(a:α)(l:List α)(b:α)(m:List α):(a :: l=b :: m)=(a=b/\l=m):=List.cons.injEq a l b m
def Aw{α β:Type}(a:α)(b:β)(c:α)(d:β):((a,b)=(c,d))=(a=c/\b=d):=Prod.mk.injEq a b c d
def Ax(p:Prop):(p/\True)=p:=and_true p
def Ay(p:Prop):(True/\p)=p:=true_and p
def Az:(!true)=false:=rfl
def AA:(!false)=true:=rfl
def Ln:(false=true)=False:=by simp
def EN{α:Type}{h:Decidable False}(t e:α):@ite α False h t e=e:=if_false t e
def EO{α:Type}{h:Decidable True}(t e:α):@ite α True h t e=t:=if_true t e
abbrev bE:=And.intro @zQ (And.intro @Lh (And.intro @Et (And.intro @Eu (And.intro @Ew (And.intro @zR (And.intro @Vk (And.intro @zS (And.intro @zT (And.intro @Vl (And.intro @zU (And.intro @zV (And.intro @Ey (And.intro @xV (And.intro @Vm (And.intro @zW (And.intro @Vn (And.intro @Vo (And.intro @Vp (And.intro @Ez (And.intro @EA (And.intro @zX (And.intro @zY (And.intro @EB (And.intro @EC (And.intro @ED (And.intro @EE (And.intro @zZ (And.intro @Aa (And.intro @Vq (And.intro @Ab (And.intro @Ac (And.intro @Ad (And.intro @Ae (And.intro @Af (And.intro @Ag (And.intro @Ah (And.intro @Ai (And.intro @Vr (And.intro @Aj (And.intro @Ak (And.intro @Vs (And.intro @Vt (And.intro @Vu (And.intro @Vv (And.intro @Vw (And.intro @Vx (And.intro @Vy (And.intro @Vz (And.intro @VA (And.intro @VE (And.intro @VF (And.intro @Al (And.intro @VG (And.intro @VH (And.intro @VI (And.intro @sM (And.intro @VL (And.intro @VM (And.intro @VN (And.intro @VO (And.intro @VP (And.intro @VQ (And.intro @VR (And.intro @Li (And.intro @VS (And.intro @VT (And.intro @Am (And.intro @VU (And.intro @VW (And.intro @Po (And.intro @An (And.intro @Ao (And.intro @VY (And.intro @VZ (And.intro @V0 (And.intro @V1 (And.intro @V2 (And.intro @Pr (And.intro @V3 (And.intro @V4 (And.intro @V5 (And.intro @V6 (And.intro @V7 (And.intro @Pt (And.intro @Pu (And.intro @Pw (And.intro @Ap (And.intro @Aq (And.intro @Ar (And.intro @As (And.intro @Au (And.intro @EH (And.intro @Lk (And.intro @EI (And.intro @EJ (And.intro @Lm (And.intro @EK (And.intro @EL (And.intro @EM (And.intro @Av (And.intro @Aw (And.intro @Ax (And.intro @Ay (And.intro @Az (And.intro @AA (And.intro @Ln (And.intro @EN (@EO))))))))))))))))))))))))))))))))))))))))))))))))))))))))))))))))))))))))))))))))))))))))))))))))))))))))))))
def bX{α:Type}{m:Option (α×Store)}{Q:α->Store->Prop}(h:∀Q':α->Store->Prop,(∀a st,Q a st->Q' a st)->Wp m Q'):Wp m Q:=h Q λ_ _ h=>h
section
variable {X:Cx}{K:Zfr}
def Px:∀{ns:List Int},(∀i∈ns,Kj i)->PyData.weightAll (cH ns)<=65*ns.length
 |[],_=>by show PyData.weightAll []<=0;simp only[PyData.weightAll];exact ZA _
 |n :: r,h=>by
  have ih:=Px (ns:=r) λi hi=>h i (ZE _ hi);have hn:=h n ZK;have hw:(PyData.int n).weight<=64:=by
   simp only[PyData.weight];split;lk
   have:n.natAbs<2 ^ 63:=by unfold Kj at hn;lk
   have h2:n.natAbs.log2<63:=by
    by_cases h0:n.natAbs=0;rw[h0];decide;exact(Nat.log2_lt h0).mpr this
   lk
  show PyData.weightAll (PyData.int n :: cH r)<=65*(r.length+1);simp only[PyData.weightAll];lk
abbrev o4(K:Zfr):V->List V->Hp->VK->Prop:=λx vs H Q=>∃(a:Addr) (ns:List Int) (v:Int),x=.ref a/\vs=[.int v]/\jM K H a (ns.map V.int)/\v∈ns/\ns.length<=1000/\(∀i∈ns,Kj i)/\Q (.int (ns.idxOf v:Int)) H
def V8:xh X "list.index" (o4 X.K):=by
 intro pins s σ H x xs v us Q I rx rv h;obtain⟨a,ns,y,rfl,rfl,hq,hm,hl,hb,q⟩:=h;cases rx;obtain⟨u,rfl,t,rfl⟩:=vals1 rv;obtain⟨its,r,pl,hz⟩:=I.list hq
 exact PyProof.Rows.index_list_ints (vs:=its) pl.isList (JM r) (by
  have hw:=Px hb;have c1:(PyData.list (List.map PyData.int ns)).canLay0=true:=xt ns;have c2:(PyData.list (List.map PyData.int ns)).depth<=64:=by show PyData.depthAll (cH ns)+1<=64;rw[yX];lk
  have c3:(PyData.list (List.map PyData.int ns)).weight<=2 ^ 20:=by simp only[PyData.weight];exact Z3 hw ⋯
  show(_ && _ && _)=true
  rw[c1,decide_eq_true c2,decide_eq_true c3];rfl) hm ⟨.int _,H,I.tok _,⟨_,rfl⟩,q⟩
def V9(hK:X.K=K):xh X "list.index" (o4 K):=by subst hK;exact V8
def Wa:xM K "list" (o4 K) ke:=by
 intro ρ H st x xs a as b st' Q l rx ux e q;unfold ke at e;split at e
 ·split at e
  ·next ns hn =>
   split at e
   ·next hm =>
    cases e;obtain⟨v,rfl,r⟩:=ux.one';cases r;cases rx with
    |ref hi =>
     obtain⟨ds,h1,h2⟩:=Zal.mp hn;obtain⟨vs,s,r⟩:=l.items hi h1;cases HC r h2;exact⟨_,ns,_,rfl,rfl,s,hm.1,hm.2.1,hm.2.2,q _ H ρ .refl l (.int _)⟩
   ·cases e
  ·cases e
 ·cases e
end
section
variable {st:Store}{Q:D->Store->Prop}
def Py(n:Nat)(L:List Int):bH (cW st (n+1)) (L.map D.int)=some (cH L):=uu (f:=cW st (n+1)) (g:=D.int) (k:=PyData.int) (λ_=>by simp only[cW]) L
def Lo(a b:List PyData):PyData.eqv (.list a) (.list b)=PyData.eqvAll a b:=by simp only[PyData.eqv]
def HJ(a b:List PyData):PyData.eqv (.tuple a) (.tuple b)=PyData.eqvAll a b:=by simp only[PyData.eqv]
def Lp{neg:Bool}{a b:Nat}{L M:List Int}(ha:items st a=some (L.map D.int))(hb:items st b=some (M.map D.int)):Wp (gO neg (.ref a) (.ref b) st) Q↔Q (.bl (if neg then !decide (L=M)else decide (L=M))) st:=by
 have p1:∀(i:Nat) (N:List Int),items st i=some (N.map D.int)->cW st 20 (.ref i)=some (.list (cH N)):=λi N h=>by
  simp only[cW,h];rw[Py];rfl
 have dp:∀N:List Int,PyData.depth (.list (cH N))<=1:=λN=>by show PyData.depthAll (cH N)+1<=1;rw[yX];lk
 rw[HI];constructor;rintro⟨p,q,h1,h2,_,h⟩;rw[p1 a L ha]at h1;rw[p1 b M hb]at h2;cases h1;cases h2;rw[Lo,Ds]at h;exact h;intro h;refine⟨_,_,p1 a L ha,p1 b M hb,⟨xt L,xt M,by have:=dp L;lk⟩,?_⟩;rw[Lo,Ds];exact h
abbrev ER(rs:List (List Int)):D:=.tup (rs.map λr=>.tup (r.map D.int))
def Lq(rs:List (List Int)):cW st 20 (ER rs)=some (.tuple (rs.map gM)):=by unfold ER;simp only[cW];rw[uu (f:=cW st 19) (g:=λr:List Int=>D.tup (r.map D.int)) (k:=gM) (λr=>by simp only[cW];rw[Py];rfl) rs];rfl
def Lr:∀(rs ss:List (List Int)),PyData.eqvAll (rs.map gM) (ss.map gM)=decide (rs=ss)
 |[],[]=>rfl
 |[],_ :: _=>rfl
 |_ :: _,[]=>rfl
 |r :: rs,s :: ss=>by
  show(PyData.eqv (gM r) (gM s) && PyData.eqvAll (rs.map gM) (ss.map gM))=decide (r :: rs=s :: ss);rw[Lr rs ss];unfold gM;rw[HJ,Ds];by_cases h:r=s;subst h;simp;simp[h]
def Wb{neg:Bool}{rs ss:List (List Int)}:Wp (gO neg (ER rs) (ER ss) st) Q↔Q (.bl (if neg then !decide (rs=ss)else decide (rs=ss))) st:=by
 have dp:∀rs:List (List Int),PyData.depth (.tuple (rs.map gM))<=2:=λN=>by show PyData.depthAll (N.map gM)+1<=2;have:=ND N;lk
 rw[HI];constructor;rintro⟨p,q,h1,h2,_,h⟩;rw[Lq]at h1 h2;cases h1;cases h2;rw[HJ,Lr]at h;exact h;intro h;refine⟨_,_,Lq rs,Lq ss,⟨Ki rs,Ki ss,by have:=dp rs;lk⟩,?_⟩;rw[HJ,Lr];exact h
end
abbrev bw(st:Store)(f:Nat):Prop:=∃o m:Int,st[f]?=some (.lst [.int o,.int m])/\0<=o/\0<=m/\m<4294967296
def ES:mO 2 0=some 0:=by decide
def ET:mO 2 1=some 1:=by decide
def qA(n:Nat):aC 0 n=(af.upto n).map D.int:=by unfold aC af.upto;rw[Z1];apply Zaj;intro i _;simp
def Wc(L:List Int)(j:Nat):(L.map D.int).eraseIdx j=(L.eraseIdx j).map D.int:=by
 induction L generalizing j with
 |nil=>rfl
 |cons a r ih =>
  cases j with
  |zero=>rfl
  |succ j=>show D.int a :: (r.map D.int).eraseIdx j=_;rw[ih];rfl
def Wd{L:List Int}{j:Nat}(h:j<L.length):(L[j] :: L.eraseIdx j).Perm L:=by
 induction L generalizing j with
 |nil=>exact absurd h (Zaf _)
 |cons a r ih =>
  cases j with
  |zero=>exact Zbe _
  |succ j =>
   have:=ih (j:=j) (by simpa using h);exact(List.Perm.swap _ _ _).trans (this.cons a)
def bw.keep{st st':Store}{f:Nat}(h:bw st f)(e:Ex [] st st'):bw st' f:=by obtain⟨o,m,e1,r⟩:=h;exact⟨o,m,e.keep _ _ e1 (by simp),r⟩
def bw.ne{st:Store}{f i:Nat}{o:O}(h:bw st f)(hi:i≠f):bw (st.set i o) f:=by obtain⟨x,m,e1,r⟩:=h;exact⟨x,m,by rw[ZJ hi];exact e1,r⟩
def bw.lt{st:Store}{f:Nat}(h:bw st f):f<st.length:=let ⟨_,_,e,_⟩:=h;eu e
def qQ{xs:List Int}{i:Int}(h0:0<=i)(h1:i<(xs.length:Int)):fB (xs.map D.int) i=some (.int (af.app xs i)):=by
 have e:(xs.map D.int)[i.toNat]?=some (.int (af.app xs i)):=by rw[ZO,af.pR h0 h1];rfl
 have:=BL e
 rwa [Z0 h0]at this
def EU{xs:List Int}{i:Nat}{d:D}(h:(xs.map D.int)[i]?=some d):∃x,xs[i]?=some x/\d=.int x:=by rw[ZO]at h;obtain⟨x,h1,h2⟩:=Z4.mp h;exact⟨x,h1,h2.symm⟩
def Ls(x:Int):∀(ns:List Int),xk (.int x) (ns.map V.int)=ns.contains x
 |[]=>rfl
 |n :: r=>by
  have e:=Ls x r;unfold xk at e ⊢;rw[ZT,Zax,e,Zbk]
  congr 1
  show(n == x)=(x == n);exact Bool.beq_comm
def HK{st:Store}{Q:D->Store->Prop}{neg:Bool}{x:Int}{c:D}{ns:List Int}(hc:cD st c=some (ns.map D.int)):Wp (sX neg (.int x) c st) Q↔Q (.bl (if neg then !ns.contains x else ns.contains x)) st:=by rw[EG];constructor;rintro⟨v,ds,vs,h1,h2,h3,h⟩;cases h1;rw[hc]at h2;cases h2;rw[Pp]at h3;cases h3;rw[Ls]at h;exact h;intro h;refine⟨_,_,_,rfl,hc,Pp ns,?_⟩;rw[Ls];exact h
abbrev bO(xs ys:List Int):D:=.tup [.tup (xs.map D.int),.tup (ys.map D.int)]
structure o5(lB st:Store)(f r u:Nat)(n:Nat)(X Y:List Int):Prop where
 hr:st[r]?=some (.lst (X.map D.int))
 hu:st[u]?=some (.lst (Y.map D.int))
 ne:r≠u
 r0:lB.length<=r
 u0:lB.length<=u
 tX:af.Tn n X
 tY:af.Tn n Y
 fd:bw st f
 ex:Ex [f] lB st
section
variable {lB st st':Store}{f r u n:Nat}{X Y Z:List Int}{o:O}
def o5.keep(h:o5 lB st f r u n X Y)(e:Ex [] st st'):o5 lB st' f r u n X Y:=⟨e.keep _ _ h.hr (by simp),e.keep _ _ h.hu (by simp),h.ne,h.r0,h.u0,h.tX,h.tY,h.fd.keep e,h.ex.trans e.any⟩
def o5.AB(h:o5 lB st f r u n X Y)(t:af.Tn n Z):o5 lB (st ++ [.lst (Z.map D.int)]) f st.length u n Z Y:=⟨iw,kg h.hu,by have:=eu h.hu;lk,h.ex.len,h.u0,t,h.tY,h.fd.keep (Ex.cj _),h.ex.app _⟩
def o5.AE(h:o5 lB st f r u n X Y)(t:af.Tn n Z):o5 lB (st ++ [.lst (Z.map D.int)]) f r st.length n X Z:=⟨kg h.hr,iw,by have:=eu h.hr;lk,h.r0,h.ex.len,h.tX,t,h.fd.keep (Ex.cj _),h.ex.app _⟩
def o5.put(h:o5 lB st f r u n X Y)(t:af.Tn n Z)(hf:f<lB.length):o5 lB (st.set r (.lst (Z.map D.int))) f r u n Z Y:=⟨ZI (eu h.hr),by rw[ZJ h.ne];exact h.hu,h.ne,h.r0,h.u0,t,h.tY,h.fd.ne (by have:=h.r0;lk),h.ex.loc h.r0⟩
end
def Pz(n:Nat):(af.rL n).map D.int=aC 1 ((n:Int)-1).toNat ++ [.int 0]:=by unfold af.rL aC;rw[ZS,Z1,show((n:Int)-1).toNat=n-1 by lk];rfl
def vm{lo hi:Int}(h:0<=lo/\lo<=10000/\0<=hi/\hi<=10000):sI lo hi=true:=by unfold sI;rw[ZV,decide_eq_true_eq];exact⟨by lk,jV ⋯⟩
def AF(w n:Nat):(af.uk w n).map D.int=aC 1 ((w:Int)-1).toNat ++ [.int 0] ++ aC (w:Int) ((n:Int)-(w:Int)).toNat:=by unfold af.uk aC;rw[ZS,ZS,Z1,Z1,show((w:Int)-1).toNat=w-1 by lk,show((n:Int)-(w:Int)).toNat=n-w by lk];rfl
def Lu(xs:List D)(j:Nat):cutD xs none (some (j:Int))=xs.take j:=by unfold cutD;rw[HT.RT,HT.JK,ZbA,Nat.sub_zero,List.take_eq_take_iff];lk
def AG{w n:Nat}(h0:0<w)(h:w<n):(af.vV w n).map D.int=cutD ([D.int (w:Int)] ++ aC 1 ((w:Int)-1).toNat ++ aC ((w:Int)+1) ((n:Int)-((w:Int)+1)).toNat ++ [.int 0]) none (some (n:Int)):=by rw[Lu,List.take_of_length_le (by simp[gP];lk)];unfold af.vV aC;rw[ZS,ZS,ZS,Z1,Z1,show((w:Int)-1).toNat=w-1 by lk,show((n:Int)-((w:Int)+1)).toNat=n-(w+1) by lk];rfl
abbrev mH(n:Nat)(xs ys:List Int):Prop:=af.Tn n xs/\af.Tn n ys/\∀x:Int,0<=x->x<(n:Int)->af.jO xs ys x
def PB{xs:List Int}{v:Int}(h:v∈xs):xs.findIdx? (λi=>decide (i=v))=some (xs.idxOf v):=by
 induction xs with
 |nil=>exact nomatch h
 |cons a r ih =>
  rw[List.findIdx?_cons];by_cases e:a=v;subst e;simp;have hm:v∈r:=by
   rcases ZY.mp h with h|h
   exact absurd h.symm e;exact h
  rw[decide_eq_false e,ih hm,List.idxOf_cons,show(a == v)=false by simpa using e];rfl
def Wf{xs:List D}{lo hi:Option Int}{d:D}(h:d∈cutD xs lo hi):d∈xs:=List.mem_of_mem_drop (List.mem_of_mem_take h)
abbrev uE(S:Src)(ds:List D)(st:Store):Prop:=∀(i:Nat) (st2:Store),i<=ds.length->Ex [] st st2->S.at i st2=some ds[i]?
def Lv{st st':Store}{r:Nat}{ds:List D}(h:items st r=some ds)(e:Ex [] st st'):items st' r=some ds:=by
 unfold items at h ⊢;cases hx:st[r]? with
 |none=>rw[hx]at h;cases h
 |some o=>rw[e.keep _ _ hx (by simp)];rw[hx]at h;exact h
def sZ(ds:List D)(st:Store):uE (.fix ds) ds st:=λi st2 hi _=>by
 show(if i<=ds.length then some ds[i]? else none)=_;rw[if_pos hi]
def Wg{ds:List D}{st:Store}{r:Nat}(h:items st r=some ds):uE (.live r) ds st:=λi st2 hi e=>by
 show(items st2 r).map _=_;rw[Lv h e];rfl
def sN{δ:aj}{st:Store}{fi:aj->Dm Src}{js:List Nat}{f:aj->Dm D}{Q:D->Store->Prop}(ds:List D)(h:D->D)(hi:Wp (fi δ st) λS st1=>uE S ds st1/\Ex [] st st1)(hl:ds.length<100000)
  (step:∀d∈ds,∀st1,Ex [] st st1->Wp (f (some d :: js.map λj=>δ.getD j none) st1) λy st2=>y=h d/\Ex [] st1 st2) (fin:∀st',Ex [] st st'->Q (.ref st'.length) (st' ++ [.lst (ds.map h)])):Wp (cS fi 1 js (hName 0) dz f δ st) Q:=by
 obtain⟨S,st1,e1,hS,k1⟩:=hi;refine Pk ds (λi ys δ' o6=>(∃v,δ'=v :: js.map λj=>δ.getD j none)/\ys=(ds.take i).map h/\Ex [] st1 o6) ⟨S,st1,e1,λi ys δ' o6 hi' hp=>hS i o6 hi' hp.2.2,⟨none,rfl⟩,rfl,Ex.refl⟩ hl ?_ ?_ ?_;rintro i ys δ' o6 ⟨_,rfl,_⟩;rw[Zx,Zar];lk;rintro i d ys δ' o6 hd ⟨⟨v,rfl⟩,rfl,k8⟩;rw[Pr];show Wp (dz _ _) _;rw[Pt];refine⟨λ_=>?_,λh=>absurd h ∅⟩;refine bg (step d (ZF hd) o6 (k1.trans k8)) ?_;rintro y qP ⟨rfl,k9⟩;refine⟨⟨some d,rfl⟩,?_,k8.trans k9⟩;obtain⟨hlt,e⟩:=Zz.mp hd;rw[Z9 hlt,ZS,e];rfl;rintro ys δ' o6 ⟨_,rfl,k8⟩;rw[ZaS];exact fin o6 (k1.trans k8)
def xZ{xs:List Int}{d:D}(h:d∈xs.map D.int):∃x∈xs,d=.int x:=by obtain⟨x,hx,rfl⟩:=ZL.mp h;exact⟨x,hx,rfl⟩
def B9{xs:List Int}{f:Int->Int}{h:D->D}(e:∀x∈xs,h (.int x)=.int (f x)):(xs.map D.int).map h=(xs.map f).map D.int:=by rw[Z1,Z1];exact Zaj λx hx=>e x hx
abbrev inD:D->Int
 |.int i=>i
 |_=>0
section
variable {st:Store}{Q:D->Store->Prop}
def PD{neg:Bool}{xs ys zs ws:List Int}:Wp (gO neg (bO xs ys) (bO zs ws) st) Q↔Q (.bl (if neg then !decide ([xs,ys]=[zs,ws])else decide ([xs,ys]=[zs,ws]))) st:=Wb (rs:=[xs,ys]) (ss:=[zs,ws])
end
def PH(zs:List Int):(zs.map D.int).map inD=zs:=by rw[Z1];exact ZaT zs
def _root_.af.rV{n:Nat}{xs ys p:List Int}(fl:mH n xs ys)(tp:af.Tn n p)(n0:0<n):mH n (af.anew xs p) (af.anew ys p):=by
 obtain⟨tx,ty,all⟩:=fl;have tX:=tx.anew tp;have tY:=ty.anew tp;refine⟨tX,tY,λx x0 x1=>?_⟩;obtain⟨a0,a1⟩:=tp.app (i:=0) ∅ ⋯;have hb:∀y:Int,0<=y->y<(n:Int)->y∈af.bf (af.anew xs p) (af.anew ys p) (af.app p 0) n:=λy y0 y1=>by
  rw[af.DT tx ty tp ∅ ⋯ n];obtain⟨b0,b1⟩:=tp.mE y0 y1;exact ZL.mpr ⟨af.app (af.inv p) y,af.OE tx ty ∅ ⋯ all b0 b1,tp.cQ y0 y1⟩
 have hF:=af.KP tX tY (s:=0) ∅ ⋯;have nd:=af.zj (af.anew xs p) (af.anew ys p) 0 n;have bd:=af.rO tX tY (s:=0) ∅ ⋯ n;have Wi:∀k,∀y∈af.bf (af.anew xs p) (af.anew ys p) 0 k,af.jO (af.anew xs p) (af.anew ys p) y:=by
  intro k
  induction k with
  |zero=>intro y hy;rw[ZU.mp (show y∈[(0:Int)]from hy)];exact .zero
  |succ k ih =>
   intro y hy;have hy':y∈(match (af.bf (af.anew xs p) (af.anew ys p) 0 k)[k]? with|some x=>af.visit (af.anew xs p) (af.anew ys p) (af.bf (af.anew xs p) (af.anew ys p) 0 k) x|none=>af.bf (af.anew xs p) (af.anew ys p) 0 k):=hy;split at hy'
   ·next z hz =>
    have xI:=ih z (ZF hz);rcases af.rN.mp hy' with hy'|rfl
    ·rcases af.rN.mp hy' with hy'|rfl
     ·exact ih y hy'
     ·exact xI.r
    ·exact xI.u
   ·exact ih y hy'
 refine Wi n x ?_;have z0:(0:Int)∈af.bf (af.anew xs p) (af.anew ys p) 0 n:=by
  have:=af.zi (af.anew xs p) (af.anew ys p) 0 0 n;rw[Zbf]at this;exact this.subset (show(0:Int)∈[(0:Int)] by simp)
 have back:∀k,(∃y∈af.bf (af.anew xs p) (af.anew ys p) (af.app p 0) k,y∈af.bf (af.anew xs p) (af.anew ys p) 0 n)->af.app p 0∈af.bf (af.anew xs p) (af.anew ys p) 0 n:=by
  intro k
  induction k with
  |zero =>
   rintro⟨y,hy,vP⟩;rw[ZU.mp (show y∈[af.app p 0]from hy)]at vP;exact vP
  |succ k ih =>
   rintro⟨y,hy,vP⟩;have hy':y∈(match (af.bf (af.anew xs p) (af.anew ys p) (af.app p 0) k)[k]? with|some x=>af.visit (af.anew xs p) (af.anew ys p) (af.bf (af.anew xs p) (af.anew ys p) (af.app p 0) k) x|none=>af.bf (af.anew xs p) (af.anew ys p) (af.app p 0) k):=hy;split at hy'
   ·next z hz =>
    have BZ:=ZF hz;obtain⟨c0,c1⟩:=af.rO tX tY a0 a1 k z BZ;rcases af.rN.mp hy' with hy'|rfl
    ·rcases af.rN.mp hy' with hy'|rfl
     ·exact ih ⟨y,hy',vP⟩
     ·exact ih ⟨z,BZ,af.DS tX nd bd (λx hx=>(hF x hx).1) c0 c1 vP⟩
    ·exact ih ⟨z,BZ,af.DS tY nd bd (λx hx=>(hF x hx).2) c0 c1 vP⟩
   ·exact ih ⟨y,hy',vP⟩
 have hp0:=back n ⟨0,hb 0 ∅ ⋯,z0⟩;have fwd:∀k,∀y∈af.bf (af.anew xs p) (af.anew ys p) (af.app p 0) k,y∈af.bf (af.anew xs p) (af.anew ys p) 0 n:=by
  intro k
  induction k with
  |zero=>intro y hy;rw[ZU.mp (show y∈[af.app p 0]from hy)];exact hp0
  |succ k ih =>
   intro y hy;have hy':y∈(match (af.bf (af.anew xs p) (af.anew ys p) (af.app p 0) k)[k]? with|some x=>af.visit (af.anew xs p) (af.anew ys p) (af.bf (af.anew xs p) (af.anew ys p) (af.app p 0) k) x|none=>af.bf (af.anew xs p) (af.anew ys p) (af.app p 0) k):=hy;split at hy'
   ·next z hz =>
    have xI:=ih z (ZF hz);rcases af.rN.mp hy' with hy'|rfl
    ·rcases af.rN.mp hy' with hy'|rfl
     ·exact ih y hy'
     ·exact(hF z xI).1
    ·exact(hF z xI).2
   ·exact ih y hy'
 exact fwd n x (hb x x0 x1)
def AH(p:Key×D)(r:List (Key×D))(k:Key):dU (p :: r) k=if p.1=k then some p.2 else dU r k:=by unfold dU;rw[ZaA];by_cases e:p.1=k;rw[decide_eq_true e,if_pos e];rfl;rw[decide_eq_false e,if_neg e]
def Wj(kvs:List (Key×D))(k j:Key)(y:D):dU (putD kvs k y) j=if j=k then some y else dU kvs j:=by
 unfold putD;by_cases a:(kvs.any λkv=>decide (kv.1=k))=true;rw[if_pos a]
 induction kvs with
 |nil=>simp at a
 |cons p r ih =>
  rw[ZT,AH,AH];by_cases e:p.1=k;rw[if_pos e];by_cases ej:j=k;rw[if_pos ej,if_pos (show(p.1,y).1=j from e.trans ej.symm)];rw[if_neg ej,if_neg (show ¬(p.1,y).1=j fromλz=>ej (z.symm.trans e)),if_neg (λz=>ej (z.symm.trans e))]
  have:∀l:List (Key×D),dU (l.map λkv=>if kv.1=k then(kv.1,y)else kv) j=dU l j:=by
   intro l
   induction l with
   |nil=>rfl
   |cons q l ihl =>
    rw[ZT,AH,AH,ihl];by_cases eq:q.1=k;rw[if_pos eq,if_neg (show ¬(q.1,y).1=j fromλz=>ej (z.symm.trans eq)),if_neg (λz=>ej (z.symm.trans eq))];rw[if_neg eq]
  exact this r;rw[if_neg e];have a':(r.any λkv=>decide (kv.1=k))=true:=by
   rw[Zax,decide_eq_false e,Bool.false_or]at a;exact a
  rw[ih a'];by_cases ej:j=k;rw[if_pos ej,if_neg (λz=>e (z.trans ej)),if_pos ej];rw[if_neg ej,if_neg ej]
 rw[if_neg a]
 induction kvs with
 |nil =>
  show dU [(k,y)] j=_;rw[AH];by_cases ej:j=k;rw[if_pos ej.symm,if_pos ej];rw[if_neg (λz=>ej z.symm),if_neg ej]
 |cons p r ih =>
  have a':¬(r.any λkv=>decide (kv.1=k))=true:=λz=>a (by rw[Zax,z,Bool.or_true]);have ep:p.1≠k:=λz=>a (by rw[Zax,decide_eq_true z,Bool.true_or]);rw[List.cons_append,AH,ih a',AH];by_cases ej:j=k;rw[if_pos ej,if_pos ej,if_neg (λz=>ep (z.trans ej))];rw[if_neg ej,if_neg ej]
def Wk(kvs:List (Key×D))(k:Key)(v:D):(putD kvs k v).length<=kvs.length+1:=by unfold putD;split;rw[Zx];lk;rw[ZH,Z2,Za8];lk
def PJ{st:Store}{i:Nat}{kvs:List (Key×D)}(h:st[i]?=some (.dct kvs)):jU st (.ref i)=some kvs:=by simp only[jU,h]
def PK(i:Int):keyOf (.int i)=some (.inl i):=rfl
def Wl{r:List Int}{j:Nat}(h:j<r.length)(x:Int):(r.take (j+1)).contains x=((r.take j).contains x || x == r[j]):=by
 rw[Z9 h,List.contains_append]
 congr 1
 show([r[j]]:List Int).contains x=(x == r[j]);rw[Zbk,List.contains_nil,Bool.or_false]
@[reducible]def ff:=Bool×Int
abbrev bL(s:ff):D:=.tup [.str (if s.1 then "s" else "t"),.int s.2]
section
variable {K:Zfr}
abbrev p7(neg:Bool):D->D->Dm D
 |a,.non,st=>some (.bl (match a with|.non=>!neg|_=>neg),st)
 |_,_,_=>none
abbrev uF(neg:Bool):R2:=λx y H Q=>y=.non/\Q (.bl (if neg then !decide (x=.non)else decide (x=.non))) H
def Lw(neg:Bool):mF K (uF neg) (p7 neg):=by intro ρ H st x y a c b st' Q l rx ry e q;unfold p7 at e;split at e;cases e;cases ry;refine⟨rfl,?_⟩;have k:=q _ H ρ .refl l (.bl _);cases rx<;>cases neg<;>exact k;cases e
end
section
variable {X:Cx}
def PL:kL X (compareOp .Is) (uF false):=yH
def Wm:kL X (compareOp .IsNot) (uF true):=RD
end
section
variable {st:Store}{Q:D->Store->Prop}
def Lx{neg:Bool}:Wp (p7 neg .non .non st) Q↔Q (.bl (!neg)) st:=bu
def Wn{neg:Bool}{i:Int}:Wp (p7 neg (.int i) .non st) Q↔Q (.bl neg) st:=bu
def PN{neg:Bool}{i:List D}:Wp (p7 neg (.tup i) .non st) Q↔Q (.bl neg) st:=bu
end
abbrev qR(x:Str):List D:=x.cps.toList.map λc=>.str ⟨#[c]⟩
abbrev PQ:D->Option (List D)
 |.tup ds=>some ds
 |.str x=>some (qR x)
 |_=>none
abbrev EV:List D->List D->List D
 |a :: r,b :: t=>.tup [a,b] :: EV r t
 |_,_=>[]
abbrev PR(fa:aj->Dm (List D)):aj->Dm Src:=λδ st=>bnd (fa δ st) λas st1=>match as with
 |[a,b]=>match PQ a,PQ b with
  |some ds,some es=>some (.fix (EV ds es),st1)
  |_,_=>none
 |_=>none
abbrev wm:List String:=["NoneType","bool","int","str","tuple","list","dict"]
abbrev wo:List String:=["bool","int","str","tuple","list","dict"]
abbrev AI(T c:String):Option Bool:=if wm.contains T && wo.contains c then some (T == c || (T == "bool" && c == "int"))else none
abbrev kW(T:String):List String->Option Bool
 |[]=>some false
 |c :: r=>match AI T c with
  |some true=>some true
  |some false=>kW T r
  |none=>none
abbrev PU:D->Option String
 |.ty n=>some n
 |_=>none
abbrev EW:D->Option (List String)
 |.ty n=>some [n]
 |.tup ds=>bH PU ds
 |_=>none
abbrev i6:List D->Dm D
 |[a,c],st=>match sJ st a,EW c with
  |some T,some cs=>match kW T cs with
   |some b=>some (.bl b,st)
   |none=>none
  |_,_=>none
 |_,_=>none
def Ly{st:Store}{Q:D->Store->Prop}{a c:D}{T:String}{cs:List String}{b:Bool}(h:sJ st a=some T)(hc:EW c=some cs)(hb:kW T cs=some b):Wp (i6 [a,c] st) Q↔Q (.bl b) st:=by
 have e:i6 [a,c] st=some (.bl b,st):=by simp only[i6,h,hc,hb]
 rw[e,bu]
section
variable {X:Cx}{K:Zfr}
def HL(K:Zfr){T c:String}{b:Bool}(h:AI T c=some b):PySem.W.kitOne K (.type T) (.type c)=some b:=by
 have hh:wm.contains T=true/\wo.contains c=true:=by
  unfold AI at h;split at h
  ·next g=>simpa using g
  ·cases h
 have h1:T∈wm:=Zap.mp hh.1;have h2:c∈wo:=Zap.mp hh.2;unfold wm at h1;unfold wo at h2;simp only[ZY,Za2,or_false]at h1 h2;rcases h1 with rfl|rfl|rfl|rfl|rfl|rfl|rfl<;>rcases h2 with rfl|rfl|rfl|rfl|rfl|rfl<;>(cases h;rfl)
def PV(K:Zfr){T:String}:∀{cs:List String} {b:Bool},kW T cs=some b->PySem.W.kitAny K (.type T) (cs.map Value.type)=some b
 |[],b,h=>by cases h;rfl
 |c :: r,b,h=>by
  simp only[kW]at h;split at h
  ·next e=>cases h;simp only[ZT,PySem.W.kitAny,HL K e]
  ·next e=>simp only[ZT,PySem.W.kitAny,HL K e];exact PV K h
  ·cases h
abbrev Lz(K:Zfr)(H:Hp)(x:V)(T:String):Prop:=mB K H x (.type T)\/(T="tuple" /\ ∃a ys,x=.ref a/\d9 K H a ys)
abbrev EX(K:Zfr):List V->Hp->VK->Prop:=λxs H Q=>∃x c T cs b,xs=[x,c]/\Lz K H x T/\((∃n,c=.ty n/\cs=[n])\/∃p,c=.ref p/\d9 K H p (cs.map V.ty))/\kW T cs=some b/\Q (.bl b) H
def Wo{pins:List (Addr×Obj)}{σ:St}{H:Hp}{s:Shared}{x:V}{u:Value}{T:String}(I:Inv X pins σ H s)(rx:RelV x u)(ty:Lz X.K H x T):∃Hh,PySem.W.KitX X.K u (.type T) Hh/\Hh s.heap/\u≠.builtin "__main__.__loader__#opaque" := by
 rcases ty with ty|⟨rfl,a,ys,rfl,hs⟩
 generalize ht:Value.type T=t at ty;cases ty with
 |non=>cases ht;cases(show u=Value.none from rx);exact⟨_,PySem.W.kitx_none,True.intro,λz=>nomatch z⟩
 |bl y=>cases ht;cases(show u=Value.bool y from rx);exact⟨_,PySem.W.kitx_bool,True.intro,λz=>nomatch z⟩
 |int i=>cases ht;obtain⟨t,q⟩:=(show∃t,u=Value.int i t from rx);cases q;exact⟨_,PySem.W.kitx_int,True.intro,λz=>nomatch z⟩
 |str y=>cases ht;obtain⟨t,q⟩:=(show∃t,u=Value.str y t from rx);cases q;exact⟨_,PySem.W.kitx_str,True.intro,λz=>nomatch z⟩
 |pN y=>cases ht;obtain⟨t,q⟩:=(show∃t,u=Value.float y t from rx);cases q;exact⟨_,PySem.W.kitx_float,True.intro,λz=>nomatch z⟩
 |@lst a xs ea =>
  cases ht;cases(show u=Value.ref a from rx);obtain⟨_,_,n,_,h1⟩:=(show bD X.prog X.w H s.heap a (.lst xs)from I.hok a _ ea);exact⟨_,PySem.W.kitx_list,⟨_,h1,rfl⟩,λz=>nomatch z⟩
 |@mJ a ob xs ea =>
  cases ht;cases(show u=Value.ref a from rx);obtain⟨_,_,_,n,_,h1⟩:=(show bD X.prog X.w H s.heap a (.mJ ob (.lst xs))from I.hok a _ ea);exact⟨_,PySem.W.kitx_list,⟨_,h1,rfl⟩,λz=>nomatch z⟩
 |@tup a xs ea =>
  cases ht;cases(show u=Value.ref a from rx);obtain⟨_,_,_,p⟩:=(show bD X.prog X.w H s.heap a (.tup xs)from I.hok a _ ea);obtain⟨o,h1,h2,_⟩:=p;exact⟨_,PySem.W.kitx_tuple,⟨o,h1,h2⟩,λz=>nomatch z⟩
 |@dK a kvs ea =>
  cases ht;cases(show u=Value.ref a from rx);obtain⟨_,_,vs,_,p⟩:=(show bD X.prog X.w H s.heap a (.dK kvs)from I.hok a _ ea);obtain⟨o,es,ep,h1,h2,_⟩:=p;exact⟨_,PySem.W.kitx_dict,⟨o,h1,h2.1⟩,λz=>nomatch z⟩
 |@dT a kvs ea =>
  cases ht;cases(show u=Value.ref a from rx);obtain⟨_,_,xs,_,o,es,ep,h1,h2,_⟩:=(show bD X.prog X.w H s.heap a (.dT kvs)from I.hok a _ ea);exact⟨_,PySem.W.kitx_dict,⟨o,h1,h2.1⟩,λz=>nomatch z⟩
 |ins=>cases ht
 cases(show u=Value.ref a from rx);obtain⟨its,_,⟨o,h1,h2,_⟩,_⟩:=I.tuple hs;exact⟨_,PySem.W.kitx_tuple,⟨o,h1,h2⟩,λz=>nomatch z⟩
def PX:∀{cs:List String} {us:List Value},Vals (cs.map V.ty) us->us=cs.map Value.type
 |[],us,h=>by
  cases us with
  |nil=>rfl
  |cons a b=>cases h
 |x :: xs,us,h=>by
  cases us with
  |nil=>cases h
  |cons u us =>
   cases h with
   |cons r t =>
    rw[PX t];cases(show u=Value.type x from r);rfl
def AJ:fe X (.builtin "isinstance") (EX X.K):=by
 intro pins s σ H xs us Q I r h;obtain⟨x,c,T,cs,b,rfl,ty,hc,hb,q⟩:=h;obtain⟨u,u',rfl,ru,PY⟩:=vals2 r;obtain⟨Hh,Z,hh,hx⟩:=Wo I ru ty;have fin:∀tk,EP X pins σ Q (.bool b) { s with toks:=tk }:=λtk=>⟨.bl b,H,I.tok tk,rfl,q⟩;have ka:=PV X.K hb;rcases hc with⟨n,rfl,rfl⟩|⟨p,rfl,hp⟩
 ·cases(show u'=Value.type n from PY)
  refine PySem.W.kia_one Z I.oH hh ?_ hx fin;simp only[kW]at hb;split at hb
  ·next e=>cases hb;exact HL _ e
  ·next e=>cases hb;exact HL _ e
  ·cases hb
 ·cases(show u'=Value.ref p from PY)
  obtain⟨its,rv,⟨⟨oc,od,KA,osl⟩,e,h2,h3,n,h4⟩,_⟩:=I.oK hp;cases(show oc=.type "tuple" from h2);cases(show KA=.seq its.toArray n from h4);cases PX rv;exact PySem.W.kia_tup Z I.oH hh e ka hx fin
def AK{ρ:List Addr}{H:Hp}{st:Store}{v:V}{a:D}{T:String}(l:Rl K ρ H st)(r1:Rp K ρ H v a)(hT:sJ st a=some T):Lz K H v T:=by
 cases r1<;>simp only[sJ]at hT
 ·cases hT;exact .inl .non
 ·cases hT;exact .inl (.bl _)
 ·cases hT;exact .inl (.int _)
 ·cases hT;exact .inl (.str _)
 ·cases hT
 ·next hi =>
  split at hT
  ·next ds hs=>cases hT;obtain⟨vs,e1,_⟩:=l.obj _ _ _ hi hs;exact .inl (.lst e1)
  ·next ds hs=>cases hT;obtain⟨vs,e1,_⟩:=l.obj _ _ _ hi hs;exact .inl (.dK e1)
  ·cases hT
 ·next hs hr=>cases hT;exact .inr ⟨rfl,_,_,rfl,hs⟩
def PZ{ρ:List Addr}{H:Hp}:∀{ws:List V} {ds:List D} {ns:List String},cn K ρ H ws ds->bH PU ds=some ns->ws=ns.map V.ty
 |_,_,_,.nil,h=>by cases h;rfl
 |_,_,_,.cons a b,h=>by
  obtain⟨x,t,h1,h2,rfl⟩:=vg h;rw[PZ b h2];cases a<;>first|(cases h1;rfl)|cases h1
def AL:rQ K (EX K) i6:=by
 intro ρ H st xs as b st' Q l rx e q;unfold i6 at e;split at e
 ·next a c =>
  split at e
  ·next T cs h1 h2 =>
   split at e
   ·next bb hb =>
    cases e;obtain⟨v,w,rfl,r1,r2⟩:=rx.two';refine⟨v,w,T,cs,bb,rfl,AK l r1 h1,?_,hb,q _ H ρ .refl l (.bl _)⟩;cases r2 with
    |non=>cases h2
    |bl _=>cases h2
    |int _=>cases h2
    |str _=>cases h2
    |ref _=>cases h2
    |ty n=>cases h2;exact .inl ⟨n,rfl,rfl⟩
    |tup s r=>exact .inr ⟨_,rfl,PZ r h2 ▸ s⟩
   ·cases e
  ·cases e
 ·cases e
end
structure uV(K:Zfr)(mg:Str->Option Value)(x:Str)(v:V)(d:D):Prop where
 ex:∃u,mg x=some u/\RelV v u
 rp:∀(ρ:List Addr) (H:Hp),Rp K ρ H v d
def P0{X:Cx}{K:Zfr}{mg:Str->Option Value}{x:Str}{v:V}{d:D}{pos:Pos}(C:uV K mg x v d)(hg:Gl X x)(hX:X.mg=mg)(hd:(x == ("__debug__" : Str))=false):PE X (.Name x pos) (tC v):=by obtain⟨u,h,r⟩:=C.ex;subst hX;exact Rt hg h r hd
def P1{K:Zfr}{mg:Str->Option Value}{x:Str}{v:V}{d:D}(C:uV K mg x v d):dR K (tC v) (fC d):=sD C.rp
def P4{K:Zfr}{h:Heap}{mg:Str->Option Value}(X:K.In h)(G:h.Ns mainGlobals mg){x:Str}{a:Addr}{od:Option Addr}{its:Array Value}{n:Nat}{sl:Array (Option Value)}{vs:List V}{ds:List D}(e:PySem.W.nsIn K mainGlobals x=some (some (.ref a)))(l:K.lookup a=some ⟨.type "tuple",od,.seq its n,sl⟩)
  (ho:od=none) (hz:its.size<=sizeLine) (hv:Vals vs its.toList) (hd:∀(ρ:List Addr) (H:Hp),cn K ρ H vs ds):∃v,uV K mg x v (.tup ds) :=
 ⟨.ref a,⟨_,PySem.W.mg_of X G e,rfl⟩,λρ H=>.tup (.inr ⟨_,its,n,l,rfl,ho,rfl,hz,hv⟩) (hd ρ H)⟩
abbrev pU:Nat->D->Prop
 |_,.int _=>True
 |_,.str x=>PyData.canLay0 (.str x)=true
 |_,.non=>True
 |n+1,.tup ds=>∀d∈ds,pU n d
 |_,_=>False
abbrev iL:Nat->D->PyData
 |_,.int i=>.int i
 |_,.str x=>.str x
 |n+1,.tup ds=>.tuple (ds.map (iL n))
 |_,_=>.none
def EY{α β:Type}{f:α->Option β}{g:α->β}:∀{l:List α},(∀x∈l,f x=some (g x))->bH f l=some (l.map g)
 |[],_=>rfl
 |a :: r,h=>by
  have h1:=h a ZK;have h2:=EY (f:=f) (g:=g) (l:=r) λx hx=>h x (ZE _ hx);simp only[bH,h1,h2,ZT]
def vn:∀(n:Nat) (d:D),pU n d->∀(m:Nat),n<m->∀st,cW st m d=some (iL n d)
 |n,.int i,_,m+1,_,st=>by cases n<;>rfl
 |n,.str x,_,m+1,_,st=>by cases n<;>rfl
 |n,.non,_,m+1,_,st=>by cases n<;>rfl
 |n,.bl b,h,_,_,_=>by cases n<;>exact h.elim
 |n,.ty b,h,_,_,_=>by cases n<;>exact h.elim
 |n,.ref b,h,_,_,_=>by cases n<;>exact h.elim
 |0,.tup ds,h,_,_,_=>h.elim
 |n+1,.tup ds,h,m+1,hm,st=>by
  simp only[cW];rw[EY (g:=iL n) λx hx=>vn n x (h x hx) m ⋯ st];rfl
def LA:∀{l:List PyData},(∀x∈l,x.canLay0=true)->PyData.canLayAll0 l=true
 |[],_=>rfl
 |a :: r,h=>by
  simp only[PyData.canLayAll0,h a ZK,LA λx hx=>h x (ZE _ hx),Bool.and_self]
def LC{n:Nat}:∀{l:List PyData},(∀x∈l,x.depth<=n)->PyData.depthAll l<=n
 |[],_=>Zaa _
 |a :: r,h=>by
  have h1:=h a ZK;have h2:=LC λx hx=>h x (ZE _ hx);simp only[PyData.depthAll];lk
def uG:∀(n:Nat) (d:D),pU n d->(iL n d).canLay0=true/\(iL n d).depth<=n
 |n,.int i,_=>by cases n<;>exact⟨rfl,Zaa _⟩
 |n,.str x,h=>by cases n<;>exact⟨h,Zaa _⟩
 |n,.non,_=>by cases n<;>exact⟨rfl,Zaa _⟩
 |n,.bl b,h=>by cases n<;>exact h.elim
 |n,.ty b,h=>by cases n<;>exact h.elim
 |n,.ref b,h=>by cases n<;>exact h.elim
 |0,.tup ds,h=>h.elim
 |n+1,.tup ds,h=>by
  refine⟨?_,?_⟩;show PyData.canLayAll0 (ds.map (iL n))=true;exact LA λx hx=>by
   obtain⟨d,hd,rfl⟩:=ZL.mp hx;exact(uG n d (h d hd)).1
  show PyData.depthAll (ds.map (iL n))+1<=n+1
  have:=LC (n:=n) (l:=ds.map (iL n)) λx hx=>by
   obtain⟨d,hd,rfl⟩:=ZL.mp hx;exact(uG n d (h d hd)).2
  lk
def LD{n:Nat}(ih:∀a b:D,pU n a->pU n b->(PyData.eqv (iL n a) (iL n b)=true↔a=b)):∀(l m:List D),(∀x∈l,pU n x)->(∀x∈m,pU n x)->(PyData.eqvAll (l.map (iL n)) (m.map (iL n))=true↔l=m)
 |[],[],_,_=>by simp[PyData.eqvAll]
 |[],_ :: _,_,_=>by simp[PyData.eqvAll]
 |_ :: _,[],_,_=>by simp[PyData.eqvAll]
 |a :: l,b :: m,h1,h2=>by
  have e1:=ih a b (h1 a ZK) (h2 b ZK);have e2:=LD ih l m (λx hx=>h1 x (ZE _ hx)) λx hx=>h2 x (ZE _ hx);simp only[ZT,PyData.eqvAll,ZV,e1,e2,List.cons.injEq]
def Ca:∀(n:Nat) (a b:D),pU n a->pU n b->(PyData.eqv (iL n a) (iL n b)=true↔a=b):=by
 intro n
 induction n with
 |zero =>
  intro a b ha hb;cases a<;>first|exact ha.elim|skip
  all_goals (cases b<;>first|exact hb.elim|simp[iL,PyData.eqv])
 |succ n ih =>
  intro a b ha hb;cases a<;>first|exact ha.elim|skip
  all_goals (cases b<;>first|exact hb.elim|skip)
  all_goals first
   |(simp[iL,PyData.eqv];done)
   |skip
  next l m =>
   have:=LD ih l m ha hb;show PyData.eqv (.tuple (l.map (iL n))) (.tuple (m.map (iL n)))=true↔_;rw[HJ,this];constructor
   ·rintro rfl;rfl
   ·intro h;exact D.tup.inj h
open Classical in
def P5{st:Store}{Q:D->Store->Prop}{neg:Bool}{n:Nat}{a b:D}(ha:pU n a)(hb:pU n b)(hn:n<=15):Wp (gO neg a b st) Q↔Q (.bl (if neg then !decide (a=b)else decide (a=b))) st:=by
 have e:PyData.eqv (iL n a) (iL n b)=decide (a=b):=by
  have:=Ca n a b ha hb;cases h:PyData.eqv (iL n a) (iL n b)with
  |true=>exact(decide_eq_true (this.mp h)).symm
  |false=>exact(decide_eq_false λz=>by rw[this.mpr z]at h;cases h).symm
 rw[HI];constructor;rintro⟨p,q,h1,h2,_,h⟩;rw[vn n a ha 20 ⋯]at h1;rw[vn n b hb 20 ⋯]at h2;cases h1;cases h2;rw[e]at h;exact h;intro h;refine⟨_,_,vn n a ha 20 ⋯ st,vn n b hb 20 ⋯ st,⟨(uG n a ha).1,(uG n b hb).1,?_⟩,?_⟩
 have:=(uG n a ha).2
 lk;rw[e];exact h
def P6(n:Nat)(L:List Int):pU (n+1) (.tup (L.map D.int)):=λd hd=>by
 obtain⟨x,_,rfl⟩:=ZL.mp hd;cases n<;>trivial
def x5(n:Nat)(s:ff):pU (n+1) (bL s):=λd hd=>by
 have hd:d=.str (if s.1 then "s" else "t")\/d=.int s.2:=by simpa[bL]using hd
 rcases hd with rfl|rfl
 have h:PyData.canLay0 (.str (if s.1=true then "s" else "t" : Str))=true:=by cases s.1<;>decide +kernel
 cases n<;>exact h;cases n<;>trivial
def AO(n:Nat)(xs ys:List Int):pU (n+2) (bO xs ys):=λd hd=>by
 have hd:d=.tup (xs.map D.int)\/d=.tup (ys.map D.int):=by simpa[bO]using hd
 rcases hd with rfl|rfl
 exact P6 n xs;exact P6 n ys
abbrev mI(neg:Bool):D->D->Dm D:=λa c st=>match cW st 20 a,(cD st c).bind (bH (cW st 19))with
 |some dx,some ds=>if dx.canLay0 && ds.all PyData.canLay0 && decide (dx.depth<=60)then some (.bl (if neg then !ds.any (λd=>PyData.eqv d dx)else ds.any λd=>PyData.eqv d dx),st)else none
 |_,_=>none
section
variable {K:Zfr}
def EZ{ρ:List Addr}{H:Hp}{st:Store}(l:Rl K ρ H st)(n:Nat):∀{vs:List V} {ds:List D} {ps:List PyData},cn K ρ H vs ds->bH (cW st n) ds=some ps->fD K H vs ps
 |_,_,_,.nil,h=>by cases h;exact .nil
 |_,_,_,.cons a b,h=>by
  obtain⟨x,t,h1,h2,rfl⟩:=vg h;exact .cons (B3 l n a h1) (EZ l n b h2)
def HM(neg:Bool):mF K (DA K neg) (mI neg):=by
 intro ρ H st x y a c b st' Q l rx ry e q;unfold mI at e;split at e
 ·next dx ds h1 h2 =>
  split at e
  ·next ok =>
   cases e;rw[ZV,ZV,decide_eq_true_eq,ZaF]at ok;obtain⟨es,h3,h4⟩:=Zal.mp h2;obtain⟨p,xs,rfl,hq,rr⟩:∃p xs,y=.ref p/\(jM K H p xs\/d9 K H p xs)/\cn K ρ H xs es:=by
    cases ry with
    |non=>cases h3
    |bl _=>cases h3
    |int _=>cases h3
    |str _=>cases h3
    |ty _=>cases h3
    |ref hi=>obtain⟨vs,s,r⟩:=l.items hi h3;exact⟨_,vs,rfl,.inl s,r⟩
    |tup s r=>cases h3;exact⟨_,_,rfl,.inr s,r⟩
   exact⟨p,xs,ds,dx,rfl,hq,EZ l 19 rr h4,B3 l 20 rx h1,ok.1.2,ok.1.1,ok.2,q _ H ρ .refl l (.bl _)⟩
  ·cases e
 ·cases e
end
open Classical in
def E1{st:Store}{Q:D->Store->Prop}{neg:Bool}{n:Nat}{a c:D}{es:List D}(ha:pU n a)(hc:cD st c=some es)(he:∀e∈es,pU n e)(hn:n<=15):Wp (mI neg a c st) Q↔Q (.bl (if neg then !decide (a∈es)else decide (a∈es))) st:=by
 have h1:=vn n a ha 20 ⋯ st;have h2:bH (cW st 19) es=some (es.map (iL n)):=EY λx hx=>vn n x (he x hx) 19 ⋯ st;have ea:(es.map (iL n)).any (λd=>PyData.eqv d (iL n a))=decide (a∈es):=by
  rw[Za7,List.any_eq_true,decide_eq_true_eq];constructor;rintro⟨d,hd,h⟩;obtain⟨x,hx,rfl⟩:=ZL.mp hd;rw[<- (Ca n x a (he x hx) ha).mp h];exact hx;intro h;exact⟨_,ZL.mpr ⟨a,h,rfl⟩,(Ca n a a ha ha).mpr rfl⟩
 have l1:=uG n a ha;have l2:(es.map (iL n)).all PyData.canLay0=true:=by
  rw[ZaF];intro d hd;obtain⟨x,hx,rfl⟩:=ZL.mp hd;exact(uG n x (he x hx)).1
 have e:mI neg a c st=some (.bl (if neg then !decide (a∈es)else decide (a∈es)),st):=by
  unfold mI;simp only[h1,hc,ZaE,h2,ea,l1.1,l2,Bool.true_and,decide_eq_true_eq];rw[if_pos ⋯]
 rw[e,bu]
abbrev rW(ps:List PyData):Bool:=decide (0<ps.length) && ps.all (λa=>ps.all λb=>gf a b) && ps.all λa=>a.canLay0 && decide (a.depth<=50)
abbrev mx:List D->Dm D
 |[.ref r],st=>match own st r with
  |some ds=>match bH (cW st 20) ds with
   |some ps=>if rW ps=true then(match ds[og ps]? with|some d=>some (d,st)|none=>none)else none
   |none=>none
  |none=>none
 |_,_=>none
section
variable {K:Zfr}
def P7:rQ K (xw K) mx:=by
 intro ρ H st xs as b st' Q l rx e q;unfold mx at e;split at e
 ·next r lB =>
  split at e
  ·next ds hd =>
   split at e
   ·next ps hp =>
    split at e
    ·next hok =>
     split at e
     ·next d hd0 =>
      cases e;obtain⟨v,rfl,r⟩:=rx.one';cases r with
      |ref hi =>
       obtain⟨vs,hs,rr⟩:=l.items hi (bJ (sH hd));obtain⟨v,hv,rv⟩:=rr.got hd0;simp only[rW,ZV,decide_eq_true_eq,ZaF]at hok;exact⟨_,vs,ps,rfl,hs,EZ l 20 rr hp,hok.1.1,hok.1.2,hok.2,v,hv,q v H ρ .refl l rv⟩
     ·cases e
    ·cases e
   ·cases e
  ·cases e
 ·cases e
end
def Wq{st:Store}{Q:D->Store->Prop}{r:Nat}{ds:List D}{ps:List PyData}(h:own st r=some ds)(hp:bH (cW st 20) ds=some ps)(hok:rW ps=true){d:D}(hd:ds[og ps]?=some d):Wp (mx [.ref r] st) Q↔Q d st:=by
 have e:mx [.ref r] st=some (d,st):=by simp only[mx,h,hp,hok,hd,if_true]
 rw[e,bu]
abbrev tupI(xs:List Int):PyData:=.tuple (xs.map PyData.int)
abbrev kX(p:af.aP):PyData:=.tuple [tupI p.1,tupI p.2]
def LG:∀xs ys:List Int,cz (xs.map PyData.int) (ys.map PyData.int)=af.qx xs ys
 |[],[]=>rfl
 |[],_ :: _=>rfl
 |_ :: _,[]=>rfl
 |x :: xs,y :: ys=>by
  show(if(x == y)=true then cz (xs.map PyData.int) (ys.map PyData.int)else decide (x<y))=if x=y then af.qx xs ys else decide (x<y)
  rw[LG xs ys];by_cases h:x=y;rw[if_pos h,if_pos (by simp[h])];rw[if_neg h,if_neg (by simp[h])]
def P8(xs ys:List Int):PyData.eqv (tupI xs) (tupI ys)=decide (xs=ys):=Ds xs ys
def Wr(p q:af.aP):lU (kX p) (kX q)=af.nc p q:=by
 show(if PyData.eqv (tupI p.1) (tupI q.1)=true then(if PyData.eqv (tupI p.2) (tupI q.2)=true then false else cz (p.2.map PyData.int) (q.2.map PyData.int))else cz (p.1.map PyData.int) (q.1.map PyData.int))=if p.1=q.1 then af.qx p.2 q.2 else af.qx p.1 q.1
 rw[P8,P8,LG,LG];by_cases a:p.1=q.1;rw[if_pos a,if_pos (decide_eq_true a)];by_cases b:p.2=q.2;rw[if_pos (decide_eq_true b),b,af.Ho];rw[if_neg (by simp[b])];rw[if_neg a,if_neg (by simp[a])]
def HN:∀xs ys:List Int,cV (xs.map PyData.int) (ys.map PyData.int)=true
 |[],_=>rfl
 |_ :: _,[]=>rfl
 |x :: xs,y :: ys=>by show(true && cV (xs.map PyData.int) (ys.map PyData.int))=true;rw[HN xs ys];rfl
def Wt(p q:af.aP):gf (kX p) (kX q)=true:=by show(cV (p.1.map PyData.int) (q.1.map PyData.int) && (cV (p.2.map PyData.int) (q.2.map PyData.int) && true))=true;rw[HN,HN];rfl
def Wu(p:af.aP):(kX p).canLay0=true/\(kX p).depth<=50:=by refine⟨?_,?_⟩;show(PyData.canLayAll0 (cH p.1) && (PyData.canLayAll0 (cH p.2) && true))=true;rw[xt,xt];rfl;show max (PyData.depthAll (cH p.1)+1) (max (PyData.depthAll (cH p.2)+1) 0)+1<=50;rw[yX,yX];decide
def P9(l:List af.aP):∀k,k<l.length->l[argBest (λi j=>af.nc (l.getD i ([],[])) (l.getD j ([],[]))) k]?=some (af.ng (l.take (k+1)))
 |0,h=>by
  cases l with
  |nil=>simp at h
  |cons p l=>rfl
 |k+1,h=>by
  have ih:=P9 l k ⋯;generalize hb:argBest (λi j=>af.nc (l.getD i ([],[])) (l.getD j ([],[]))) k=b at ih;have e1:l.getD b ([],[])=af.ng (l.take (k+1)):=by rw[ZG,ih];rfl
  have e2:af.ng (l.take (k+1+1))=if af.nc (l.getD (k+1) ([],[])) (af.ng (l.take (k+1)))then l.getD (k+1) ([],[])else af.ng (l.take (k+1)):=by
   have et:l.take (k+1+1)=l.take (k+1) ++ [l.getD (k+1) ([],[])]:=by
    rw[Z9 h,ZG,Zy h];rfl
   rw[et];cases l with
   |nil=>simp at h
   |cons p l =>
    show((l.take k ++ [_]).foldl _ p)=_;rw[Zaz];rfl
  show l[if(af.nc (l.getD (k+1) ([],[])) (l.getD (argBest _ k) ([],[])))=true then k+1 else argBest _ k]?=_;rw[hb,e1,e2];split;rw[ZG,Zy h];rfl;exact ih
def Wv(st:Store)(p:af.aP):cW st 20 (bO p.1 p.2)=some (kX p):=by
 have h:∀(m:Nat) (xs:List Int),bH (cW st (m+1)) (xs.map D.int)=some (xs.map PyData.int):=λm xs=>by
  have:=uu (f:=cW st (m+1)) (g:=D.int) (k:=PyData.int) (λ_=>rfl) xs;exact this
 show(bH (cW st 19) [D.tup (p.1.map D.int),D.tup (p.2.map D.int)]).map PyData.tuple=_;have e1:cW st 19 (D.tup (p.1.map D.int))=some (tupI p.1):=by show(bH (cW st 18) (p.1.map D.int)).map PyData.tuple=_;rw[h];rfl
 have e2:cW st 19 (D.tup (p.2.map D.int))=some (tupI p.2):=by show(bH (cW st 18) (p.2.map D.int)).map PyData.tuple=_;rw[h];rfl
 simp only[bH,e1,e2];rfl
def Qa{st:Store}{Q:D->Store->Prop}{r:Nat}{l:List af.aP}(h:own st r=some (l.map λp=>bO p.1 p.2))(hn:0<l.length):Wp (mx [.ref r] st) Q↔Q (bO (af.ng l).1 (af.ng l).2) st:=by
 have hp:bH (cW st 20) (l.map λp=>bO p.1 p.2)=some (l.map kX):=uu (f:=cW st 20) (g:=λp:af.aP=>bO p.1 p.2) (k:=kX) (λp=>Wv st p) l;refine Wq h hp ?_ ?_;simp only[rW,ZV,decide_eq_true_eq,ZaF,Zx];refine⟨⟨hn,λa ha b hb=>?_⟩,λa ha=>?_⟩;obtain⟨p,_,rfl⟩:=ZL.mp ha;obtain⟨q,_,rfl⟩:=ZL.mp hb;exact Wt p q;obtain⟨p,_,rfl⟩:=ZL.mp ha;exact Wu p;have hb:=P9 l (l.length-1) ⋯;rw[show l.length-1+1=l.length by lk,ZaS]at hb;have e:∀k,k<l.length->argBest (n9 (l.map kX)) k=argBest (λi j=>af.nc (l.getD i ([],[])) (l.getD j ([],[]))) k/\argBest (λi j=>af.nc (l.getD i ([],[])) (l.getD j ([],[]))) k<l.length:=by
  intro k
  induction k with
  |zero=>intro hk;exact⟨rfl,hk⟩
  |succ k ih =>
   intro hk;obtain⟨e1,e2⟩:=ih ⋯;have eb:n9 (l.map kX) (k+1) (argBest (n9 (l.map kX)) k)=af.nc (l.getD (k+1) ([],[])) (l.getD (argBest (λi j=>af.nc (l.getD i ([],[])) (l.getD j ([],[]))) k) ([],[])):=by
    rw[e1];unfold n9;rw[ZG,ZG,ZO,ZO,Zy hk,Zy e2,ZG,ZG,Zy hk,Zy e2];exact Wr _ _
   refine⟨?_,?_⟩;show(if n9 (l.map kX) (k+1) (argBest (n9 (l.map kX)) k)=true then k+1 else argBest (n9 (l.map kX)) k)=if _=true then k+1 else _
   rw[eb,e1];show(if _=true then k+1 else _)<l.length;split;exact hk;exact e2
 unfold og;rw[Zx,(e (l.length-1) ⋯).1,ZO,hb];rfl
def Qb{α:Type}{r:α->α->Prop}:∀{xs ys:List α},xs.Perm ys->xs.Pairwise r->ys.Pairwise r->(∀a∈xs,∀b∈xs,r a b->r b a->a=b)->xs=ys
 |[],ys,p,_,_,_=>(List.nil_perm.mp p).symm
 |x :: xs,[],p,_,_,_=>absurd p.length_eq (by simp)
 |x :: xs,y :: ys,p,h1,h2,an=>by
  have e:x=y:=by
   have hx:x∈y :: ys:=p.subset ZK;have hy:y∈x :: xs:=p.symm.subset ZK;rcases ZY.mp hx with e|hx
   exact e;rcases ZY.mp hy with e|hy
   exact e.symm;exact an x ZK y (ZE _ hy) ((Zbm.mp h1).1 y hy) ((Zbm.mp h2).1 x hx)
  subst e;rw[Qb (List.perm_cons x |>.mp p) (Zbm.mp h1).2 (Zbm.mp h2).2 λa ha b hb=>an a (ZE _ ha) b (ZE _ hb)]
abbrev p8(ps:List PyData):Bool:=decide (ps.length<64) && ps.all (λa=>ps.all λb=>gf a b) && (ps.all λa=>a.canLay0 && decide (a.depth<=50)) && (ps.all (xA true) || ps.all (xA false))
abbrev nV(ps:List PyData):List Nat:=(List.range ps.length).mergeSort λi j=>!n9 ps (min j (ps.length-1)) (min i (ps.length-1))
abbrev qS(ds:List D)(ps:List PyData):List D:=(nV ps).map λi=>ds.getD i .non
abbrev l8:List D->Dm D
 |[.ref r],st=>match own st r with
  |some ds=>match bH (cW st 20) ds with
   |some ps=>if p8 ps=true then some (.ref st.length,st ++ [.lst (qS ds ps)])else none
   |none=>none
  |none=>none
 |_,_=>none
def Cb(ps:List PyData):(nV ps).Perm (List.range ps.length):=Zbz _ _
def Qc(st:Store):∀(n m:Nat) (d d':D) (p:PyData),cW st n d=some p->cW st m d'=some p->gf p p=true->d=d'
 |0,_,_,_,_,h,_,_=>by simp[cW]at h
 |_,0,_,_,_,_,h,_=>by simp[cW]at h
 |n+1,m+1,d,d',p,h,h',ok=>by
  have all:∀(ds ds':List D) (ps:List PyData),bH (cW st n) ds=some ps->bH (cW st m) ds'=some ps->cV ps ps=true->ds=ds':=by
   intro ds
   induction ds with
   |nil =>
    intro ds' ps h1 h2 _;cases h1;cases ds' with
    |nil=>rfl
    |cons x r=>obtain⟨_,_,_,_,e⟩:=vg h2;cases e
   |cons x r ih =>
    intro ds' ps h1 h2 ok;obtain⟨b,t,e1,e2,rfl⟩:=vg h1;cases ds' with
    |nil=>cases h2
    |cons x' r' =>
     obtain⟨b',t',xu,vM,e⟩:=vg h2;cases e;have o2:gf b b=true/\cV t t=true:=by simpa[cV]using ok
     rw[Qc st n m x x' b e1 xu o2.1,ih r' t e2 vM o2.2]
  cases p with
  |int i =>
   have e1:d=.int i:=by
    cases d<;>simp[cW]at h;rw[h];split at h<;>simp at h
   have e2:d'=.int i:=by
    cases d'<;>simp[cW]at h';rw[h'];split at h'<;>simp at h'
   rw[e1,e2]
  |tuple ps =>
   obtain⟨ds,e1,g1⟩:∃ds,d=.tup ds/\bH (cW st n) ds=some ps:=by
    cases d<;>simp[cW]at h;exact⟨_,rfl,h⟩;split at h<;>simp at h
   obtain⟨ds',e2,g2⟩:∃ds',d'=.tup ds'/\bH (cW st m) ds'=some ps:=by
    cases d'<;>simp[cW]at h';exact⟨_,rfl,h'⟩;split at h'<;>simp at h'
   rw[e1,e2,all ds ds' ps g1 g2 ok]
  |none=>cases ok
  |bool _=>cases ok
  |str _=>cases ok
  |list _=>cases ok
  |dict _=>cases ok
def Ww{ps:List PyData}(hok:∀a∈ps,∀b∈ps,gf a b=true):((nV ps).map λi=>ps.getD i .none).Pairwise λa b=>lU b a=false:=by
 by_cases hn:ps=[];subst hn;rw[List.perm_nil.mp (show(nV []).Perm []from Cb [])];exact .nil;have o:=N4 hok hn;have hl:0<ps.length:=Zby.mpr hn;rw[ZaX]
 have key:=List.pairwise_mergeSort (le:=λi j=>!n9 ps (min j (ps.length-1)) (min i (ps.length-1))) (λa b c h1 h2=>by
  have h1:n9 ps (min b (ps.length-1)) (min a (ps.length-1))=false:=by simpa using h1
  have h2:n9 ps (min c (ps.length-1)) (min b (ps.length-1))=false:=by simpa using h2
  have:=o.tr a b c h1 h2
  simpa using this) (λa b=>by
  cases q:n9 ps (min b (ps.length-1)) (min a (ps.length-1))with
  |false=>rfl
  |true=>have:=o.as b a q;simpa using this) (List.range ps.length)
 refine Zbl (λ{a b} ha hb h=>?_) key;have a1:=Zai.mp ((Cb ps).subset ha);have b1:=Zai.mp ((Cb ps).subset hb);rw[show min a (ps.length-1)=a by lk,show min b (ps.length-1)=b by lk]at h;unfold n9 at h;simpa using h
def Qd{f:D->Option PyData}:∀{ds:List D} {ps:List PyData},bH f ds=some ps->ds.length=ps.length/\∀i,i<ps.length->f (ds.getD i .non)=some (ps.getD i .none)
 |[],_,h=>by cases h;exact⟨rfl,λi hi=>absurd hi (Zaf _)⟩
 |d :: ds,_,h=>by
  obtain⟨b,t,e1,e2,rfl⟩:=vg h;obtain⟨hl,ha⟩:=Qd e2;refine⟨by simp[hl],λi hi=>?_⟩;cases i with
  |zero=>exact e1
  |succ i=>exact ha i (by simpa using hi)
section
variable {K:Zfr}
def Qe{ρ:List Addr}{H:Hp}{vs:List V}{ds:List D}(r:cn K ρ H vs ds):∀{is:List Nat} {es:List D},(∀i∈is,i<ds.length)->es=is.map (λi=>ds.getD i .non)->cn K ρ H (is.map λi=>vs.getD i .non) es
 |[],_,_,e=>by subst e;exact .nil
 |i :: is,_,h,e=>by
  subst e;have hi:=h i ZK;obtain⟨v,hv,rv⟩:=r.got (Zy hi);refine .cons ?_ (Qe r (λj hj=>h j (ZE _ hj)) rfl);show Rp K ρ H (vs.getD i .non) (ds.getD i .non);rw[ZG,ZG,hv,Zy hi];exact rv
def Wx:rQ K (uf K) l8:=by
 intro ρ H st xs as b st' Q l rx e q;unfold l8 at e;split at e
 ·next r lB =>
  split at e
  ·next ds hd =>
   split at e
   ·next ps hp =>
    split at e
    ·next hok =>
     cases e;obtain⟨v,rfl,r⟩:=rx.one';cases r with
     |ref hi =>
      obtain⟨vs,hs,rr⟩:=l.items hi (bJ (sH hd));simp only[p8,ZV,Zbj,decide_eq_true_eq,ZaF]at hok;obtain⟨⟨⟨k1,k2⟩,k3⟩,k4⟩:=hok;obtain⟨hl,ha⟩:=Qd hp;refine⟨_,vs,ps,rfl,hs,EZ l 20 rr hp,k1,k2,k3,?_,λp is Qf x6 LH=>?_⟩
      ·rcases k4 with k4|k4
       ·exact⟨true,k4⟩
       ·exact⟨false,k4⟩
      ·have hb:∀i∈is,i<ps.length:=λi hi'=>Zai.mp (x6.subset hi')
       have hb2:∀i∈nV ps,i<ps.length:=λi hi'=>Zai.mp ((Cb ps).subset hi');have eP:(is.map λi=>ps.getD i .none)=(nV ps).map λi=>ps.getD i .none:=by
        refine Qb ((x6.trans (Cb ps).symm).map _) LH (Ww k2) λa ha' b hb' h1 h2=>?_;have mem:∀x,x∈(is.map λi=>ps.getD i .none)->x∈ps:=λx hx=>by
         obtain⟨i,hi',rfl⟩:=ZL.mp hx;rw[ZG,Zy (hb i hi')];exact Zas _
        exact Kx a b (k2 a (mem a ha') b (mem b hb')) (k2 b (mem b hb') a (mem a ha')) h2 h1
       have eD:qS ds ps=is.map λi=>ds.getD i .non:=by
        unfold qS;have hlen:is.length=(nV ps).length:=by have:=congrArg List.length eP;simpa using this
        refine List.ext_getElem (by simp[hlen]) λi h1 h2=>?_;rw[ZaQ,ZaQ];have g1:i<(nV ps).length:=by simpa using h1
        have g2:i<is.length:=by simpa using h2
        have e1:ps.getD is[i] .none=ps.getD (nV ps)[i] .none:=by
         have:=List.getElem_of_eq eP (i:=i) (by simpa using g2)
         simpa using this
        have b1:=hb2 _ (Zas g1);have b2:=hb _ (Zas g2);have m1:ps.getD (nV ps)[i] .none∈ps:=by
         rw[ZG,Zy b1];exact Zas _
        exact Qc st 20 20 _ _ _ (ha _ b1) (by rw[ha _ b2,e1]) (k2 _ m1 _ m1)
       exact q _ _ _ (Mn.new Qf) (l.newL Qf (Qe rr (λi hi'=>by rw[hl];exact hb i hi') eD)) (.ref (newR l))
    ·cases e
   ·cases e
  ·cases e
 ·cases e
end
def Wy{st:Store}{Q:D->Store->Prop}{r:Nat}{ds:List D}{ps:List PyData}(h:own st r=some ds)(hp:bH (cW st 20) ds=some ps)(hok:p8 ps=true):Wp (l8 [.ref r] st) Q↔Q (.ref st.length) (st ++ [.lst (qS ds ps)]):=by
 have e:l8 [.ref r] st=some (.ref st.length,st ++ [.lst (qS ds ps)]):=by simp only[l8,h,hp,hok,if_true]
 rw[e,bu]
def Qg{ds:List D}{ps:List PyData}(hl:ds.length=ps.length):(qS ds ps).Perm ds:=by
 have h:=(Cb ps).map λi=>ds.getD i .non;refine h.trans ?_;have e:(List.range ps.length).map (λi=>ds.getD i .non)=ds:=by
  refine List.ext_getElem (by simp[hl]) λi h1 h2=>?_;rw[ZaQ,ZbB,ZG,Zy h2];rfl
 rw[e]
section
variable {K:Zfr}
abbrev wt(T:String)(g:D->List D->Dm D)(fo:aj->Dm D):aj->Dm D:=λδ st=>bnd (fo δ st) λo st1=>if vh T st1 o=true then g o [] st1 else none
def AQ{T:String}{r:V->List V->Hp->VK->Prop}{g:D->List D->Dm D}{to:TE}{fo:aj->Dm D}(hr:xM K T r g)(ho:dR K to fo):dR K (Dc K T r to) (wt T g fo):=by
 intro ρ σ H δ st b st' Q l rs e q;obtain⟨o,st1,e1,e⟩:=cm e;split at e
 ·next ht =>
  refine ho ρ σ H δ st o st1 _ l rs e1 λx H1 ρ1 m1 l1 r1=>⟨Pb l1 r1 ht,?_⟩;exact hr ρ1 H1 st1 x [] o [] b st' Q l1 r1 .nil e λv H3 ρ3 m3 l3 r3=>q v H3 ρ3 (m1.trans m3) l3 r3
 ·cases e
end
section
variable {st:Store}{Q:D->Store->Prop}{i:Nat}
def E2{α:Type}{m:Option (α×Store)}{R R':α->Store->Prop}(h:∀a s,R a s↔R' a s):Wp m R↔Wp m R':=by have e:R=R':=funext λa=>funext λs=>propext (h a s);rw[e]
def AR{T:String}{g:D->List D->Dm D}{fo:aj->Dm D}{δ:aj}:Wp (wt T g fo δ st) Q↔Wp (fo δ st) λo st1=>vh T st1 o=true/\Wp (g o [] st1) Q:=by
 unfold wt;rw[dr];refine E2 λo st1=>?_;rw[oy,gQ];split
 ·next h=>exact⟨λq=>⟨h,q⟩,λq=>q.2⟩
 ·next h=>exact⟨False.elim,λq=>h q.1⟩
end
abbrev aV(d:D)(st:Store):Bool:=match d with
 |.ref i=>match st[i]? with
  |some (.exc _ _)=>true
  |_=>false
 |_=>false
def Wz{d:D}{st:Store}(h:aV d st=true):∃i c fs,d=.ref i/\st[i]?=some (.exc c fs):=by
 unfold aV at h;split at h
 ·next i =>
  split at h
  ·next c fs e=>exact⟨i,c,fs,rfl,e⟩
  ·cases h
 ·cases h
def WA{a C:Addr}{dx tr:Option Addr}{xs:List (List Int×Addr×Value)}(e:DU a xs=XO a C dx tr):False:=by
 unfold DU XO at e;injection e with q
 let ob:Obj:={ cls:=.ref C,dict:=dx,data:=.fields #[.none,y9 tr] }
 let h0:Heap:={ objs:=Array.replicate (a+1) ob }
 have e0:h0.get? a=some ob:=by
  refine Heap.get?_some_iff.mpr ⟨?_,rfl⟩;simp[h0]
 have z:=(congrFun q h0).mpr ⟨ob,_,e0,rfl,rfl,rfl,rfl⟩;obtain⟨_,_,o,es,ep,e1,_,e2,_⟩:=z;rw[e0]at e1;cases e1;cases e2
section
variable {K:Zfr}{ρ ρ':List Addr}{H H' H2:Hp}{st st':Store}{a:Addr}
def HP(y:XS a H H2){b:Addr}{u:HO}(h:H b=some u)(n:∀φ,u≠.ext φ):H2 b=some u:=by obtain⟨⟨C,dx,tr,za,e1,e2⟩,k⟩:=y;exact k b (λz=>by rw[z,e1]at h;cases h;exact n _ rfl) u h
def Mn.xs(y:XS a H H2):Mn K ρ H ρ H2:=⟨λ_ _ h=>h,λb vs q=>by
  rcases q with(q|⟨o,q⟩)|q
  exact .inl (.inl (HP y q λφ z=>nomatch z));exact .inl (.inr ⟨o,HP y q λφ z=>nomatch z⟩);exact .inr q
  ,λb o u h=>HP y h (λφ z=>by cases z),λb ws h=>HP y h (λφ z=>by cases z)⟩
def Rl.xs(l:Rl K ρ H st)(y:XS a H H2):Rl K ρ H2 st:=by
 have m:Mn K ρ H ρ H2:=Mn.xs y;refine⟨l.len,l.nd,λi b o h1 h2=>?_⟩;have r:=l.obj i b o h1 h2;by_cases hb:b=a;subst hb;have y0:=y;obtain⟨⟨C,dx,tr,za,e1,e2⟩,k⟩:=y0;cases o with
 |lst ds=>obtain⟨vs,e,_⟩:=r;rw[e1]at e;cases e
 |pH ds =>
  obtain⟨vs,e,q⟩:=r;refine⟨vs,?_,q.mn m⟩;rcases e with⟨u,e⟩|e
  rw[e1]at e;cases e;exact .inr e
 |dct kvs=>obtain⟨vs,e,_⟩:=r;rw[e1]at e;cases e
 |Ec kvs=>obtain⟨vs,e,_⟩:=r;rw[e1]at e;exact(WA (ZN e).symm).elim
 |exc c fs =>
  obtain⟨C',BR,Tt,n,e,q⟩:=r;rw[e1]at e;obtain⟨rfl,rfl⟩:=XO.inj (ZN e);exact⟨C,dx,za,n,e2,q.mn m⟩
 |any=>trivial
 |iE lo hi=>have z:H b=some (.iE lo hi):=r;rw[e1]at z;cases z
 exact r.keep m λu e=>y.2 b hb u e
abbrev Cc(K:Zfr)(W:Addr->Hp->Prop)(ρ:List Addr)(H:Hp)(st':Store)(E:Ends):Fl->Prop
 |.rt d=>(aV d st'=true->∀a H' ρ',Mn K ρ H ρ' H'->Rl K ρ' H' st'->Rp K ρ' H' (.ref a) d->W a H')/\(aV d st'=false->Go K ρ H st' E (.rt d))
 |fl=>Go K ρ H st' E fl
def Cc.mn{W:Addr->Hp->Prop}{ρ1:List Addr}{H1:Hp}{E:Ends}{fl:Fl}(g:Cc K W ρ H st' E fl)(m:Mn K ρ H ρ1 H1):Cc K W ρ1 H1 st' E fl:=by
 cases fl with
 |rt d=>exact⟨λh a H' ρ' m' l r=>g.1 h a H' ρ' (m.trans m') l r,λh=>Go.mn (g.2 h) m⟩
 |nx δ=>exact Go.mn (fl:=.nx δ) g m
 |bk δ=>exact Go.mn (fl:=.bk δ) g m
 |ct δ=>exact Go.mn (fl:=.ct δ) g m
abbrev tf(K:Zfr)(W:Addr->Hp->Prop)(t:TS)(f:aj->Dm Fl):Prop :=
 ∀(ρ:List Addr) (σ:St) (H:Hp) (δ:aj) (st:Store) (fl:Fl) (st':Store) (E:Ends),Rl K ρ H st->Rs K ρ H σ δ->f δ st=some (fl,st')->Cc K W ρ H st' E fl->t E σ H
abbrev rX(f:aj->Dm Fl):aj->Dm Fl:=λδ st=>bnd (f δ st) λfl st1=>match fl with
 |.rt d=>if aV d st1=true then none else some (.rt d,st1)
 |x=>some (x,st1)
def uH{W:Addr->Hp->Prop}{t:TS}{f:aj->Dm Fl}(hf:ow K t f):tf K W t (rX f):=by
 intro ρ σ H δ st fl st' E l rs e q;obtain⟨x,st1,e1,e⟩:=cm e;cases x with
 |rt d =>
  dsimp only at e;split at e
  ·cases e
  ·next hn=>cases e;exact hf ρ σ H δ st _ _ E l rs e1 (q.2 (by simpa using hn))
 |nx δ1=>cases e;exact hf ρ σ H δ st _ _ E l rs e1 q
 |bk δ1=>cases e;exact hf ρ σ H δ st _ _ E l rs e1 q
 |ct δ1=>cases e;exact hf ρ σ H δ st _ _ E l rs e1 q
def vo{W:Addr->Hp->Prop}{t u:TS}{f g:aj->Dm Fl}(hf:tf K W t f)(hg:tf K W u g):tf K W (yz t u) (ay f g):=by
 intro ρ σ H δ st fl st' E l rs e q;obtain⟨x,st1,e1,e⟩:=cm e;refine hf ρ σ H δ st x st1 _ l rs e1 ?_;cases x with
 |nx δ1=>exactλσ1 H1 ρ1 m1 l1 r1=>hg ρ1 σ1 H1 δ1 st1 fl st' E l1 r1 e (q.mn m1)
 |bk δ1=>cases e;exact q
 |ct δ1=>cases e;exact q
 |rt d=>cases e;exact q
def WB{W:Addr->Hp->Prop}{c:TT}{t u:TS}{fc:aj->Dm Bool}{f g:aj->Dm Fl}(hc:pS K c fc)(hf:tf K W t f)(hg:tf K W u g):tf K W (vD c t u) (dN fc f g):=by
 intro ρ σ H δ st fl st' E l rs e q;obtain⟨a,st1,e1,e⟩:=cm e;refine hc ρ σ H δ st _ _ _ l rs e1 λx H1 ρ1 m1 l1 r1=>?_;subst r1;cases x with
 |true =>
  refine oP ?_;rw[if_pos rfl]at e;exact hf ρ1 σ H1 δ st1 fl st' E l1 (rs.mn m1) e (q.mn m1)
 |false =>
  refine oO ?_;rw[if_neg ZC]at e;exact hg ρ1 σ H1 δ st1 fl st' E l1 (rs.mn m1) e (q.mn m1)
def WC{c:Str}{fs:List (Str×D)}:aV (.ref st.length) (st ++ [.exc c fs])=true:=by simp[aV]
abbrev x8(K:Zfr)(n:Nat)(F:List D->Dm D):Sp:=λvs H Q E=>vs.length=n/\∃(ρ:List Addr) (st:Store) (ds:List D) (b:D) (st':Store),Rl K ρ H st/\cn K ρ H vs ds/\F ds st=some (b,st') /\
 (aV b st'=true->∀a H' ρ',Mn K ρ H ρ' H'->Rl K ρ' H' st'->Rp K ρ' H' (.ref a) b->E (.ref a) none H')/\(aV b st'=false->∀v H' ρ',Mn K ρ H ρ' H'->Rl K ρ' H' st'->Rp K ρ' H' v b->Q v H')
def Qh{N:List Str}{k n:Nat}{t:TS}{b:aj->Dm Fl}{vs:List V}{H:Hp}{Q:VK}{E:XK}(hb:tf K (λa H'=>E (.ref a) none H') t b)(hn:N.length=n)(h:x8 K k (gS n b) vs H Q E):t { nx:=λ_ H'=>Q .non H',rt:=Q } (start N vs) H:=by
 obtain⟨hk,ρ,st,ds,d,st',l,r,e,q1,q2⟩:=h;subst hn;obtain⟨fl,st1,e1,e⟩:=cm e;refine hb ρ _ H _ st fl st1 _ l (Rs.start r N) e1 ?_;cases fl with
 |rt v=>cases e;exact⟨q1,q2⟩
 |nx δ=>cases e;exactλσ' H' ρ' m l' r'=>q2 rfl .non H' ρ' m l' .non
 |bk δ=>cases e
 |ct δ=>cases e
abbrev Cd(K:Zfr)(t:(St->Addr->Hp->Prop)->TS)(f:aj->Dm Fl):Prop :=
 ∀(ρ:List Addr) (σ:St) (H:Hp) (δ:aj) (st:Store) (fl:Fl) (st':Store) (E:Ends) (W:St->Addr->Hp->Prop),Rl K ρ H st->Rs K ρ H σ δ->f δ st=some (fl,st')->Cc K (W σ) ρ H st' E fl->t W E σ H
abbrev rY(F:List D->Dm D)(fa:aj->Dm (List D))(i:Nat):aj->Dm Fl:=λδ st=>bnd (fa δ st) λas st1=>bnd (F as st1) λb st2=>if aV b st2=true then some (.rt b,st2)else some (.nx (δ.set i (some b)),st2)
abbrev catches(sub:Str->Bool)(d:D)(st:Store):Bool:=match d with
 |.ref i=>match st[i]? with
  |some (.exc c _)=>sub c
  |_=>false
 |_=>false
abbrev wu(f:aj->Dm Fl)(sub:Str->Bool)(i:Nat)(fs:aj->Dm Fl):aj->Dm Fl:=λδ st=>bnd (f δ st) λfl st1=>match fl with
 | .rt d=>if aV d st1=true then(if catches sub d st1=true then bnd (fs (δ.set i (some d)) st1) (λLI st2=>match LI with
   |.nx δ2=>some (.nx (δ2.set i none),st2)
   |.rt x=>some (.rt x,st2)
   |_=>none)else none)else some (.rt d,st1)
 |x=>some (x,st1)
def Rs.unset{σ:St}{δ:aj}{i:Nat}(h:Rs K ρ H σ δ):Rs K ρ H (σ.set i none) (δ.set i none):=by
 refine⟨by rw[Zae,Zae];exact h.1,λj e hj=>?_⟩;by_cases hij:i=j;subst hij;have hl:i<δ.length:=by
  have:=(Zz.mp hj).1
  rwa [Zae]at this
 rw[ZI hl]at hj;cases hj;rw[ZJ hij]at hj;obtain⟨w,hw,rw'⟩:=h.2 j e hj;exact⟨w,by rw[ZJ hij];exact hw,rw'⟩
def AU{t:(St->Addr->Hp->Prop)->TS}{ts:TS}{f fs:aj->Dm Fl}{sub:Str->Bool}{F:Addr}{i:Nat}(hf:Cd K t f)(hs:ow K ts fs)(hsub:∀c C,sub c=true->PySem.W.nsIn K mainGlobals c=some (some (.ref C))->PySem.W.mroIn K C (.ref F)=some true):
  ow K (DK K t F i ts) (wu f sub i fs):=by
 intro ρ σ H δ st fl st' E l rs e q;obtain⟨x,st1,e1,e⟩:=cm e;refine hf ρ σ H δ st x st1 E _ l rs e1 ?_;cases x with
 |nx δ1=>cases e;exact q
 |bk δ1=>cases e;exact q
 |ct δ1=>cases e;exact q
 |rt d =>
  dsimp only at e;refine⟨λhr a H' ρ' m' l' r'=>?_,λhr=>?_⟩
  ·rw[if_pos hr]at e
   obtain⟨j,c,gs,rfl,hj⟩:=Wz hr;split at e
   ·next hca =>
    have hc:sub c=true:=by simpa[catches,hj]using hca
    obtain⟨y,st2,e2,e⟩:=cm e;cases r' with
    |ref HQ =>
     obtain⟨C,dx,tr,hn,ea,_⟩:=l'.obj j a _ HQ hj;refine⟨C,dx,tr,ea,hsub c C hc hn,hs ρ' _ H' _ st1 y st2 _ l' ((rs.mn m').set (.ref HQ)) e2 ?_⟩;cases y with
     |nx δ2=>cases e;exactλσ3 H3 ρ3 m3 l3 r3=>q _ H3 ρ3 (m'.trans m3) l3 r3.unset
     |rt v=>cases e;exactλv3 H3 ρ3 m3 l3 r3=>q v3 H3 ρ3 (m'.trans m3) l3 r3
     |bk δ2=>cases e
     |ct δ2=>cases e
   ·cases e
  ·rw[hr,if_neg ZC]at e
   cases e;exact q
abbrev o7(x:Str):Str->Bool:=λc=>decide (c=x)
def WD{x:Str}{C0 F:Addr}(hn:PySem.W.nsIn K mainGlobals x=some (some (.ref C0)))(k:PySem.W.mroIn K C0 (.ref F)=some true):∀c C,o7 x c=true->PySem.W.nsIn K mainGlobals c=some (some (.ref C))->PySem.W.mroIn K C (.ref F)=some true:=λc C h n=>by
 have e:c=x:=of_decide_eq_true h;subst e;rw[hn]at n;cases n;exact k
@[reducible]def Qi:List Value:=[.type "ValueError",.type "Exception",.type "BaseException",.type "object"]
end
section
variable {st:Store}{δ:aj}{N B C:aj->Store->Prop}{R:D->Store->Prop}{f g:aj->Dm Fl}
def uI(h:Ws (f δ st) N B C (λd s=>aV d s=false/\R d s)):Ws (rX f δ st) N B C R:=by
 obtain⟨fl,s1,e,q⟩:=h;unfold rX;rw[e];cases fl with
 |rt d=>refine⟨.rt d,s1,?_,q.2⟩;simp[bnd,q.1]
 |nx δ1=>exact⟨.nx δ1,s1,rfl,q⟩
 |bk δ1=>exact⟨.bk δ1,s1,rfl,q⟩
 |ct δ1=>exact⟨.ct δ1,s1,rfl,q⟩
def AV{sub:Str->Bool}{i:Nat}{fs:aj->Dm Fl}(h:Ws (f δ st) N B C (λd s=>(aV d s=false->R d s)/\(aV d s=true->catches sub d s=true/\Ws (fs (δ.set i (some d)) s) (λδ2 s2=>N (δ2.set i none) s2) (λ_ _=>False) (λ_ _=>False) R))):
  Ws (wu f sub i fs δ st) N B C R:=by
 obtain⟨fl,s1,e,q⟩:=h;unfold wu;rw[e];cases fl with
 |rt d =>
  cases hr:aV d s1 with
  |false=>refine⟨.rt d,s1,?_,q.1 hr⟩;simp[bnd,hr]
  |true =>
   obtain⟨hc,LI,s2,e2,q2⟩:=q.2 hr;cases LI with
   |rt x=>refine⟨.rt x,s2,?_,q2⟩;simp[bnd,hr,hc,e2]
   |nx δ1=>refine⟨.nx (δ1.set i none),s2,?_,q2⟩;simp[bnd,hr,hc,e2]
   |bk δ1=>exact q2.elim
   |ct δ1=>exact q2.elim
 |nx δ1=>exact⟨.nx δ1,s1,rfl,q⟩
 |bk δ1=>exact⟨.bk δ1,s1,rfl,q⟩
 |ct δ1=>exact⟨.ct δ1,s1,rfl,q⟩
def WE{i:Nat}{F:List D->Dm D}{fa:aj->Dm (List D)}(h:Wp (fa δ st) λas s1=>Wp (F as s1) λb s2=>(aV b s2=true->R b s2)/\(aV b s2=false->N (δ.set i (some b)) s2)):Ws (rY F fa i δ st) N B C R:=by
 obtain⟨as,s1,e,b,s2,e2,q⟩:=h;unfold rY;rw[e];cases hr:aV b s2 with
 |true=>refine⟨.rt b,s2,?_,q.1 hr⟩;simp[bnd,e2,hr]
 |false=>refine⟨.nx (δ.set i (some b)),s2,?_,q.2 hr⟩;simp[bnd,e2,hr]
end
section
variable {K:Zfr}{ρ ρ':List Addr}{H H' H2:Hp}{st st':Store}{a:Addr}
def WG{a b:Addr}{o u:HO}(n:a≠b):upd (upd H a o) b u=upd (upd H b u) a o:=by
 funext c
 unfold upd;by_cases c1:c=b;subst c1;rw[if_pos rfl,if_neg (Ne.symm n),if_pos rfl];rw[if_neg c1];by_cases c2:c=a;rw[if_pos c2,if_pos c2];rw[if_neg c2,if_neg c2,if_neg c1]
def Rl.newX{C d:Addr}{c:Str}{fs:List (Str×D)}{ws:List (Str×V)}(l:Rl K ρ H st)(ha:H a=none)(hd:H d=none)(da:d≠a)(hc:PySem.W.nsIn K mainGlobals c=some (some (.ref C)))(hw:∀f e,fs.lookup f=some e->∃v,ws.lookup f=some v/\Rp K ρ H v e):
  Rl K (ρ ++ [a]) (upd (upd H a (XO a C (some d) none)) d (.xd ws)) (st ++ [.exc c fs])/\Mn K ρ H (ρ ++ [a]) (upd (upd H a (XO a C (some d) none)) d (.xd ws)):=by
 rw[WG (Ne.symm da)];have m1:Mn K ρ H ρ (upd H d (.xd ws)):=Mn.same (fH.up hd);have l1:=l.same (fH.up (o:=.xd ws) hd);have ha1:upd H d (.xd ws) a=none:=by rw[dO (Ne.symm da)];exact ha
 have m2:Mn K ρ (upd H d (.xd ws)) (ρ ++ [a]) (upd (upd H d (.xd ws)) a (XO a C (some d) none)):=Mn.new ha1;refine⟨l1.new ha1 ⟨C,some d,none,hc,mK,ws,by rw[dO da,mK],λf e h=>?_⟩,m1.trans m2⟩;obtain⟨v,h1,h2⟩:=hw f e h;exact⟨v,h1,h2.mn (m1.trans m2)⟩
abbrev mQ(c:Str)(fs:List Str)(fa:aj->Dm (List D)):aj->Dm Fl:=λδ st=>bnd (fa δ st) λds st1=>some (.rt (.ref st1.length),st1 ++ [.exc c (fs.zip ds)])
abbrev p9(sub:Str->Bool)(f:Str)(fa:aj->Dm D):aj->Dm D:=λδ st=>bnd (fa δ st) λd st1=>match d with
 |.ref i=>match st1[i]? with
  |some (.exc c fs)=>if sub c=true then(match fs.lookup f with
   |some e=>some (e,st1)
   |none=>none)else none
  |_=>none
 |_=>none
def WH{te:TE}{fa:aj->Dm D}{sub:Str->Bool}{f:Str}(ha:dR K te fa)(h:∀c C,sub c=true->PySem.W.nsIn K mainGlobals c=some (some (.ref C))->xB K C/\PySem.W.findIn K (.ref C) f=some none):dR K (KH K te f) (p9 sub f fa):=by
 intro ρ σ H δ st b st' Q l rs e q;obtain⟨d,st1,e1,e⟩:=cm e;refine ha ρ σ H δ st d st1 _ l rs e1 λx H1 ρ1 m1 l1 r1=>?_;split at e
 ·split at e
  ·next c fs hj =>
   split at e
   ·next hs =>
    split at e
    ·next e0 he =>
     cases e;cases r1 with
     |ref HQ =>
      obtain⟨C,dx,tr,hn,ea,hx⟩:=l1.obj _ _ _ HQ hj;obtain⟨ei,hf⟩:=h c C hs hn;cases dx with
      |none=>rw[show fs=[]from hx]at he;cases he
      |some dd =>
       obtain⟨ws,ed,hw⟩:=hx;obtain⟨v,hv,rv⟩:=hw f _ he;exact⟨_,C,dd,tr,ws,v,rfl,ea,ed,hv,ei,hf,q v H1 ρ1 m1 l1 rv⟩
    ·cases e
   ·cases e
  ·cases e
 ·cases e
end
section
variable {st:Store}{δ:aj}{N B C:aj->Store->Prop}{R:D->Store->Prop}
def WI{c:Str}{fs:List Str}{fa:aj->Dm (List D)}(h:Wp (fa δ st) λds s1=>R (.ref s1.length) (s1 ++ [.exc c (fs.zip ds)])):Ws (mQ c fs fa δ st) N B C R:=by obtain⟨ds,s1,e,q⟩:=h;exact⟨_,_,by unfold mQ;rw[e];rfl,q⟩
abbrev x9(sub:Str->Bool)(f:Str)(d:D)(st:Store)(Q:D->Store->Prop):Prop:=∃i c fs e,d=.ref i/\st[i]?=some (.exc c fs)/\sub c=true/\fs.lookup f=some e/\Q e st
def E3{x f:Str}{i:Nat}{fs:List (Str×D)}{e:D}{Q:D->Store->Prop}(hi:st[i]?=some (.exc x fs))(he:fs.lookup f=some e)(q:Q e st):x9 (o7 x) f (.ref i) st Q:=⟨i,x,fs,e,rfl,hi,by unfold o7;simp,he,q⟩
def WJ{sub:Str->Bool}{f:Str}{fa:aj->Dm D}{Q:D->Store->Prop}(h:Wp (fa δ st) λd s1=>x9 sub f d s1 Q):Wp (p9 sub f fa δ st) Q:=by obtain⟨d,s1,e,i,c,fs,x,rfl,hi,hs,hl,q⟩:=h;refine⟨x,s1,?_,q⟩;unfold p9;rw[e];simp[bnd,hi,hs,hl]
end
section
variable {K:Zfr}
abbrev o8(g g':D->D->Dm D)(fa fb fc:aj->Dm D):aj->Dm D:=λδ st=>bnd (fa δ st) λa st1=>bnd (fb δ st1) λb st2=>bnd (g a b st2) λz st3=>match z with
 |.bl true=>bnd (fc δ st3) λc kh=>g' b c kh
 |.bl false=>some (.bl false,st3)
 |_=>none
def WK{r r':R2}{g g':D->D->Dm D}{ta tb tc:TE}{fa fb fc:aj->Dm D}(hr:mF K r g)(hr':mF K r' g')(ha:dR K ta fa)(hb:dR K tb fb)(hc:dR K tc fc):dR K (tJ r r' ta tb tc) (o8 g g' fa fb fc):=by intro ρ σ H δ st v st' Q l rs e q;obtain⟨a,st1,e1,e⟩:=cm e;obtain⟨b,st2,e2,e⟩:=cm e;obtain⟨z,st3,e3,e⟩:=cm e;refine ha ρ σ H δ st a st1 _ l rs e1 λx H1 ρ1 m1 l1 r1=>hb ρ1 σ H1 δ st1 b st2 _ l1 (rs.mn m1) e2 λy H2 ρ2 m2 l2 r2=>?_;refine hr ρ2 H2 st2 x y a b z st3 _ l2 (r1.mn m2) r2 e3 λw H3 ρ3 m3 l3 r3=>?_;split at e;obtain⟨c,kh,e4,e⟩:=cm e;cases r3;refine⟨true,rfl,?_⟩;rw[if_pos rfl];refine hc ρ3 σ H3 δ st3 c kh _ l3 (rs.mn ((m1.trans m2).trans m3)) e4 λu H4 ρ4 m4 l4 r4=>?_;exact hr' ρ4 H4 kh y u b c v st' Q l4 (r2.mn (m3.trans m4)) r4 e λv' H5 ρ5 m5 l5 r5=>q v' H5 ρ5 ((((m1.trans m2).trans m3).trans m4).trans m5) l5 r5;cases e;cases r3;refine⟨false,rfl,?_⟩;rw[if_neg ZC];exact q _ H3 ρ3 ((m1.trans m2).trans m3) l3 (.bl _);cases e
def Qj{g g':D->D->Dm D}{fa fb fc:aj->Dm D}{δ:aj}{st:Store}{Q:D->Store->Prop}:Wp (o8 g g' fa fb fc δ st) Q↔Wp (fa δ st) λa st1=>Wp (fb δ st1) λb st2=>Wp (g a b st2) λz st3=>(z=.bl true/\Wp (fc δ st3) λc kh=>Wp (g' b c kh) Q)\/(z=.bl false/\Q (.bl false) st3):=by unfold o8;rw[dr];constructor;rintro⟨a,st1,e1,b,st2,e2,h⟩;obtain⟨b',LJ,vM,h'⟩:=cm e2;obtain⟨z,st3,e3,h''⟩:=cm h';refine⟨a,st1,e1,b',LJ,vM,z,st3,e3,?_⟩;split at h'';obtain⟨c,kh,e4,e5⟩:=cm h'';exact .inl ⟨rfl,c,kh,e4,b,st2,e5,h⟩;cases h'';exact .inr ⟨rfl,h⟩;cases h'';rintro⟨a,st1,e1,b,st2,e2,z,st3,e3,⟨rfl,c,kh,e4,v,jQ,e5,h⟩|⟨rfl,h⟩⟩;refine⟨a,st1,e1,v,jQ,?_,h⟩;simp[bnd,e2,e3,e4,e5];refine⟨a,st1,e1,.bl false,st3,?_,h⟩;simp[bnd,e2,e3]
end
def WL{K:Zfr}{x:Str}{C0:Addr}{R:Addr->Prop}(hn:PySem.W.nsIn K mainGlobals x=some (some (.ref C0)))(k:R C0):∀c C,o7 x c=true->PySem.W.nsIn K mainGlobals c=some (some (.ref C))->R C:=λc C h n=>by
 have e:c=x:=of_decide_eq_true h;subst e;rw[hn]at n;cases n;exact k
end L4
namespace L2
open PySem PySem.Spec
end L2
namespace L4
open PySem PySem.Spec L2
section
variable {K:Zfr}{W:Addr->Hp->Prop}
def WM{tc:TT}{tb:TS}{c:aj->Dm Bool}{b:aj->Dm Fl}(hc:pS K tc c)(hb:tf K W tb b):tf K W (qD tc tb) (iZ c b):=by
 intro ρ σ H δ st fl st' E l rs e q;refine⟨λm σ1 H1=>∃ρ1 δ1 st1,Mn K ρ H ρ1 H1/\Rl K ρ1 H1 st1/\Rs K ρ1 H1 σ1 δ1/\dw c b m δ1 st1=some (fl,st'),⟨fuel,ρ,δ,st,.refl,l,rs,e⟩,?_⟩;rintro m σ1 H1 ⟨ρ1,δ1,st1,m1,l1,sY,e1⟩;cases m with
 |zero=>cases e1
 |succ m =>
  obtain⟨t,st2,e2,e1⟩:=cm e1;refine hc ρ1 σ1 H1 δ1 st1 _ _ _ l1 sY e2 λx H2 ρ2 m2 l2 r2=>?_;subst r2;cases x with
  |true =>
   refine oP ?_;rw[if_pos rfl]at e1;obtain⟨f2,st3,e3,e1⟩:=cm e1;refine⟨λσ3 H3=>∃m',m' < m+1/\∃ρ1 δ1 st1,Mn K ρ H ρ1 H3/\Rl K ρ1 H3 st1/\Rs K ρ1 H3 σ3 δ1/\dw c b m' δ1 st1=some (fl,st'),λ_ _ h=>h,hb ρ2 σ1 H2 δ1 st2 f2 st3 _ l2 (sY.mn m2) e3 ?_⟩;cases f2 with
   |nx δ3=>exactλσ3 H3 ρ3 m3 l3 r3=>⟨m,Zat m,ρ3,δ3,st3,(m1.trans m2).trans m3,l3,r3,e1⟩
   |ct δ3=>exactλσ3 H3 ρ3 m3 l3 r3=>⟨m,Zat m,ρ3,δ3,st3,(m1.trans m2).trans m3,l3,r3,e1⟩
   |bk δ3=>cases e1;exact Go.mn (fl:=.nx δ3) q (m1.trans m2)
   |rt d=>cases e1;exact Cc.mn q (m1.trans m2)
  |false =>
   refine oO ?_;rw[if_neg ZC]at e1;cases e1;exact Go.mn (fl:=.nx δ1) q (m1.trans m2) σ1 H2 ρ2 .refl l2 (sY.mn m2)
end
section
variable {K:Zfr}
def WN{C:Addr}{c f1:Str}{E0:XK}{ta:TA}{fa:aj->Dm (List D)}(ha:qy K ta fa)(hn:∀δ st as st',fa δ st=some (as,st')->as.length=1)(hc:PySem.W.nsIn K mainGlobals c=some (some (.ref C)))(es:uX K C)
  (t1:PySem.W.takerIn K C f1=some none) (hm:PySem.W.mroIn K C (.type "BaseException")=some true) (ht:PySem.W.typeIn K (.ref C)=some (.type "type")) :
  tf K (λa H'=>E0 (.ref a) none H') (rH K (uh C (ui K f1) ta) E0) (mQ c [f1] fa):=by
 intro ρ σ H δ st fl st' E l rs e q;obtain⟨ds,st1,e1,e⟩:=cm e;cases e;refine ha ρ σ H δ st ds st1 _ l rs e1 λvs H1 ρ1 m1 l1 r1=>?_;have hl:=hn _ _ _ _ e1;have hv:vs.length=1:=by rw[r1.length];exact hl
 match vs,ds,r1,hl,hv with
 |[v1],[d1],.cons a1 .nil,_,_ =>
  refine⟨(show 1<=10 by decide),λa hna=>⟨a,C,none,v1,rfl,mK,es,t1,λd hd da=>⟨rfl,a,C,some d,rfl,?_,hm,ht,λH2 y=>?_⟩⟩⟩;rw[dO (Ne.symm da),mK];have hd1:H1 d=none:=by rw[dO da]at hd;exact hd
  rw[Rj]at y;obtain⟨l2,m2⟩:=l1.newX (c:=c) (C:=C) (fs:=[(f1,d1)]) (ws:=[(f1,v1)]) hna hd1 da hc λf e h=>by
   simp only[Zaw,List.lookup_nil]at h ⊢;by_cases z1:(f == f1)=true;rw[z1]at h;cases h;rw[z1];exact⟨v1,rfl,a1⟩;have z1:(f == f1)=false:=by simpa using z1
   rw[z1]at h;cases h
  exact q.1 WC a H2 (ρ1 ++ [a]) ((m1.trans m2).trans (Mn.xs y)) (l2.xs y) (.ref (newR l1))
end
abbrev eA:D->List D->Dm D
 |.ref k,[a],st=>match cW st 20 a,(items st k).bind (bH (cW st 19))with
  |some dx,some ds=>match ds.findIdx? λd=>PyData.eqv d dx with
   |some j=>if dx.canLay0 && ds.all PyData.canLay0 && decide (dx.depth<=60) && decide (ds.length<=1000)then some (.int (j:Int),st)else none
   |none=>none
  |_,_=>none
 |_,_,_=>none
section
variable {K:Zfr}
def Qk:xM K "list" (rJ K) eA:=by
 intro ρ H st x xs a as b st' Q l rx ux e q;unfold eA at e;split at e
 ·split at e
  ·next dx ds h1 h2 =>
   split at e
   ·next j hj =>
    split at e
    ·next ok =>
     cases e;rw[ZV,ZV,ZV,decide_eq_true_eq,decide_eq_true_eq,ZaF]at ok;obtain⟨es,h3,h4⟩:=Zal.mp h2;obtain⟨y,rfl,r⟩:=ux.one';cases rx with
     |ref hi =>
      obtain⟨vs,s,rr⟩:=l.items hi h3;obtain⟨hjl,hj1,hj2⟩:=Za0.mp hj
      exact⟨_,vs,ds,y,dx,j,rfl,rfl,s,EZ l 19 rr h4,B3 l 20 r h1,ok.1.1.2,ok.1.1.1,ok.1.2,ok.2,⟨_,Zy hjl,hj1⟩,λi d hij hd=>by
       obtain⟨hil,rfl⟩:=Zz.mp hd
       simpa using hj2 i hij,q _ H ρ .refl l (.int _)⟩
    ·cases e
   ·cases e
  ·cases e
 ·cases e
end
def Ql{st:Store}{Q:D->Store->Prop}{n k j:Nat}{a:D}{es:List D}(ha:pU n a)(hc:items st k=some es)(he:∀e∈es,pU n e)(hn:n<=15)(hl:es.length<=1000)(hj:es[j]?=some a)(hno:∀i e,i<j->es[i]?=some e->e≠a):Wp (eA (.ref k) [a] st) Q↔Q (.int (j:Int)) st:=by
 have h1:=vn n a ha 20 ⋯ st;have h2:bH (cW st 19) es=some (es.map (iL n)):=EY λx hx=>vn n x (he x hx) 19 ⋯ st;obtain⟨hjl,WO⟩:=Zz.mp hj;have hf:(es.map (iL n)).findIdx? (λd=>PyData.eqv d (iL n a))=some j:=by
  refine Za0.mpr ⟨by simpa using hjl,?_,λi hij=>?_⟩;rw[ZaQ,WO];exact(Ca n a a ha ha).mpr rfl;have hil:i<es.length:=by lk
  rw[ZaQ];have hm:es[i]∈es:=Zas hil;intro h;exact hno i es[i] hij (Zy hil) ((Ca n es[i] a (he _ hm) ha).mp h)
 have l1:=uG n a ha;have l2:(es.map (iL n)).all PyData.canLay0=true:=by
  rw[ZaF];intro d hd;obtain⟨x,hx,rfl⟩:=ZL.mp hd;exact(uG n x (he x hx)).1
 have e:eA (.ref k) [a] st=some (.int (j:Int),st):=by
  unfold eA;simp only[h1,hc,ZaE,h2,hf,l1.1,l2,Bool.true_and,Zx,decide_eq_true_eq,ZV];rw[if_pos ⟨by lk,hl⟩]
 rw[e,bu]
abbrev wx:D->List D->Dm D
 |.ref i,[],st=>match own st i with
  |some xs=>match xs[xs.length-1]? with
   |some y=>some (y,st.set i (.lst xs.dropLast))
   |none=>none
  |none=>none
 |_,_,_=>none
section
variable {K:Zfr}
def AW:xM K "list" De wx:=by
 intro ρ H st x xs a as b st' Q l rx ux e q;unfold wx at e;split at e
 ·split at e
  ·next ys hy =>
   split at e
   ·next y hl =>
    cases e;cases ux;cases rx with
    |ref hi =>
     obtain⟨vs,e1,r1⟩:=l.obj _ _ _ hi (sH hy);obtain⟨v,hv,rv⟩:=r1.got hl;have hlen:=r1.length;have r2:cn K ρ H vs.dropLast ys.dropLast:=by
      rw[List.dropLast_eq_take,List.dropLast_eq_take,hlen];exact r1.take _
     obtain⟨l2,m2⟩:=l.putL hi (sH hy) r2;exact⟨_,vs,v,rfl,rfl,e1,by rw[hlen];exact hv,q _ _ ρ m2 l2 (rv.mn m2)⟩
   ·cases e
  ·cases e
 ·cases e
end
section
variable {st:Store}{Q:D->Store->Prop}{i:Nat}
def AX{xs:List D}{y:D}(h:own st i=some (xs ++ [y])):Wp (wx (.ref i) [] st) Q↔Q y (st.set i (.lst xs)):=by
 have e:(xs ++ [y])[(xs ++ [y]).length-1]?=some y:=by simp
 have e2:(xs ++ [y]).dropLast=xs:=by simp
 show Wp (match own st i with|some xs=>(match xs[xs.length-1]? with|some y=>some (y,st.set i (O.lst xs.dropLast))|none=>none)|none=>none) Q↔_;rw[h];dsimp only;rw[e,e2];exact bu
end
end L4
namespace af
@[reducible]def CS:=List aP×List (List Sp)×List (Nat×Nat)
abbrev a7(n:Nat)(fs:List aP)(ws:List (List Sp))(k:Nat)(s:Sp):List aP×List (List Sp)×Nat :=
 if bG n (stM (fs.getD k ([],[])) s)∈fs then(fs,ws,fs.idxOf (bG n (stM (fs.getD k ([],[])) s)))else(fs ++ [bG n (stM (fs.getD k ([],[])) s)],ws ++ [(j9 (ws.getD k [] ++ [s])).reverse],fs.length)
abbrev kY(n:Nat)(c:CS):List aP×List (List Sp)×Nat:=a7 n c.1 c.2.1 c.2.2.length (true,1)
abbrev jW(n:Nat)(c:CS):List aP×List (List Sp)×Nat:=a7 n (kY n c).1 (kY n c).2.1 c.2.2.length (false,1)
abbrev LK(n:Nat)(c:CS):CS:=((jW n c).1,(jW n c).2.1,c.2.2 ++ [((kY n c).2.2,(jW n c).2.2)])
abbrev ch(n:Nat)(p:aP):Nat->CS
 |0=>([bG n p],[[]],[])
 |i+1=>LK n (ch n p i)
structure GR(n:Nat)(p:aP)(fs:List aP)(ws:List (List Sp)):Prop where
 nd:fs.Nodup
 own:∀q∈fs,Wh n q/\bG n q=q
 wl:ws.length=fs.length
 hd:fs[0]?=some (bG n p)
 wd:∀(k:Nat) (w:List Sp),ws[k]?=some w->Pl w.reverse/\w.length<=k/\(∀s∈w,s.2.natAbs<=k+3)/\∃q,fs[k]?=some q/\bC n (gh p w) q
abbrev WQ(n:Nat)(fs:List aP)(ls:List (Nat×Nat)):Prop:=∀(k:Nat) (l:Nat×Nat),ls[k]?=some l->∃p,fs[k]?=some p/\fs[l.1]?=some (bG n (stM p (true,1)))/\fs[l.2]?=some (bG n (stM p (false,1)))
structure GC(n:Nat)(p:aP)(c:CS)(i:Nat):Prop where
 r:GR n p c.1 c.2.1
 ll:c.2.2.length=i
 le:i<=c.1.length
 ld:WQ n c.1 c.2.2
section
variable {n:Nat}{p:aP}
def GR.few{fs:List aP}{ws:List (List Sp)}(g:GR n p fs ws):0<fs.length:=(Zz.mp g.hd).1
def wy(w:Wh n p)(n0:0<n):Wh n (bG n p)/\bG n (bG n p)=bG n p/\bC n p (bG n p):=by
 obtain⟨s,s0,s1,e⟩:=K7 p n0;have tb:=w.bf s0 s1;have a:bC n p (bG n p):=⟨inv (bf p.1 p.2 s n),tb.az,by rw[e,u3 w.v.1 tb,u3 w.v.2 tb];rfl⟩;have wq:Wh n (bG n p):=by
  obtain⟨g,tg,eq⟩:=a;have:=rV (xs:=p.1) (ys:=p.2) ⟨w.v.1,w.v.2,w.all⟩ tg n0;rw[eq];exact⟨⟨this.1,this.2.1⟩,this.2.2⟩
 exact⟨wq,(u9 n0 w.v a).symm,a⟩
def WR{fs:List aP}{q:aP}(h:q∈fs):fs[fs.idxOf q]?=some q:=by have hl:=Zbg h;rw[Zy hl,ZbC]
def WS{w:List Sp}{k:Nat}{s:Sp}(hp:Pl w.reverse)(hn:∀a∈w,a.2.natAbs<=k+3)(hs:s=(true,1)\/s=(false,1)):Pl (j9 (w ++ [s]))/\∀a∈(j9 (w ++ [s])),a.2.natAbs<=k+1+3:=by
 have ps:gR s:=by rcases hs with rfl|rfl<;>exact⟨λ_=>by decide,by decide⟩
 have ew:j9 w=w.reverse:=by
  have:=Pl.oi hp
  rwa [List.reverse_reverse]at this
 have e:j9 (w ++ [s])=bY w.reverse s:=by
  rw[KR,ew];rfl
 rw[e];refine⟨hp.push ps,λa ha=>?_⟩;have s1:s.2.natAbs<=1:=by rcases hs with rfl|rfl<;>decide
 exact UI (M:=k+3) (B:=1) (λx hx=>hn x (ZaR.mp hx)) s1 ps hp a ha
def vt{fs:List aP}{ws:List (List Sp)}{k:Nat}{s:Sp}(n0:0<n)(g:GR n p fs ws)(vp:Vf n p)(hk:k<fs.length)(hs:s=(true,1)\/s=(false,1)):
  GR n p (a7 n fs ws k s).1 (a7 n fs ws k s).2.1/\(∀(i:Nat) (q:aP),fs[i]?=some q->(a7 n fs ws k s).1[i]?=some q)/\fs.length<=(a7 n fs ws k s).1.length/\(a7 n fs ws k s).1.length<=fs.length+1/\∃q,fs[k]?=some q/\(a7 n fs ws k s).1[(a7 n fs ws k s).2.2]?=some (bG n (stM q s)):=by
 have ek:fs[k]?=some (fs.getD k ([],[])):=by rw[ZG,Zy hk];rfl
 generalize hq:fs.getD k ([],[])=q at ek;obtain⟨wq,oq⟩:=g.own q (ZF ek);have E4:=wq.st n0 s;obtain⟨wF,oF,aF⟩:=wy E4 n0;unfold a7;rw[hq];by_cases hm:bG n (stM q s)∈fs;rw[if_pos hm];exact⟨g,λ_ _ h=>h,ZA _,ZaJ _,q,ek,WR hm⟩;rw[if_neg hm];have WT:k<ws.length:=by rw[g.wl];exact hk
 have ew:ws[k]?=some (ws.getD k []):=by rw[ZG,Zy WT];rfl
 generalize ws.getD k []=w at ew;obtain⟨pw,lw,nw,q',eq',aw⟩:=g.wd k w ew;rw[ek]at eq';cases eq';obtain⟨pl,nl⟩:=WS (k:=k) pw nw hs;refine⟨⟨Zbn.mpr ⟨g.nd,by simp,λx hx y hy e=>hm (by rw[<- ZU.mp hy,<- e];exact hx)⟩,λq' hq'=>?_,by rw[ZH,ZH,g.wl];rfl,by rw[ZQ g.few];exact g.hd,λi v hv=>?_⟩,λi q' h=>by rw[ZQ (Zz.mp h).1];exact h,by rw[ZH];lk,by rw[ZH];exact ZA _,q,ek,?_⟩;rcases Z6.mp hq' with h|h
 exact g.own q' h;rw[ZU.mp h];exact⟨wF,oF⟩;by_cases hi:i<ws.length;rw[ZQ hi]at hv;obtain⟨a1,a2,a3,q',b1,b2⟩:=g.wd i v hv;exact⟨a1,a2,a3,q',by rw[ZQ (Zz.mp b1).1];exact b1,b2⟩;have hi2:i=ws.length:=by
  have:=(Zz.mp hv).1;rw[ZH]at this;have:i<ws.length+1:=this;lk
 subst hi2;rw[ZW (ZA _),ZaM]at hv;cases(show some _=some v from hv);refine⟨by rw[List.reverse_reverse];exact pl,?_,λa ha=>?_,bG n (stM q s),?_,?_⟩;rw[Zbi]
 have:=KS (w ++ [s]);rw[ZH]at this;have:(j9 (w ++ [s])).length<=w.length+1:=this;lk
 have:=nl a (ZaR.mp ha)
 lk;rw[g.wl,ZW (ZA _),ZaM];rfl;have cy:∀ a∈w ++ [s],gR a:=λa ha=>by
  rcases Z6.mp ha with h|h
  exact Pl.pr pw a (ZaR.mpr h);rw[ZU.mp h];rcases hs with rfl|rfl<;>exact⟨λ_=>by decide,by decide⟩
 have e1:ck (j9 (w ++ [s])).reverse=ck (w ++ [s]):=OJ cy;have pp:∀a∈(j9 (w ++ [s])).reverse,gR a:=λa ha=>Pl.pr pl a (ZaR.mp ha);have a1:=U4 pp cy e1 vp;have a2:bC n (gh p (w ++ [s])) (stM q s):=by
  rw[K4];exact bC.st vp.ld aw s
 exact bC.trans vp.ld (bC.trans vp.ld a1 a2) aF;rw[ZW (ZA _),ZaM];rfl
def E5(n0:0<n)(w:Wh n p):∀i:Nat,(∀j,j<i->j<(ch n p j).1.length)->GC n p (ch n p i) i
 |0,_=>by
  obtain⟨wF,oF,aF⟩:=wy w n0
  exact⟨⟨by show[bG n p].Nodup;simp,λq hq=>by rw[ZU.mp hq];exact⟨wF,oF⟩,rfl,rfl,λk v hv=>by
   cases k with
   |zero =>
    cases(show some []=some v from hv);exact⟨trivial,ZA _,(λs hs=>nomatch hs),_,rfl,aF⟩
   |succ k=>cases(show none=some v from hv)⟩,rfl,Zaa _,λk l hl=>nomatch hl⟩
 |i+1,h=>by
  have g:=E5 n0 w i λj hj=>h j ⋯;have hi:=h i ⋯;have nH:=g.ll;have vp:=w.v;have r1:=vt (s:=(true,1)) n0 g.r vp (k:=(ch n p i).2.2.length) ⋯ (.inl rfl);have r2:=vt (s:=(false,1)) n0 r1.1 vp (k:=(ch n p i).2.2.length) (by have:=r1.2.2.1;lk) (.inr rfl);refine⟨r2.1,by show((ch n p i).2.2 ++ [_]).length=i+1;rw[ZH,nH];rfl,?_,λk l hl=>?_⟩;have a:=r1.2.2.1;have b:=r2.2.2.1;show i+1<=(jW n (ch n p i)).1.length;unfold jW kY;lk;have hl:((ch n p i).2.2 ++ [((kY n (ch n p i)).2.2,(jW n (ch n p i)).2.2)])[k]?=some l:=hl;by_cases hk:k<(ch n p i).2.2.length;rw[ZQ hk]at hl;obtain⟨q,b1,b2,b3⟩:=g.ld k l hl;exact⟨q,r2.2.1 _ _ (r1.2.1 _ _ b1),r2.2.1 _ _ (r1.2.1 _ _ b2),r2.2.1 _ _ (r1.2.1 _ _ b3)⟩;have hk2:k=(ch n p i).2.2.length:=by
   have:=(Zz.mp hl).1;rw[ZH]at this;have:k<(ch n p i).2.2.length+1:=this;lk
  subst hk2;rw[ZW (ZA _),ZaM]at hl;cases(show some _=some l from hl);obtain⟨q1,c1,c2⟩:=r1.2.2.2.2;obtain⟨q2,d1,d2⟩:=r2.2.2.2.2;have:q2=q1:=by
   have:=r1.2.1 _ _ c1;rw[d1]at this;exact ZN this
  subst this;exact⟨q2,r2.2.1 _ _ d1,r2.2.1 _ _ c2,d2⟩
def Qm:∀{l m:List aP},m.Nodup->(∀x∈m,x∈l)->l.length<=m.length->∀x∈l,x∈m
 |l,[],_,_,hl,x,hx=>by
  have:l=[]:=List.length_eq_zero_iff.mp (by simpa using hl);rw[this]at hx;cases hx
 |l,a :: m,nd,hs,hl,x,hx=>by
  by_cases e:x=a;rw[e];exact ZK;have E6:=Zau.mp nd;have ha:=hs a ZK
  have:=Qm (l:=l.erase a) (m:=m) E6.2 (λy hy=>by
   have WU:y≠a:=λz=>E6.1 (z ▸ hy)
   exact(ZaZ WU).mpr (hs y (ZE _ hy))) (by rw[List.length_erase_of_mem ha];simp at hl;lk) x ((ZaZ e).mpr hx)
  exact ZE _ this
def Qn{f:aP->aP}:∀{l:List aP},l.Nodup->(∀a∈l,∀b∈l,f a=f b->a=b)->(l.map f).Nodup
 |[],_,_=>List.nodup_nil
 |a :: l,nd,h=>by
  rw[ZT];have E6:=Zau.mp nd;refine Zau.mpr ⟨λhm=>?_,Qn E6.2 λx hx y hy=>h x (ZE _ hx) y (ZE _ hy)⟩;obtain⟨b,hb,e⟩:=ZL.mp hm;have:=h b (ZE _ hb) a ZK e;exact E6.1 (this ▸ hb)
structure Full(n:Nat)(p:aP)(c:CS)(N:Nat):Prop extends GC n p c N where
 fl:c.1.length=N
def Full.s{c:CS}{N:Nat}(h:Full n p c N){q:aP}(hq:q∈c.1):bG n (Sh 1 q)∈c.1/\bG n (Qt q)∈c.1:=by
 obtain⟨k,hk⟩:=Zay hq;have nK:k<c.2.2.length:=by rw[h.ll,<- h.fl];exact(Zz.mp hk).1
 obtain⟨q',b1,b2,b3⟩:=h.ld k _ (Zy nK);rw[hk]at b1;cases b1;exact⟨ZF b2,ZF b3⟩
structure qa(n:Nat)(fs:List aP):Prop where
 nd:fs.Nodup
 own:∀q∈fs,Wh n q/\bG n q=q
 s:∀q∈fs,bG n (Sh 1 q)∈fs/\bG n (Qt q)∈fs
def Full.LL{c:CS}{N:Nat}(h:Full n p c N):qa n c.1:=⟨h.r.nd,h.r.own,λq hq=>h.s hq⟩
def qa.sm{fs:List aP}(n0:0<n)(h:qa n fs){q:aP}(hq:q∈fs):bG n (Sh (-1) q)∈fs:=by
 have inj:∀a∈fs,∀b∈fs,bG n (Sh 1 a)=bG n (Sh 1 b)->a=b:=λa ha b hb e=>zy n0 1 (h.own a ha).1 (h.own b hb).1 (h.own a ha).2 (h.own b hb).2 e;have nd:=Qn (f:=λa=>bG n (Sh 1 a)) h.nd inj
 have:=Qm nd (λx hx=>by
  obtain⟨a,ha,rfl⟩:=ZL.mp hx
  exact(h.s a ha).1) (by rw[Zx];exact ZA _) q hq
 obtain⟨a,ha,e⟩:=ZL.mp this;obtain⟨wa,oa⟩:=h.own a ha;obtain⟨wF,oF,aF⟩:=wy (wa.sh n0 1) n0;have a1:bC n (Sh 1 a) q:=by rw[<- e];exact aF
 have a2:=bC.sh (wa.sh n0 1).v a1 (-1);rw[u7 wa.v,show(1:Int) + -1=0 from rfl,oW wa.v]at a2;rw[<- u9 n0 wa.v a2,oa];exact ha
def qa.st{fs:List aP}(n0:0<n)(h:qa n fs){q:aP}(hq:q∈fs)(s:Sp):bG n (stM q s)∈fs:=by
 have up:∀k:Nat,bG n (Sh (k:Int) q)∈fs:=λk=>by
  induction k with
  |zero =>
   rw[show((0:Nat):Int)=0 from rfl,oW (h.own q hq).1.v,(h.own q hq).2];exact hq
  |succ k ih =>
   have wk:=(h.own q hq).1.sh n0 (k:Int);obtain⟨wF,oF,aF⟩:=wy wk n0;have:=(h.s _ ih).1;rw[<- u9 n0 (wk.sh n0 1).v (bC.sh wk.v aF 1),u7 (h.own q hq).1.v]at this;exact this
 have dn:∀k:Nat,bG n (Sh (-(k:Int)) q)∈fs:=λk=>by
  induction k with
  |zero =>
   rw[show(-((0:Nat):Int))=0 from rfl,oW (h.own q hq).1.v,(h.own q hq).2];exact hq
  |succ k ih =>
   have wk:=(h.own q hq).1.sh n0 (-(k:Int));obtain⟨wF,oF,aF⟩:=wy wk n0;have:=h.sm n0 ih;rw[<- u9 n0 (wk.sh n0 (-1)).v (bC.sh wk.v aF (-1)),u7 (h.own q hq).1.v,show -(k:Int) + -1=-((k+1:Nat):Int) by lk]at this;exact this
 have qt:∀k:Nat,Wh n (nG k q)/\bG n (nG k q)∈fs:=λk=>by
  induction k with
  |zero=>exact⟨(h.own q hq).1,by show bG n q∈fs;rw[(h.own q hq).2];exact hq⟩
  |succ k ih =>
   obtain⟨wk,ih⟩:=ih;obtain⟨wF,oF,aF⟩:=wy wk n0;have:=(h.s _ ih).2;rw[<- u9 n0 (wk.qt n0).v (bC.qt wk.v aF)]at this;exact⟨wk.qt n0,this⟩
 unfold stM;split;rcases Int.lt_or_le s.2 0 with z|z
 have:=dn s.2.natAbs
 rwa [show -((s.2.natAbs:Nat):Int)=s.2 by lk]at this
 have:=up s.2.toNat
 rwa [show((s.2.toNat:Nat):Int)=s.2 by lk]at this
 exact(qt _).2
def qa.ld{fs:List aP}(n0:0<n)(h:qa n fs):∀(w:List Sp) (q:aP),Wh n q->bG n q∈fs->bG n (gh q w)∈fs
 |[],_,_,hq=>hq
 |s :: w,q,wq,hq=>by
  refine qa.ld n0 h w (stM q s) (wq.st n0 s) ?_;obtain⟨wF,oF,aF⟩:=wy wq n0;have:=h.st n0 hq s;rw[<- u9 n0 (wq.st n0 s).v (bC.st wq.v aF s)]at this;exact this
def Full.word{c:CS}{N:Nat}(n0:0<n)(h:Full n p c N)(wp:Wh n p)(w:List Sp):bG n (gh p w)∈c.1:=h.LL.ld n0 w p wp (ZF h.r.hd)
end
end af
namespace af
def WV{n:Nat}{p q:aP}(n0:0<n)(wp:Wh n p)(wq:Wh n q)(e:bG n p=bG n q):bC n p q:=by obtain⟨_,_,a⟩:=wy wp n0;obtain⟨_,_,b⟩:=wy wq n0;rw[e]at a;exact bC.trans wp.v a (bC.symm wq.v b)
end af
namespace af
end af
namespace af
structure Ro where
 m:Nat
 q:aP
 w:List Sp
 s:Int
 t:Int
abbrev Ro.f(r:Ro):aP:=bG r.m r.q
abbrev At(fs:List aP)(i:Int)(f:aP):Prop:=0<=i/\i<(fs.length:Int)/\fs[i.toNat]?=some f
abbrev E7(n:Nat)(p:aP)(fs:List aP)(r:Ro):Prop:=bG n (gh p r.w)=r.f/\At fs r.s (bG r.m (Sh 1 r.q))/\At fs r.t (bG r.m (Qt r.q))
abbrev Holds(n:Nat)(p:aP)(R:List Ro):Prop:=(R.map Ro.f)[0]?=some (bG n p)/\∀(k:Nat) (r:Ro),R[k]?=some r->r.f ∉ (R.map Ro.f).take k/\E7 n p (R.map Ro.f) r
def gd{α:Type}{l:List α}{k:Nat}{d:α}(h:k<l.length):l[k]?=some (l.getD k d):=by rw[ZG,Zy h];rfl
end af
namespace af
end af
namespace af
variable {n:Nat}{p q:aP}
def LN{g:List Int}(wp:Wh n p)(wq:Wh n q)(n0:0<n):g∈rP p q n n↔Cg n p q g:=by constructor;intro h;obtain⟨s,hs,rfl⟩:=ZL.mp h;obtain⟨h1,h2⟩:=Za6.mp hs;obtain⟨s0,s1⟩:=lE.mp h1;exact(xH wp wq (s:=0) ∅ ⋯ s0 s1 (of_decide_eq_true h2).symm).1;intro c;have b:=c.1.app (i:=0) ∅ ⋯;exact ZL.mpr ⟨app g 0,Za6.mpr ⟨lE.mpr b,decide_eq_true (D9 wp.v c (s:=0) ∅ ⋯)⟩,Ea wp c (s:=0) ∅ ⋯⟩
def AY(wp:Wh n p)(wq:Wh n q)(n0:0<n):rP p q n n=[]↔¬bG n p=bG n q:=by
 constructor;intro h e;obtain⟨g,tg,hg⟩:=WV n0 wp wq e;have:=(LN wp wq n0).mpr ⟨tg,hg⟩;rw[h]at this;cases this;intro h;cases e:rP p q n n with
 |nil=>rfl
 |cons g l =>
  have:g∈rP p q n n:=by rw[e];exact ZK
  exact absurd (u9 n0 wp.v ⟨g,(LN wp wq n0).mp this⟩) h
abbrev Rel(n:Nat)(p q:aP):Prop:=∃w:List Sp,(∀s∈w,gR s)/\bG n (gh p w)=bG n q
def Qo{N:Nat}{C:CS}(n0:0<n)(wp:Wh n p)(F:Full n p C N)(h:Rel n p q):bG n q∈C.1:=by obtain⟨w,_,e⟩:=h;rw[<- e];exact F.word n0 wp w
def LO{N k:Nat}{C:CS}(n0:0<n)(wp:Wh n p)(F:Full n p C N)(hk:k<N):(∀s∈C.2.1.getD k [],gR s)/\(C.2.1.getD k []).length<=N/\bG n (gh p (C.2.1.getD k []))=C.1.getD k ([],[])/\Wh n (C.1.getD k ([],[]))/\bG n (C.1.getD k ([],[]))=C.1.getD k ([],[])/\C.1.getD k ([],[])∈C.1:=by have ef:=gd (d:=(([],[]):aP)) (show k<C.1.length by rw[F.fl];exact hk);have ew:=gd (d:=([]:List Sp)) (show k<C.2.1.length by rw[F.r.wl,F.fl];exact hk);obtain⟨pw,lw,nw,q',hq',aq⟩:=F.r.wd k _ ew;rw[ef]at hq';cases hq';have o:=F.r.own _ (ZF ef);exact⟨λs hs=>Pl.pr pw s (ZaR.mpr hs),by lk,by rw[u9 n0 (wp.ld n0 (w:=C.2.1.getD k [])).v aq,o.2],o.1,o.2,ZF ef⟩
end af
namespace L4
open PySem PySem.Spec L2
section
variable {K:Zfr}
abbrev l9(d:D)(F:List D->Dm D)(fa:aj->Dm (List D))(i:Nat):aj->Dm Fl:=λδ st=>bnd (fa δ st) λas st1=>bnd (F as st1) λb st2=>if aV b st2=true then some (.rt b,st2)else some (.nx (δ.set i (some (.tup [d,b]))),st2)
def WW{n m i:Nat}{v0:V}{d:D}{F:List D->Dm D}{ta:TA}{fa:aj->Dm (List D)}{mC:List V}{HR:List D}(hv:∀ρ H,Rp K ρ H v0 d)(ha:qy K ta fa)(hn:∀δ st as st',fa δ st=some (as,st')->as.length=m)(hm:m+mC.length=n)(hd:∀ρ H,cn K ρ H mC HR):
  Cd K (λW=>qC (vH (n5 (tC v0) (n5 (rK (x8 K n F) mC W ta) vG))) (ml i)) (l9 d (λas=>F (as ++ HR)) fa i):=by
 intro ρ σ H δ st fl st' E W l rs e q;obtain⟨as,st1,e1,e⟩:=cm e;obtain⟨b,st2,e2,e⟩:=cm e;refine ha ρ σ H δ st as st1 _ l rs e1 λvs H1 ρ1 m1 l1 r1=>⟨by rw[ZH,r1.length,hn _ _ _ _ e1];exact hm,ρ1,st1,as ++ HR,b,st2,l1,r1.append (hd _ _),e2,λhr a H3 ρ3 m3 l3 r3=>?_,λhr v H3 ρ3 m3 l3 r3=>?_⟩;rw[if_pos hr]at e;cases e;exact⟨a,rfl,q.1 hr a H3 ρ3 (m1.trans m3) l3 r3⟩;rw[hr,if_neg ZC]at e;cases e;refine⟨by show 2<=sizeLine;decide,λp hp=>?_⟩;have m4:Mn K ρ3 H3 ρ3 (upd H3 p (.tup [v0,v])):=Mn.same (fH.up hp);exact q _ _ ρ3 ((m1.trans m3).trans m4) (l3.same (fH.up hp)) ((rs.mn ((m1.trans m3).trans m4)).set (.tup (d9.of mK) (.cons (hv _ _) (.cons (r3.mn m4) .nil))))
def WX{n i:Nat}{v0:V}{d:D}{F:List D->Dm D}{ta:TA}{fa:aj->Dm (List D)}(hv:∀ρ H,Rp K ρ H v0 d)(ha:qy K ta fa)(hn:∀δ st as st',fa δ st=some (as,st')->as.length=n):
  Cd K (λW=>qC (vH (n5 (tC v0) (n5 (ug (x8 K n F) W ta) vG))) (ml i)) (l9 d F fa i):=by
 intro ρ σ H δ st fl st' E W l rs e q;obtain⟨as,st1,e1,e⟩:=cm e;obtain⟨b,st2,e2,e⟩:=cm e;refine ha ρ σ H δ st as st1 _ l rs e1 λvs H1 ρ1 m1 l1 r1=>⟨by rw[r1.length];exact hn _ _ _ _ e1,ρ1,st1,as,b,st2,l1,r1,e2,λhr a H3 ρ3 m3 l3 r3=>?_,λhr v H3 ρ3 m3 l3 r3=>?_⟩;rw[if_pos hr]at e;cases e;exact⟨a,rfl,q.1 hr a H3 ρ3 (m1.trans m3) l3 r3⟩;rw[hr,if_neg ZC]at e;cases e;refine⟨by show 2<=sizeLine;decide,λp hp=>?_⟩;have m4:Mn K ρ3 H3 ρ3 (upd H3 p (.tup [v0,v])):=Mn.same (fH.up hp);exact q _ _ ρ3 ((m1.trans m3).trans m4) (l3.same (fH.up hp)) ((rs.mn ((m1.trans m3).trans m4)).set (.tup (d9.of mK) (.cons (hv _ _) (.cons (r3.mn m4) .nil))))
def AZ{c:TT}{t u:(St->Addr->Hp->Prop)->TS}{fc:aj->Dm Bool}{f g:aj->Dm Fl}(hc:pS K c fc)(hf:Cd K t f)(hg:Cd K u g):Cd K (λW=>vD c (t W) (u W)) (dN fc f g):=by
 intro ρ σ H δ st fl st' E W l rs e q;obtain⟨a,st1,e1,e⟩:=cm e;refine hc ρ σ H δ st _ _ _ l rs e1 λx H1 ρ1 m1 l1 r1=>?_;subst r1;cases x with
 |true =>
  refine oP ?_;rw[if_pos rfl]at e;exact hf ρ1 σ H1 δ st1 _ _ _ W l1 (rs.mn m1) e (q.mn m1)
 |false =>
  refine oO ?_;rw[if_neg ZC]at e;exact hg ρ1 σ H1 δ st1 _ _ _ W l1 (rs.mn m1) e (q.mn m1)
abbrev wz(fa fb:aj->Dm D):aj->Dm D:=λδ st=>bnd (fa δ st) λx st1=>match x with
 |.non=>fb δ st1
 |.int k=>if k=0 then fb δ st1 else some (.int k,st1)
 |_=>none
def A0{ta tb:TE}{fa fb:aj->Dm D}(ha:dR K ta fa)(hb:dR K tb fb):dR K (DN ta tb) (wz fa fb):=by
 intro ρ σ H δ st b st' Q l rs e q;obtain⟨x,st1,e1,e⟩:=cm e;refine ha ρ σ H δ st x st1 _ l rs e1 λy H1 ρ1 m1 l1 r1=>?_;cases x with
 |non =>
  cases r1;exact .inl ⟨rfl,hb ρ1 σ H1 δ st1 b st' Q l1 (rs.mn m1) e λv H3 ρ3 m3 l3 r3=>q v H3 ρ3 (m1.trans m3) l3 r3⟩
 |int k =>
  cases r1;refine .inr ⟨k,rfl,?_⟩;by_cases z:k=0;rw[if_pos z];simp only[z,if_true]at e;exact hb ρ1 σ H1 δ st1 b st' Q l1 (rs.mn m1) e λv H3 ρ3 m3 l3 r3=>q v H3 ρ3 (m1.trans m3) l3 r3;rw[if_neg z];simp only[z,if_false]at e;cases e;exact q _ H1 ρ1 m1 l1 (.int _)
 |bl _=>cases e
 |str _=>cases e
 |tup _=>cases e
 |ref _=>cases e
 |ty _=>cases e
end
section
variable {st:Store}{δ:aj}{N B C:aj->Store->Prop}{R:D->Store->Prop}{Q:D->Store->Prop}
def Qp{d:D}{i:Nat}{F:List D->Dm D}{fa:aj->Dm (List D)}(h:Wp (fa δ st) λas s1=>Wp (F as s1) λb s2=>(aV b s2=true->R b s2)/\(aV b s2=false->N (δ.set i (some (.tup [d,b]))) s2)):Ws (l9 d F fa i δ st) N B C R:=by
 obtain⟨as,s1,e,b,s2,e2,q⟩:=h;unfold l9;rw[e];show Ws (bnd (F as s1) _) N B C R;rw[e2];by_cases hr:aV b s2=true;refine⟨.rt b,s2,?_,q.1 hr⟩;simp only[bnd,hr,if_true];have hr':aV b s2=false:=by simpa using hr
 refine⟨.nx _,s2,?_,q.2 hr'⟩;simp only[bnd,hr',Zah,if_false]
def A1{fa fb:aj->Dm D}(h:Wp (fa δ st) λx s1=>(x=.non/\Wp (fb δ s1) Q)\/∃k:Int,x=.int k/\k≠0/\Q (.int k) s1):Wp (wz fa fb δ st) Q:=by
 obtain⟨x,s1,e,q⟩:=h;unfold wz;rw[e];show Wp (match x with|.non=>fb δ s1|.int k=>if k=0 then fb δ s1 else some (.int k,s1)|_=>none) Q;rcases q with⟨rfl,q⟩|⟨k,rfl,z,q⟩
 exact q;simp only[z,if_false];exact⟨_,_,rfl,q⟩
end
section
variable {K:Zfr}
def WY{n i:Nat}{F:List D->Dm D}{ta:TA}{fa:aj->Dm (List D)}{E0:XK}(ha:qy K ta fa)(hn:∀δ st as st',fa δ st=some (as,st')->as.length=n):tf K (λa H'=>E0 (.ref a) none H') (qC (rj (x8 K n F) [] E0 ta) (ml i)) (rY F fa i):=by intro ρ σ H δ st fl st' E l rs e q;obtain⟨as,st1,e1,e⟩:=cm e;obtain⟨b,st2,e2,e⟩:=cm e;refine ha ρ σ H δ st as st1 _ l rs e1 λvs H1 ρ1 m1 l1 r1=>⟨?_,ρ1,st1,as,b,st2,l1,?_,e2,λhr a H3 ρ3 m3 l3 r3=>?_,λhr v H3 ρ3 m3 l3 r3=>?_⟩;rw[Zad,r1.length];exact hn _ _ _ _ e1;rw[Zad];exact r1;rw[if_pos hr]at e;cases e;exact q.1 hr a H3 ρ3 (m1.trans m3) l3 r3;rw[hr,if_neg ZC]at e;cases e;exact q _ H3 ρ3 (m1.trans m3) l3 ((rs.mn (m1.trans m3)).set r3)
end
end L4
namespace My
local macro_rules|`(tactic| w_up)=>`(tactic| first|exact .inl rfl|exact .inr rfl|assumption)
local macro_rules|`(tactic| w_fin)=>`(tactic| decide +kernel)
local macro_rules|`(tactic|walk)=>`(tactic|exact ⟨rfl,rfl,rfl,by w_fin,rfl,by w_fin,by w_fin⟩)
local macro_rules|`(tactic| kspl_open $h)=>`(tactic| (refine L4.bX ?_;intro _ $h;set_option simprocs false in simp only[L4.bE]))
local macro_rules|`(tactic|exists $l,*)=>`(tactic|set_option simprocs false in simp only[L4.bE,$[$l:term],*])
local macro_rules|`(tactic| w_how)=>`(tactic| set_option simprocs false in simp only[L4.bE])
open PySem L2 L4
local macro_rules|`($a<|$b)=>`(@RO _ _ _ _ _ $a $b (by rfl))
local macro_rules|`($a<|>$b)=>`(@Rv _ _ _ _ _ $a $b)
local macro_rules|`($a<*$b<*$c)=>`(@C8 _ _ _ _ _ _ _ $a $b $c (λ_ _=>rfl))
local macro_rules|`(~~~$a)=>`(@MB _ _ _ $a)
local macro_rules|`($a<*>$b<*>$c)=>`(@CL _ _ _ _ _ _ _ _ $a $b $c)
local macro_rules|`($a&&&$b&&&$c)=>`(@MH _ _ _ _ _ _ _ _ PassesOwn.never rfl $a $b $c (by intro _;rfl))
local macro_rules|`($a>>=$b>>=$c)=>`(@yB (i:=$a) _ _ _ _ _ _ (aD.nd $b) rfl (by w_up) $c (by rfl) (by w_up))
def WZ:∀δ st as st',ah δ st=some (as,st')->as.length=0:=λ_ _ _ _ h=>U9 h
def pM{f1:aj->Dm D}:∀δ st as st',ae f1 ah δ st=some (as,st')->as.length=1:=Eg WZ
def fg{f1 f2:aj->Dm D}:∀δ st as st',ae f2 (ae f1 ah) δ st=some (as,st')->as.length=2:=Eg pM
def Ce{f1 f2 f3:aj->Dm D}:∀δ st as st',ae f3 (ae f2 (ae f1 ah)) δ st=some (as,st')->as.length=3:=Eg fg
def LP{f1 f2 f3 f4:aj->Dm D}:∀δ st as st',ae f4 (ae f3 (ae f2 (ae f1 ah))) δ st=some (as,st')->as.length=4:=Eg Ce
def Qq{f1 f2 f3 f4 f5:aj->Dm D}:∀δ st as st',ae f5 (ae f4 (ae f3 (ae f2 (ae f1 ah)))) δ st=some (as,st')->as.length=5:=Eg LP
def cE{X:Cx}{k k':Nat}{f:Addr}{fd:FuncData}{ps:List Str}{sp:Sp}{x:Str}{st:Stmt}{e:Expr}{es:List Expr}{t:TA}{p pos:Pos}(F:aJ X.prog X.w X.K X.mg X.base b6 k f fd ps sp)(D:Def X.K X.mg x st ps f fd)(hr:dQ k' X.A)(hk:k<=k')(hg:Gl X x)(ha:PA X (e :: es) t)(hdb:(x == ("__debug__" : Str))=false:=by decide)(he:starEach (e :: es) X.env=(false,eval e X.env) :: starEach es X.env:=by rfl)(hpl:(backTo pos (starEach es X.env)).any (·.1)=false:=by rfl):PE X (.Call (.Name x p) (e :: es) [] pos) (rj sp [] E0 t):=MU F (hr.mono hk) hg D.m D.F.kp D.b .nil Dl ha hdb he hpl
def uJ{fd:FuncData}{p0:Str}(k:∀x0,bindArgs fd ⟨[x0],[]⟩=pure [(p0,x0)])(us:List Value)(h:us.length=1):bindArgs fd ⟨us,[]⟩=pure ([p0].zip us):=match us,h with|[x0],_=>k x0
def ny{fd:FuncData}{p0 p1:Str}(k:∀x0 x1,bindArgs fd ⟨[x0,x1],[]⟩=pure [(p0,x0),(p1,x1)])(us:List Value)(h:us.length=2):bindArgs fd ⟨us,[]⟩=pure ([p0,p1].zip us):=match us,h with|[x0,x1],_=>k x0 x1
def LQ{fd:FuncData}{p0 p1 p2:Str}(k:∀x0 x1 x2,bindArgs fd ⟨[x0,x1,x2],[]⟩=pure [(p0,x0),(p1,x1),(p2,x2)])(us:List Value)(h:us.length=3):bindArgs fd ⟨us,[]⟩=pure ([p0,p1,p2].zip us):=match us,h with|[x0,x1,x2],_=>k x0 x1 x2
def W0{fd:FuncData}{p0 p1 p2 p3:Str}(k:∀x0 x1 x2 x3,bindArgs fd ⟨[x0,x1,x2,x3],[]⟩=pure [(p0,x0),(p1,x1),(p2,x2),(p3,x3)])(us:List Value)(h:us.length=4):bindArgs fd ⟨us,[]⟩=pure ([p0,p1,p2,p3].zip us):=match us,h with|[x0,x1,x2,x3],_=>k x0 x1 x2 x3
def W2{fd:FuncData}{p0 p1 p2 p3 p4:Str}(k:∀x0 x1 x2 x3 x4,bindArgs fd ⟨[x0,x1,x2,x3,x4],[]⟩=pure [(p0,x0),(p1,x1),(p2,x2),(p3,x3),(p4,x4)])(us:List Value)(h:us.length=5):bindArgs fd ⟨us,[]⟩=pure ([p0,p1,p2,p3,p4].zip us):=match us,h with|[x0,x1,x2,x3,x4],_=>k x0 x1 x2 x3 x4
abbrev top(i:Nat):Stmt:=PySem.Challenge.pw_shearfloor_k29_floors_that_meet.main.body.getD i (.Pass ⟨0,0,0,0⟩)
structure Txt(mg:Str->Option Value):Prop where
 uK:mg "bool" = none
 my:mg "enumerate" = none
 ya:mg "int" = none
 cv:mg "isinstance" = none
 bp:mg "len" = none
 dA:mg "list" = none
 yb:mg "max" = none
 uL:mg "min" = none
 aS:mg "range" = none
 qc:mg "sorted" = none
 a8:mg "tuple" = none
abbrev HS:Stmt:=match top 2 with
 |.ClassDef _ _ _ b _ _ _ _ _ _ _=>b.getD 0 (.Pass ⟨0,0,0,0⟩)
 |_=>.Pass ⟨0,0,0,0⟩
def W3:aD ["self","most"] ["self","most"] (au HS):=by walk
structure XF(K:Zfr)(mg:Str->Option Value)(aG cI:Addr):Prop where
 oz:mg "TooMany" = some (.ref aG)
 dh:PySem.W.nsIn K mainGlobals "TooMany" = some (some (.ref aG))
 o9:PySem.W.findIn K (.ref aG) "__init__" = some (some (.ref cI))
 iM:PySem.W.mroIn K aG (.ref aG)=some true
 dZ:kS K aG Qi "ValueError.__new__" cI=true
 gk:PySem.W.isFn K (.ref cI)=true
 gn:PySem.W.keepIn K (.ref aG)=true
 gp:PySem.W.mroIn K aG (.type "BaseException")=some true
 gq:PySem.W.typeIn K (.ref aG)=some (.type "type")
 nz:PySem.W.takerIn K aG "most" = some none
 nA:PySem.W.findIn K (.ref aG) "most" = some none
 md:xB K aG
 kZ:uX K aG
 I:∃dI,xq K "__init__" "TooMany.__init__" HS cI dI/\Binds K dI ["self","most"] []
def E8{K:Zfr}{mg:Str->Option Value}{h:Heap}{aG cI:Addr}(KX:K.In h)(G:h.Ns mainGlobals mg)(dh:PySem.W.nsIn K mainGlobals "TooMany" = some (some (.ref aG)))(o9:PySem.W.findIn K (.ref aG) "__init__" = some (some (.ref cI)))(iM:PySem.W.mroIn K aG (.ref aG)=some true)(dZ:kS K aG Qi "ValueError.__new__" cI=true)(gk:PySem.W.isFn K (.ref cI)=true)(gn:PySem.W.keepIn K (.ref aG)=true)(gp:PySem.W.mroIn K aG (.type "BaseException")=some true)(gq:PySem.W.typeIn K (.ref aG)=some (.type "type"))(nz:PySem.W.takerIn K aG "most" = some none)(nA:PySem.W.findIn K (.ref aG) "most" = some none)(md:xB K aG)(kZ:uX K aG)(I:∃dI,xq K "__init__" "TooMany.__init__" HS cI dI/\Binds K dI ["self","most"] []):XF K mg aG cI :=
 ⟨PySem.W.mg_of KX G dh,dh,o9,iM,dZ,gk,gn,gp,gq,nz,nA,md,kZ,I⟩
def W4{P:Program}{w:World}{K:Zfr}{mg:Str->Option Value}{base:Heap}{cI:Addr}{dI:FuncData}(I:xq K "__init__" "TooMany.__init__" HS cI dI):aJ P w K mg base b6 1 cI dI ["self","most"] (ui K "most"):=I.ok W3 (λvs H Q E h=>T5 h) (λcdv A outer s H vs Q E hr h=>⟨_,(MB (TL (pv 0) (pv 1) rfl)),T6 h⟩)
section
variable {P:Program}{w:World}{K:Zfr}{mg:Str->Option Value}{base:Heap}{f:Addr}{fd:FuncData}
abbrev HU:aj->Dm Fl :=
 (ay (aH (aB gj (aB nh (fC (.int 7901)) (ag 1)) (fC (.int 24697))) (hName 2))
 (ay (dN (aA (aB ve (ag 1) (aM b7 (ae (ag 0) ah)))) (aH (aB bW (ag 0) (ag 1)) (hName 2)) (dN (aA (aB sE (aM b7 (ae (ag 0) ah)) (fC (.int 0)))) (aH (aB gj (aB nh (aB jS (aB bW (ag 0) (aB jS (ag 1) (aM b7 (ae (ag 0) ah)))) (fC (.int 2147483629))) (fC (.int 31))) (aB nh (fC (.int 7901)) (ag 1))) (hName 2)) aR))
 (ay (aH (fC (.int 0)) (hName 3))
 (ay (dN (aA (aB Lb (ag 2) (aB ur (fC (.int 10)) (fC (.int 18))))) (aH (ag 2) (hName 3)) aR)
 (aX (cG (ae (ag 3) (ae (aB gj (aB jS (aB ur (aB gj (aB nh (aB jS (ag 2) (fC (.int 2147483629))) (fC (.int 48271))) (aB nh (fC (.int 40692)) (ag 1))) (fC (.int 5))) (fC (.int 2147483629))) (fC (.int 1))) ah))))))))
abbrev E9:List D->Dm D:=gS 4 HU
abbrev Fb:Stmt:=top 34
def Cf:aD ["_law_script","_law_k","_law_cell","_law_own"] ["_law_script","_law_k"] (au Fb):=by walk
def W5(D:Def K mg "_law_feed" Fb ["_law_script","_law_k"] f fd)(T:Txt mg):aJ P w K mg base b6 1 f fd ["_law_script","_law_k"] (cu K 2 E9):=by
 refine D.F.ok Cf (λ_ _ _ _ h=>h.1) (λc A o s H v Q E hr h=>?_);refine⟨_,((2>>=Cf>>=cT nJ (cT xb aO (pv 1)) aO)<|>(eh xc (pv 1) (fA jE (by rfl) T.bp jF (pv 0<|av)) (aK _)<*>(~~~(2>>=Cf>>=(lA<*pv 0<*pv 1)))<*>(~~~(eh uU (fA jE (by rfl) T.bp jF (pv 0<|av)) aO (aK _)<*>(~~~(2>>=Cf>>=cT nJ (cT xb (cT sj (lA<*pv 0<*cT sj (pv 1) (fA jE (by rfl) T.bp jF (pv 0<|av))) aO) aO) (cT xb aO (pv 1))))<*>iT)))<|>(3>>=Cf>>=aO)<|>(eh C2 (pv 2) (cT MK aO aO) (aK _)<*>(~~~(3>>=Cf>>=pv 2))<*>iT)<|>(~~~(@dP _ _ _ _ (@kF _ _ _ _ (pv 3<|cT nJ (cT sj (cT MK (cT nJ (cT xb (cT sj (pv 2) aO) aO) (cT xb aO (pv 1))) aO) aO) aO<|av))))),?_⟩
 exact jL (b:=HU) (a9 (bU (aE nP (aE xO (aQ _) (ai 1)) (aQ _)) (aW 2))
  (a9 (iJ (dW (aE xP (ai 1) (bM jI (ao (ai 0) ax)))) (bU (aE iW (ai 0) (ai 1)) (aW 2)) (iJ (dW (aE vf (bM jI (ao (ai 0) ax)) (aQ _))) (bU (aE nP (aE xO (aE sF (aE iW (ai 0) (aE sF (ai 1) (bM jI (ao (ai 0) ax)))) (aQ _)) (aQ _)) (aE xO (aQ _) (ai 1))) (aW 2)) iY))
  (a9 (bU (aQ _) (aW 3))
  (a9 (iJ (dW (aE Ei (ai 2) (aE O4 (aQ _) (aQ _)))) (bU (ai 2) (aW 3)) iY)
  (dS (kH (ao (ai 3) (ao (aE nP (aE sF (aE O4 (aE nP (aE xO (aE sF (ai 2) (aQ _)) (aQ _)) (aE xO (aQ _) (ai 1))) (aQ _)) (aQ _)) (aQ _)) ax)))))))) rfl h
variable {i7:Addr}{i9:FuncData}(gu:Def K mg "_law_feed" Fb ["_law_script","_law_k"] i7 i9)(ja:aJ P w K mg base b6 1 i7 i9 ["_law_script","_law_k"] (cu K 2 E9))
abbrev HV:aj->Dm Fl :=
 (ay (dN (aA (aB sE (aB bW (ag 0) (fC (.int 0))) (fC (.int 0)))) (ay (aH (aB jS (aB bW (ag 0) (fC (.int 0))) (ag 1)) (hName 2))
 (ay (aH (aB om (aB bW (ag 0) (fC (.int 0))) (ag 1)) (hSub (ag 0) (fC (.int 0))))
 (aX (ag 2)))) aR)
 (ay (aH (aB jS (aB nh (aB bW (ag 0) (fC (.int 1))) (fC (.int 48271))) (fC (.int 2147483647))) (hName 3))
 (ay (aH (aB gj (aB jS (aB gj (aB nh (ag 3) (fC (.int 40692))) (fC (.int 30103))) (fC (.int 2147483399))) (fC (.int 1))) (hSub (ag 0) (fC (.int 1))))
 (aX (aB jS (aB om (aB gj (aB nh (ag 3) (fC (.int 2147483647))) (aB bW (ag 0) (fC (.int 1)))) (fC (.int 8191))) (ag 1))))))
abbrev lJ:List D->Dm D:=gS 4 HV
abbrev Fc:Stmt:=top 35
def LR:aD ["_law_feed_here","_law_many","_law_digit","_law_one"] ["_law_feed_here","_law_many"] (au Fc):=by walk
def W6(D:Def K mg "_law_take" Fc ["_law_feed_here","_law_many"] f fd)(T:Txt mg):aJ P w K mg base b6 1 f fd ["_law_feed_here","_law_many"] (cu K 2 lJ):=by
 refine D.F.ok LR (λ_ _ _ _ h=>h.1) (λc A o s H v Q E hr h=>?_);refine⟨_,((eh uU (lA<*pv 0<*aO) aO (aK _)<*>((2>>=LR>>=cT sj (lA<*pv 0<*aO) (pv 1))<|>w6 (cT JH (lA<*pv 0<*aO) (pv 1)) (BH (pv 0) aO BM)<|>(~~~(@dP _ _ _ _ (pv 2))))<*>iT)<|>(3>>=LR>>=cT sj (cT xb (lA<*pv 0<*aO) aO) aO)<|>w6 (cT nJ (cT sj (cT nJ (cT xb (pv 3) aO) aO) aO) aO) (BH (pv 0) aO BM)<|>(~~~(@dP _ _ _ _ (cT sj (cT JH (cT nJ (cT xb (pv 3) aO) (lA<*pv 0<*aO)) aO) (pv 1))))),?_⟩
 exact jL (b:=HV) (a9 (iJ (dW (aE vf (aE iW (ai 0) (aQ _)) (aQ _))) (a9 (bU (aE sF (aE iW (ai 0) (aQ _)) (ai 1)) (aW 2))
  (a9 (bU (aE Lc (aE iW (ai 0) (aQ _)) (ai 1)) (B5 (ai 0) (aQ _)))
  (dS (ai 2)))) iY)
  (a9 (bU (aE sF (aE xO (aE iW (ai 0) (aQ _)) (aQ _)) (aQ _)) (aW 3))
  (a9 (bU (aE nP (aE sF (aE nP (aE xO (ai 3) (aQ _)) (aQ _)) (aQ _)) (aQ _)) (B5 (ai 0) (aQ _)))
  (dS (aE sF (aE Lc (aE nP (aE xO (ai 3) (aQ _)) (aE iW (ai 0) (aQ _))) (aQ _)) (ai 1)))))) rfl h
variable {jb:Addr}{jc:FuncData}(aI:Def K mg "_law_take" Fc ["_law_feed_here","_law_many"] jb jc)(aL:aJ P w K mg base b6 1 jb jc ["_law_feed_here","_law_many"] (cu K 2 lJ))
abbrev HW:aj->Dm Fl :=
 (ay (aH (aM dc (ae (aM fJ (ae (ag 1) ah)) ah)) (hName 2))
 (ay (aH (bS ah) (hName 3))
 (ay (iZ (aA (aB (gO true) (ag 2) (cG ah))) (aH (aB lH (ag 3) (bS (ae (jK "list" l6 (ag 2) (ae (aM lJ (ae (ag 0) (ae (aM b7 (ae (ag 2) ah)) ah))) ah)) ah))) (hName 3)))
 (aX (ag 3)))))
abbrev wA:List D->Dm D:=gS 4 HW
abbrev Fe:Stmt:=top 36
def HX:aD ["_law_feed_here","_law_n","_law_left","_law_found"] ["_law_feed_here","_law_n"] (au Fe):=by walk
include aI aL in
def W7(D:Def K mg "_law_turning" Fe ["_law_feed_here","_law_n"] f fd)(T:Txt mg):aJ P w K mg base b6 2 f fd ["_law_feed_here","_law_n"] (cu K 2 wA):=by
 refine D.F.ok HX (λ_ _ _ _ h=>h.1) (λc A o s H v Q E hr h=>?_);have hu:=hr.units;refine⟨_,((2>>=HX>>=fY (tR rfl) (by rfl) T.dA rC (fY Dr (by rfl) T.aS tP (pv 1<|av)<|av))<|>(3>>=HX>>=(@iQ _ _ _ _ _ av))<|>BJ PassesOwn.never (eh (G4 hu) (pv 2) (@kF _ _ _ _ av) (aK _)) (~~~(3>>=HX>>=cT Dq (pv 3) (@iQ _ _ _ _ _ (nF PySem.F.plainAttrs_list PySem.F.slot_list_pop PySem.F.type_list_pop R5 (pv 2) (cE aL aI hr ∅ rfl (pv 0<|fA jE (by rfl) T.bp jF (pv 2<|av)<|av)<|av)<|av))))<|>(~~~(@dP _ _ _ _ (pv 3)))),?_⟩
 exact jL (b:=HW) (a9 (bU (bM uw (ao (bM Em (ao (ai 1) ax)) ax)) (aW 2))
  (a9 (bU (jH ax) (aW 3))
  (a9 (En (dW (aE (xQ true) (ai 2) (kH ax))) (bU (aE Ej (ai 3) (jH (ao (mG Vh (ai 2) (ao (cB (F:=lJ) (ao (ai 0) (ao (bM jI (ao (ai 2) ax)) ax)) fg) ax)) ax))) (aW 3)))
  (dS (ai 3))))) rfl h
variable {eC:Addr}{eE:FuncData}(bA:Def K mg "_law_turning" Fe ["_law_feed_here","_law_n"] eC eE)(bP:aJ P w K mg base b6 2 eC eE ["_law_feed_here","_law_n"] (cu K 2 wA))
abbrev HY:aj->Dm Fl :=
 (ay (aH (cG (ae (fC (.int 0)) ah)) (hName 1))
 (ay (de (b8 (ae (aB gj (fC (.int 1)) (aM b7 (ae (aB aN (ag 0) (fC (.int 0))) ah))) ah)) (hName 2) (de (cZ (ag 0)) (hName 3) (de (jT (aM oo (ae (ag 1) ah))) (hName 4) (dN (aA (aB (sX true) (aB aN (ag 3) (ag 4)) (ag 1))) (cc (jK "list" aU (ag 1) (ae (aB aN (ag 3) (ag 4)) ah))) aR))))
 (aX (ag 1))))
abbrev wB:List D->Dm D:=gS 5 HY
abbrev Ff:Stmt:=top 37
def Fg:aD ["_law_floor_here","_law_found","_law_turn","_law_turning_here","_law_one"] ["_law_floor_here"] (au Ff):=by walk
def W8(D:Def K mg "_law_met" Ff ["_law_floor_here"] f fd)(T:Txt mg):aJ P w K mg base b6 1 f fd ["_law_floor_here"] (cu K 1 wB):=by
 refine D.F.ok Fg (λ_ _ _ _ h=>h.1) (λc A o s H v Q E hr h=>?_);refine⟨_,((1>>=Fg>>=(@kF _ _ _ _ (aO<|av)))<|>(pP rfl T.aS (cT nJ aO (fA jE (by rfl) T.bp jF ((du<*pv 0<*aO)<|av))<|av)&&&(dX (i:=2) Fg.nd rfl (by w_up))&&&(~~~(qv (pv 0)&&&(dX (i:=3) Fg.nd rfl (by w_up))&&&(~~~(CU (fY JU (by rfl) T.dA rC (pv 1<|av))&&&(dX (i:=4) Fg.nd rfl (by w_up))&&&(~~~(eh GZ (du<*pv 3<*pv 4) (pv 1) (by with_unfolding_all rfl)<*>(~~~pB (nF PySem.F.plainAttrs_list PySem.F.slot_list_append PySem.F.type_list_append pC (pv 1) ((du<*pv 3<*pv 4)<|av)))<*>iT)))))))<|>(~~~(@dP _ _ _ _ (pv 1)))),?_⟩
 exact jL (b:=HY) (a9 (bU (kH (ao (aQ _) ax)) (aW 1))
  (a9 (mv (pY (ao (aE nP (aQ _) (bM jI (ao (aE cX (ai 0) (aQ _)) ax))) ax)) (aW 2) (mv (qz (ai 0)) (aW 3) (mv (Er (bM Le (ao (ai 1) ax))) (aW 4) (iJ (dW (aE (El true) (aE cX (ai 3) (ai 4)) (ai 1))) (pK (mG pJ (ai 1) (ao (aE cX (ai 3) (ai 4)) ax))) iY))))
  (dS (ai 1)))) rfl h
variable {ki:Addr}{kj:FuncData}(fW:Def K mg "_law_met" Ff ["_law_floor_here"] ki kj)(iN:aJ P w K mg base b6 1 ki kj ["_law_floor_here"] (cu K 1 wB))
abbrev HZ:aj->Dm Fl :=
 (ay (aH (aM lJ (ae (ag 0) (ae (fC (.int 6)) ah))) (hName 2))
 (ay (uy 3 4 (ae (aM oo (ae (aM wA (ae (ag 0) (ae (ag 1) ah))) ah)) (ae (aM oo (ae (aM wA (ae (ag 0) (ae (ag 1) ah))) ah)) ah)))
 (ay (dN (aA (aB (kI false) (ag 2) (fC (.int 0)))) (aH (aB nR (aM dc (ae (aM fK (ae (fC (.int 1)) (ae (ag 1) ah))) ah)) (cG (ae (fC (.int 0)) ah))) (hName 3)) aR)
 (ay (dN (aA (aB (kI false) (ag 2) (fC (.int 1)))) (uy 3 4 (ae (aM dc (ae (aM fJ (ae (ag 1) ah)) ah)) (ae (aB nR (aM dc (ae (aM fK (ae (fC (.int 1)) (ae (ag 1) ah))) ah)) (cG (ae (fC (.int 0)) ah))) ah))) aR)
 (ay (dN (aA (aB (kI false) (ag 2) (fC (.int 2)))) (ay (aH (aB gj (fC (.int 1)) (aM lJ (ae (ag 0) (ae (ag 1) ah)))) (hName 5))
 (ay (aH (aB nR (aB nR (aM dc (ae (aM fK (ae (fC (.int 1)) (ae (ag 5) ah))) ah)) (cG (ae (fC (.int 0)) ah))) (aM dc (ae (aM fK (ae (ag 5) (ae (ag 1) ah))) ah))) (hName 3))
 (ay (aH (zD sG (aB nR (aB nR (aB nR (cG (ae (ag 5) ah)) (aM dc (ae (aM fK (ae (fC (.int 1)) (ae (ag 5) ah))) ah))) (aM dc (ae (aM fK (ae (aB gj (ag 5) (fC (.int 1))) (ae (ag 1) ah))) ah))) (cG (ae (fC (.int 0)) ah))) lG (mq (ag 1))) (hName 4))
 (dN (aA (aB (kI false) (ag 5) (ag 1))) (aH (aM dc (ae (aM fJ (ae (ag 1) ah)) ah)) (hName 4)) aR)))) aR)
 (ay (aH (bS (ae (aM bN (ae (ag 3) ah)) (ae (aM bN (ae (ag 4) ah)) ah))) (hName 6))
 (ay (aH (cS (b8 (ae (ag 1) ah)) 1 [6] (hName 0) (aA (aB (sX true) (ag 0) (aM wB (ae (ag 1) ah)))) (ag 0)) (hName 7))
 (ay (iZ (aA (aB (gO true) (ag 7) (cG ah))) (ay (aH (aB bW (ag 7) (fC (.int 0))) (hName 8))
 (ay (aH (bS (ae (aB bW (ag 3) (ag 8)) (ae (aB bW (ag 3) (fC (.int 0))) ah))) (ni 2 (cR (hSub (ag 3) (fC (.int 0))) (cR (hSub (ag 3) (ag 8)) nU))))
 (ay (aH (bS (ae (aM bN (ae (ag 3) ah)) (ae (aM bN (ae (ag 4) ah)) ah))) (hName 6))
 (aH (cS (b8 (ae (ag 1) ah)) 1 [6] (hName 0) (aA (aB (sX true) (ag 0) (aM wB (ae (ag 1) ah)))) (ag 0)) (hName 7))))))
 (aX (ag 6))))))))))
abbrev A2:List D->Dm D:=gS 9 HZ
abbrev Fh:Stmt:=top 38
def rZ:aD ["_law_feed_here","_law_n","_law_form_here","_law_right_here","_law_up","_law_wide","_law_found","_law_apart","_law_m"] ["_law_feed_here","_law_n"] (au Fh):=by walk
include aI aL bA bP fW iN in
def W9(D:Def K mg "_law_floor" Fh ["_law_feed_here","_law_n"] f fd)(T:Txt mg):aJ P w K mg base b6 3 f fd ["_law_feed_here","_law_n"] (cu K 2 A2):=by
 refine D.F.ok rZ (λ_ _ _ _ h=>h.1) (λc A o s H v Q E hr h=>?_);have hu:=hr.units;refine⟨_,((2>>=rZ>>=cE aL aI hr ∅ rfl (pv 0<|aO<|av))<|>(MC (i:=3) (j:=4) rfl rZ.nd rfl rfl ∅ rfl rfl (fY JU (by rfl) T.dA rC (cE bP bA hr ∅ rfl (pv 0<|pv 1<|av)<|av)<|fY JU (by rfl) T.dA rC (cE bP bA hr ∅ rfl (pv 0<|pv 1<|av)<|av)<|av) rfl)<|>(eh rh (pv 2) aO (aK _)<*>(~~~(3>>=rZ>>=cT yT (fY (tR rfl) (by rfl) T.dA rC (fY BO (by rfl) T.aS tP (aO<|pv 1<|av)<|av)) (@kF _ _ _ _ (aO<|av))))<*>iT)<|>(eh rh (pv 2) aO (aK _)<*>(~~~(MC (i:=3) (j:=4) rfl rZ.nd rfl rfl ∅ rfl rfl (fY (tR rfl) (by rfl) T.dA rC (fY Dr (by rfl) T.aS tP (pv 1<|av)<|av)<|cT yT (fY (tR rfl) (by rfl) T.dA rC (fY BO (by rfl) T.aS tP (aO<|pv 1<|av)<|av)) (@kF _ _ _ _ (aO<|av))<|av) rfl))<*>iT)<|>(eh rh (pv 2) aO (aK _)<*>((5>>=rZ>>=cT nJ aO (cE aL aI hr ∅ rfl (pv 0<|pv 1<|av)))<|>(3>>=rZ>>=cT yT (cT yT (fY (tR rfl) (by rfl) T.dA rC (fY BO (by rfl) T.aS tP (aO<|pv 5<|av)<|av)) (@kF _ _ _ _ (aO<|av))) (fY (tR rfl) (by rfl) T.dA rC (fY BO (by rfl) T.aS tP (pv 5<|pv 1<|av)<|av)))<|>(4>>=rZ>>=GY JQ (cT yT (cT yT (cT yT (@kF _ _ _ _ (pv 5<|av)) (fY (tR rfl) (by rfl) T.dA rC (fY BO (by rfl) T.aS tP (aO<|pv 5<|av)<|av))) (fY (tR rfl) (by rfl) T.dA rC (fY BO (by rfl) T.aS tP (cT nJ (pv 5) aO<|pv 1<|av)<|av))) (@kF _ _ _ _ (aO<|av))) JN (C5 (pv 1)))<|>(~~~(eh rh (pv 5) (pv 1) (aK _)<*>(~~~(4>>=rZ>>=fY (tR rfl) (by rfl) T.dA rC (fY Dr (by rfl) T.aS tP (pv 1<|av)<|av)))<*>iT)))<*>iT)<|>(6>>=rZ>>=(@iQ _ _ _ _ _ (fY n8 (by rfl) T.a8 mD (pv 3<|av)<|fY n8 (by rfl) T.a8 mD (pv 4<|av)<|av)))<|>(NC (i:=7) (own:=["_law_s"]) (fr:=["_law_found"]) (js:=[6]) rfl rZ.nd rfl rfl ⟨⟨rfl,by w_fin,by w_fin,by dsimp only[dY,aT,Cx.oM,Cx.wish,PyProof.Rows.envOfC,compEnvC,relabel,Env.kindOf];decide +kernel,by w_fin⟩,rfl⟩ (pP rfl T.aS (pv 1<|av)) (λ_ _ _ _ _=>(dX (i:=0) (show((["_law_s"]:List Str) ++ (["_law_found"]:List Str)).Nodup by w_fin) rfl (by w_up))) (λ_ _ _ _ _=>(Nv (eh (NF (K:=K) rfl) (pv 0) (cE iN fW hr ∅ rfl (pv 1<|av)) (by with_unfolding_all rfl)))) (λ_ _ _ _ _=>(pv 0)))<|>BJ PassesOwn.never (eh (G4 hu) (pv 7) (@kF _ _ _ _ av) (aK _)) ((8>>=rZ>>=(lA<*pv 7<*aO))<|>w6 (@iQ _ _ _ _ _ ((lA<*pv 3<*pv 8)<|(lA<*pv 3<*aO)<|av)) (wZ (n:=2) rfl (n4 (BH (pv 3) aO BM) (n4 (BH (pv 3) (pv 8) BM) wY)))<|>(6>>=rZ>>=(@iQ _ _ _ _ _ (fY n8 (by rfl) T.a8 mD (pv 3<|av)<|fY n8 (by rfl) T.a8 mD (pv 4<|av)<|av)))<|>(~~~(NC (i:=7) (own:=["_law_s"]) (fr:=["_law_found"]) (js:=[6]) rfl rZ.nd rfl rfl ⟨⟨rfl,by w_fin,by w_fin,by dsimp only[dY,aT,Cx.oM,Cx.wish,PyProof.Rows.envOfC,compEnvC,relabel,Env.kindOf];decide +kernel,by w_fin⟩,rfl⟩ (pP rfl T.aS (pv 1<|av)) (λ_ _ _ _ _=>(dX (i:=0) (show((["_law_s"]:List Str) ++ (["_law_found"]:List Str)).Nodup by w_fin) rfl (by w_up))) (λ_ _ _ _ _=>(Nv (eh (NF (K:=K) rfl) (pv 0) (cE iN fW hr ∅ rfl (pv 1<|av)) (by with_unfolding_all rfl)))) (λ_ _ _ _ _=>(pv 0)))))<|>(~~~(@dP _ _ _ _ (pv 6)))),?_⟩
 exact jL (b:=HZ) (a9 (bU (cB (F:=lJ) (ao (ai 0) (ao (aQ _) ax)) fg) (aW 2))
  (a9 (Pd (ao (bM Le (ao (cB (F:=wA) (ao (ai 0) (ao (ai 1) ax)) fg) ax)) (ao (bM Le (ao (cB (F:=wA) (ao (ai 0) (ao (ai 1) ax)) fg) ax)) ax)))
  (a9 (iJ (dW (aE rR (ai 2) (aQ _))) (bU (aE zK (bM uw (ao (bM B4 (ao (aQ _) (ao (ai 1) ax))) ax)) (kH (ao (aQ _) ax))) (aW 3)) iY)
  (a9 (iJ (dW (aE rR (ai 2) (aQ _))) (Pd (ao (bM uw (ao (bM Em (ao (ai 1) ax)) ax)) (ao (aE zK (bM uw (ao (bM B4 (ao (aQ _) (ao (ai 1) ax))) ax)) (kH (ao (aQ _) ax))) ax))) iY)
  (a9 (iJ (dW (aE rR (ai 2) (aQ _))) (a9 (bU (aE nP (aQ _) (cB (F:=lJ) (ao (ai 0) (ao (ai 1) ax)) fg)) (aW 5))
  (a9 (bU (aE zK (aE zK (bM uw (ao (bM B4 (ao (aQ _) (ao (ai 5) ax))) ax)) (kH (ao (aQ _) ax))) (bM uw (ao (bM B4 (ao (ai 5) (ao (ai 1) ax))) ax))) (aW 3))
  (a9 (bU (HA Ld (aE zK (aE zK (aE zK (kH (ao (ai 5) ax)) (bM uw (ao (bM B4 (ao (aQ _) (ao (ai 5) ax))) ax))) (bM uw (ao (bM B4 (ao (aE nP (ai 5) (aQ _)) (ao (ai 1) ax))) ax))) (kH (ao (aQ _) ax))) La (Ef (ai 1))) (aW 4))
  (iJ (dW (aE rR (ai 5) (ai 1))) (bU (bM uw (ao (bM Em (ao (ai 1) ax)) ax)) (aW 4)) iY)))) iY)
  (a9 (bU (jH (ao (bM nS (ao (ai 3) ax)) (ao (bM nS (ao (ai 4) ax)) ax))) (aW 6))
  (a9 (bU (qO (pY (ao (ai 1) ax)) (aW 0) (dW (aE (El true) (ai 0) (cB (F:=wB) (ao (ai 1) ax) pM))) (ai 0)) (aW 7))
  (a9 (En (dW (aE (xQ true) (ai 7) (kH ax))) (a9 (bU (aE iW (ai 7) (aQ _)) (aW 8))
  (a9 (bU (jH (ao (aE iW (ai 3) (ai 8)) (ao (aE iW (ai 3) (aQ _)) ax))) (xS (ou (B5 (ai 3) (aQ _)) (ou (B5 (ai 3) (ai 8)) xR))))
  (a9 (bU (jH (ao (bM nS (ao (ai 3) ax)) (ao (bM nS (ao (ai 4) ax)) ax))) (aW 6))
  (bU (qO (pY (ao (ai 1) ax)) (aW 0) (dW (aE (El true) (ai 0) (cB (F:=wB) (ao (ai 1) ax) pM))) (ai 0)) (aW 7))))))
  (dS (ai 6)))))))))) rfl h
variable {gU:Addr}{gW:FuncData}(cq:Def K mg "_law_floor" Fh ["_law_feed_here","_law_n"] gU gW)(cK:aJ P w K mg base b6 3 gU gW ["_law_feed_here","_law_n"] (cu K 2 A2))
abbrev Ie:aj->Dm Fl :=
 (ay (aH (cG (ae (ag 1) ah)) (hName 2))
 (ay (de (jT (aM dc (ae (aM fJ (ae (aM b7 (ae (aB aN (ag 0) (fC (.int 0))) ah)) ah)) ah))) (hName 3) (de (cZ (ag 0)) (hName 4) (dN (qN (aA (aB ve (ag 3) (aM b7 (ae (ag 2) ah)))) (aA (aB (sX true) (aB aN (ag 4) (aB bW (ag 2) (ag 3))) (ag 2)))) (cc (jK "list" aU (ag 2) (ae (aB aN (ag 4) (aB bW (ag 2) (ag 3))) ah))) aR)))
 (aX (aM bN (ae (cS (cZ (ag 0)) 1 [2] (hName 0) dz (aM bN (ae (cS (jT (ag 1)) 1 [0,1] (hName 0) dz (jK "list" ke (ag 2) (ae (aB aN (ag 1) (ag 0)) ah))) ah))) ah)))))
abbrev Fi:List D->Dm D:=gS 5 Ie
abbrev Fj:Stmt:=top 43
def Ig:aD ["_law_floor_here","_law_s","_law_called","_law_one","_law_turning_here"] ["_law_floor_here","_law_s"] (au Fj):=by walk
def Xa(D:Def K mg "_law_numbered" Fj ["_law_floor_here","_law_s"] f fd)(T:Txt mg):aJ P w K mg base b6 1 f fd ["_law_floor_here","_law_s"] (cu K 2 Fi):=by
 refine D.F.ok Ig (λ_ _ _ _ h=>h.1) (λc A o s H v Q E hr h=>?_);refine⟨_,((2>>=Ig>>=(@kF _ _ _ _ (pv 1<|av)))<|>(CU (fY (tR rfl) (by rfl) T.dA rC (fY Dr (by rfl) T.aS tP (fA jE (by rfl) T.bp jF ((du<*pv 0<*aO)<|av)<|av)<|av))&&&(dX (i:=3) Ig.nd rfl (by w_up))&&&(~~~(qv (pv 0)&&&(dX (i:=4) Ig.nd rfl (by w_up))&&&(~~~(PW.pt (GP (eh xc (pv 3) (fA jE (by rfl) T.bp jF (pv 2<|av)) (aK _)) (GO (eh GZ (du<*pv 4<*(lA<*pv 2<*pv 3)) (pv 2) (by with_unfolding_all rfl))))<*>(~~~pB (nF PySem.F.plainAttrs_list PySem.F.slot_list_append PySem.F.type_list_append pC (pv 2) ((du<*pv 4<*(lA<*pv 2<*pv 3))<|av)))<*>iT)))))<|>(~~~(@dP _ _ _ _ (fY n8 (by rfl) T.a8 mD (sy (own:=["_law_turning_here"]) (fr:=["_law_called"]) (js:=[2]) rfl ⟨⟨rfl,by w_fin,by w_fin,by dsimp only[dY,aT,Cx.oM,Cx.wish,PyProof.Rows.envOfC,compEnvC,relabel,Env.kindOf];decide +kernel,by w_fin⟩,rfl⟩ (qv (pv 0)) (λ_ _ _ _ _=>(dX (i:=0) (show((["_law_turning_here"]:List Str) ++ (["_law_called"]:List Str)).Nodup by w_fin) rfl (by w_up))) (λ_ _ _ _ _=>su) (λ_ _ _ _ _=>(fY (NG (K:=K) rfl) (by rfl) T.a8 mD (sy (own:=["_law_one"]) (fr:=["_law_turning_here","_law_called"]) (js:=[0,1]) rfl ⟨Ph ⟨rfl,by w_fin,by w_fin,by dsimp only[dY,Cx.oM,Cx.wish,PyProof.Rows.envOfC];decide +kernel,by w_fin⟩,rfl⟩ (SQ (K:=K) rfl (pv 1)) (λ_ _ _ _ _=>(dX (i:=0) (show((["_law_one"]:List Str) ++ (["_law_turning_here","_law_called"]:List Str)).Nodup by w_fin) rfl (by w_up))) (λ_ _ _ _ _=>su) (λ_ _ _ _ _=>(G8 (K:=K) rfl PySem.F.plainAttrs_list PySem.F.slot_list_index PySem.F.type_list_index (V9 (K:=K) rfl) (pv 2) ((vN (K:=K) rfl<*pv 1<*pv 0)<|av)))<|av)))<|av))))),?_⟩
 exact jL (b:=Ie) (a9 (bU (kH (ao (ai 1) ax)) (aW 2))
  (a9 (mv (Er (bM uw (ao (bM Em (ao (bM jI (ao (aE cX (ai 0) (aQ _)) ax)) ax)) ax))) (aW 3) (mv (qz (ai 0)) (aW 4) (iJ (Hz (dW (aE xP (ai 3) (bM jI (ao (ai 2) ax)))) (dW (aE (El true) (aE cX (ai 4) (aE iW (ai 2) (ai 3))) (ai 2)))) (pK (mG pJ (ai 2) (ao (aE cX (ai 4) (aE iW (ai 2) (ai 3))) ax))) iY)))
  (dS (bM nS (ao (qO (qz (ai 0)) (aW 0) sL (bM nS (ao (qO (Er (ai 1)) (aW 0) sL (mG Wa (ai 2) (ao (aE cX (ai 1) (ai 0)) ax))) ax))) ax))))) rfl h
variable {dB:Addr}{dC:FuncData}(cL:Def K mg "_law_numbered" Fj ["_law_floor_here","_law_s"] dB dC)(dD:aJ P w K mg base b6 1 dB dC ["_law_floor_here","_law_s"] (cu K 2 Fi))
abbrev Ih:aj->Dm Fl :=
 (aX (aM mx (ae (cS (b8 (ae (aM b7 (ae (aB aN (ag 0) (fC (.int 0))) ah)) ah)) 1 [0] (hName 0) dz (aM Fi (ae (ag 1) (ae (ag 0) ah)))) ah)))
abbrev uM:List D->Dm D:=gS 1 Ih
abbrev Fm:Stmt:=top 44
def Xb:aD ["_law_floor_here"] ["_law_floor_here"] (au Fm):=by walk
include cL dD in
def Xc(D:Def K mg "_law_form" Fm ["_law_floor_here"] f fd)(T:Txt mg):aJ P w K mg base b6 2 f fd ["_law_floor_here"] (cu K 1 uM):=by refine D.F.ok Xb (λ_ _ _ _ h=>h.1) (λc A o s H v Q E hr h=>?_);have hu:=hr.units;refine⟨_,(~~~(@dP _ _ _ _ (fA (NP rfl hu) (by rfl) T.uL J4 (sy (own:=["_law_s"]) (fr:=["_law_floor_here"]) (js:=[0]) rfl ⟨⟨rfl,by w_fin,by w_fin,by dsimp only[dY,aT,Cx.oM,Cx.wish,PyProof.Rows.envOfC,compEnvC,relabel,Env.kindOf];decide +kernel,by w_fin⟩,rfl⟩ (pP rfl T.aS (fA jE (by rfl) T.bp jF ((du<*pv 0<*aO)<|av)<|av)) (λ_ _ _ _ _=>(dX (i:=0) (show((["_law_s"]:List Str) ++ (["_law_floor_here"]:List Str)).Nodup by w_fin) rfl (by w_up))) (λ_ _ _ _ _=>su) (λ_ _ _ _ _=>(cE dD cL hr ∅ rfl (pv 1<|pv 0<|av)))<|av)))),?_⟩;exact jL (b:=Ih) (dS (bM P7 (ao (qO (pY (ao (bM jI (ao (aE cX (ai 0) (aQ _)) ax)) ax)) (aW 0) sL (cB (F:=Fi) (ao (ai 1) (ao (ai 0) ax)) fg)) ax))) rfl h
variable {jd:Addr}{je:FuncData}(cw:Def K mg "_law_form" Fm ["_law_floor_here"] jd je)(cM:aJ P w K mg base b6 2 jd je ["_law_floor_here"] (cu K 1 uM))
abbrev Ii:aj->Dm Fl :=
 (ay (dN (aA (aB ve (ag 2) (fC (.int 0)))) (ay (aH (aM bN (ae (cS (b8 (ae (aM b7 (ae (ag 0) ah)) ah)) 1 [0] (hName 0) dz (jK "tuple" iX (ag 1) (ae (ag 0) ah))) ah)) (hName 0))
 (aH (aB mz (fC (.int 0)) (ag 2)) (hName 2))) aR)
 (ay (aH (cG (ae (ag 1) ah)) (hName 3))
 (ay (iZ (aA (aB (kI true) (aB aN (ag 0) (aB bW (ag 3) (vZ nQ (fC (.int 1))))) (ag 1))) (cc (jK "list" aU (ag 3) (ae (aB aN (ag 0) (aB bW (ag 3) (vZ nQ (fC (.int 1))))) ah))))
 (aX (aB bW (ag 3) (aB jS (ag 2) (aM b7 (ae (ag 3) ah))))))))
abbrev Fn:List D->Dm D:=gS 4 Ii
abbrev Fp:Stmt:=top 40
def Ij:aD ["_law_turning_here","_law_s","_law_k","_law_ring"] ["_law_turning_here","_law_s","_law_k"] (au Fp):=by walk
def Xe(D:Def K mg "_law_behind" Fp ["_law_turning_here","_law_s","_law_k"] f fd)(T:Txt mg):aJ P w K mg base b6 1 f fd ["_law_turning_here","_law_s","_law_k"] (cu K 3 Fn):=by
 refine D.F.ok Ij (λ_ _ _ _ h=>h.1) (λc A o s H v Q E hr h=>?_);refine⟨_,((eh xc (pv 2) aO (aK _)<*>((0>>=Ij>>=fY n8 (by rfl) T.a8 mD (sy (own:=["_law_one"]) (fr:=["_law_turning_here"]) (js:=[0]) rfl ⟨⟨rfl,by w_fin,by w_fin,by dsimp only[dY,aT,Cx.oM,Cx.wish,PyProof.Rows.envOfC,compEnvC,relabel,Env.kindOf];decide +kernel,by w_fin⟩,rfl⟩ (pP rfl T.aS (fA jE (by rfl) T.bp jF (pv 0<|av)<|av)) (λ_ _ _ _ _=>(dX (i:=0) (show((["_law_one"]:List Str) ++ (["_law_turning_here"]:List Str)).Nodup by w_fin) rfl (by w_up))) (λ_ _ _ _ _=>su) (λ_ _ _ _ _=>(G8 (K:=K) rfl PySem.F.plainAttrs_tuple PySem.F.slot_tuple_index PySem.F.type_tuple_index (Kl (K:=K) rfl) (pv 1) (pv 0<|av)))<|av))<|>(~~~(2>>=Ij>>=cT BK aO (pv 2))))<*>iT)<|>(3>>=Ij>>=(@kF _ _ _ _ (pv 1<|av)))<|>BJ PassesOwn.never (eh yG (du<*pv 0<*(lA<*pv 3<*yD yF aO)) (pv 1) (aK _)) (~~~pB (nF PySem.F.plainAttrs_list PySem.F.slot_list_append PySem.F.type_list_append pC (pv 3) ((du<*pv 0<*(lA<*pv 3<*yD yF aO))<|av)))<|>(~~~(@dP _ _ _ _ (lA<*pv 3<*cT sj (pv 2) (fA jE (by rfl) T.bp jF (pv 3<|av)))))),?_⟩
 exact jL (b:=Ii) (a9 (iJ (dW (aE xP (ai 2) (aQ _))) (a9 (bU (bM nS (ao (qO (pY (ao (bM jI (ao (ai 0) ax)) ax)) (aW 0) sL (mG Lf (ai 1) (ao (ai 0) ax))) ax)) (aW 0))
  (bU (aE B1 (aQ _) (ai 2)) (aW 2))) iY)
  (a9 (bU (kH (ao (ai 1) ax)) (aW 3))
  (a9 (En (dW (aE zG (aE cX (ai 0) (aE iW (ai 3) (zB zF (aQ _)))) (ai 1))) (pK (mG pJ (ai 3) (ao (aE cX (ai 0) (aE iW (ai 3) (zB zF (aQ _)))) ax))))
  (dS (aE iW (ai 3) (aE sF (ai 2) (bM jI (ao (ai 3) ax)))))))) rfl h
variable {fL:Addr}{fM:FuncData}(dE:Def K mg "_law_behind" Fp ["_law_turning_here","_law_s","_law_k"] fL fM)(fN:aJ P w K mg base b6 1 fL fM ["_law_turning_here","_law_s","_law_k"] (cu K 3 Fn))
abbrev Ci:aj->Dm Fl :=
 (ay (aH (ag 0) (ni 2 (cR (hName 2) (cR (hName 3) nU))))
 (ay (dN (aA (aB (kI false) (aB aN (ag 1) (fC (.int 0))) (fC (.str "s")))) (aX (bS (ae (ag 2) (ae (aM bN (ae (cS (b8 (ae (aM b7 (ae (ag 3) ah)) ah)) 1 [1,2,3] (hName 0) dz (aB aN (ag 3) (aM Fn (ae (ag 2) (ae (ag 0) (ae (aB mz (fC (.int 0)) (aB aN (ag 1) (fC (.int 1)))) ah)))))) ah)) ah)))) aR)
 (ay (de (b8 (ae (aB jS (aB aN (ag 1) (fC (.int 1))) (fC (.int 4))) ah)) (hName 4) (aH (bS (ae (aM bN (ae (cS (b8 (ae (aM b7 (ae (ag 3) ah)) ah)) 1 [3] (hName 0) dz (jK "tuple" iX (ag 1) (ae (ag 0) ah))) ah)) (ae (ag 2) ah))) (ni 2 (cR (hName 2) (cR (hName 3) nU)))))
 (aX (bS (ae (ag 2) (ae (ag 3) ah)))))))
abbrev vw:List D->Dm D:=gS 5 Ci
abbrev Fq:Stmt:=top 41
def Cj:aD ["_law_floor_here","_law_step","_law_right_here","_law_up","_law_turn"] ["_law_floor_here","_law_step"] (au Fq):=by walk
include dE fN in
def Xf(D:Def K mg "_law_stepped" Fq ["_law_floor_here","_law_step"] f fd)(T:Txt mg):aJ P w K mg base b6 2 f fd ["_law_floor_here","_law_step"] (cu K 2 vw):=by
 refine D.F.ok Cj (λ_ _ _ _ h=>h.1) (λc A o s H v Q E hr h=>?_);refine⟨_,(w6 (pv 0) (wZ (n:=2) rfl (n4 (dX (i:=2) Cj.nd rfl (by w_up)) (n4 (dX (i:=3) Cj.nd rfl (by w_up)) wY)))<|>(eh rh (du<*pv 1<*aO) nY (aK _)<*>(~~~(@dP _ _ _ _ (@iQ _ _ _ _ _ (pv 2<|fY n8 (by rfl) T.a8 mD (sy (own:=["_law_s"]) (fr:=["_law_step","_law_right_here","_law_up"]) (js:=[1,2,3]) rfl ⟨⟨rfl,by w_fin,by w_fin,by dsimp only[dY,aT,Cx.oM,Cx.wish,PyProof.Rows.envOfC,compEnvC,relabel,Env.kindOf];decide +kernel,by w_fin⟩,rfl⟩ (pP rfl T.aS (fA jE (by rfl) T.bp jF (pv 3<|av)<|av)) (λ_ _ _ _ _=>(dX (i:=0) (show((["_law_s"]:List Str) ++ (["_law_step","_law_right_here","_law_up"]:List Str)).Nodup by w_fin) rfl (by w_up))) (λ_ _ _ _ _=>su) (λ_ _ _ _ _=>(vN (K:=K) rfl<*pv 3<*cE fN dE hr ∅ rfl (pv 2<|pv 0<|cT BK aO (vN (K:=K) rfl<*pv 1<*aO)<|av)))<|av)<|av))))<*>iT)<|>(pP rfl T.aS (cT sj (du<*pv 1<*aO) aO<|av)&&&(dX (i:=4) Cj.nd rfl (by w_up))&&&(~~~w6 (@iQ _ _ _ _ _ (fY n8 (by rfl) T.a8 mD (sy (own:=["_law_s"]) (fr:=["_law_up"]) (js:=[3]) rfl ⟨⟨rfl,by w_fin,by w_fin,by dsimp only[dY,aT,Cx.oM,Cx.wish,PyProof.Rows.envOfC,compEnvC,relabel,Env.kindOf];decide +kernel,by w_fin⟩,rfl⟩ (pP rfl T.aS (fA jE (by rfl) T.bp jF (pv 3<|av)<|av)) (λ_ _ _ _ _=>(dX (i:=0) (show((["_law_s"]:List Str) ++ (["_law_up"]:List Str)).Nodup by w_fin) rfl (by w_up))) (λ_ _ _ _ _=>su) (λ_ _ _ _ _=>(G8 (K:=K) rfl PySem.F.plainAttrs_tuple PySem.F.slot_tuple_index PySem.F.type_tuple_index (Kl (K:=K) rfl) (pv 1) (pv 0<|av)))<|av)<|pv 2<|av)) (wZ (n:=2) rfl (n4 (dX (i:=2) Cj.nd rfl (by w_up)) (n4 (dX (i:=3) Cj.nd rfl (by w_up)) wY)))))<|>(~~~(@dP _ _ _ _ (@iQ _ _ _ _ _ (pv 2<|pv 3<|av))))),?_⟩
 exact jL (b:=Ci) (a9 (bU (ai 0) (xS (ou (aW 2) (ou (aW 3) xR))))
  (a9 (iJ (dW (aE rR (aE cX (ai 1) (aQ _)) (pI _))) (dS (jH (ao (ai 2) (ao (bM nS (ao (qO (pY (ao (bM jI (ao (ai 3) ax)) ax)) (aW 0) sL (aE cX (ai 3) (cB (F:=Fn) (ao (ai 2) (ao (ai 0) (ao (aE B1 (aQ _) (aE cX (ai 1) (aQ _))) ax))) Ce))) ax)) ax)))) iY)
  (a9 (mv (pY (ao (aE sF (aE cX (ai 1) (aQ _)) (aQ _)) ax)) (aW 4) (bU (jH (ao (bM nS (ao (qO (pY (ao (bM jI (ao (ai 3) ax)) ax)) (aW 0) sL (mG Lf (ai 1) (ao (ai 0) ax))) ax)) (ao (ai 2) ax))) (xS (ou (aW 2) (ou (aW 3) xR)))))
  (dS (jH (ao (ai 2) (ao (ai 3) ax))))))) rfl h
variable {eG:Addr}{eI:FuncData}(bQ:Def K mg "_law_stepped" Fq ["_law_floor_here","_law_step"] eG eI)(b9:aJ P w K mg base b6 2 eG eI ["_law_floor_here","_law_step"] (cu K 2 vw))
abbrev Ik:aj->Dm Fl :=
 (ay (aH (cG ah) (hName 1))
 (ay (de (cZ (ag 0)) (ni 2 (cR (hName 2) (cR (hName 3) nU))) (ay (dN (qN (aA (aB (gO true) (ag 1) (cG ah))) (aA (aB (kI false) (aB aN (aB bW (ag 1) (vZ nQ (fC (.int 1)))) (fC (.int 0))) (ag 2)))) (aH (aB gj (aB aN (wt "list" wx (ag 1)) (fC (.int 1))) (ag 3)) (hName 3)) aR)
 (ay (dN (aA (aB (kI false) (ag 2) (fC (.str "t")))) (aH (aB jS (ag 3) (fC (.int 4))) (hName 3)) aR)
 (dN (aA (aB (kI true) (ag 3) (fC (.int 0)))) (cc (jK "list" aU (ag 1) (ae (bS (ae (ag 2) (ae (ag 3) ah))) ah))) aR))))
 (aX (aM bN (ae (ag 1) ah)))))
abbrev Ck:List D->Dm D:=gS 4 Ik
abbrev Fs:Stmt:=top 46
def Cm:aD ["_law_word_here","_law_found","_law_letter","_law_k"] ["_law_word_here"] (au Fs):=by walk
def Xg(D:Def K mg "_law_plain" Fs ["_law_word_here"] f fd)(T:Txt mg):aJ P w K mg base b6 1 f fd ["_law_word_here"] (cu K 1 Ck):=by
 refine D.F.ok Cm (λ_ _ _ _ h=>h.1) (λc A o s H v Q E hr h=>?_);have hu:=hr.units;refine⟨_,((1>>=Cm>>=(@kF _ _ _ _ av))<|>(qv (pv 0)&&&wZ (n:=2) rfl (n4 (dX (i:=2) Cm.nd rfl (by w_up)) (n4 (dX (i:=3) Cm.nd rfl (by w_up)) wY))&&&((PW.pt (GP (eh (G4 hu) (pv 1) (@kF _ _ _ _ av) (aK _)) (GO (eh rh (du<*(lA<*pv 1<*yD yF aO)<*aO) (pv 2) (aK _))))<*>(~~~(3>>=Cm>>=cT nJ (du<*yQ PySem.F.plainAttrs_list PySem.F.slot_list_pop PySem.F.type_list_pop yS (pv 1)<*aO) (pv 3)))<*>iT)<|>(eh rh (pv 2) nY (aK _)<*>(~~~(3>>=Cm>>=cT sj (pv 3) aO))<*>iT)<|>(~~~(eh yG (pv 3) aO (aK _)<*>(~~~pB (nF PySem.F.plainAttrs_list PySem.F.slot_list_append PySem.F.type_list_append pC (pv 1) ((@iQ _ _ _ _ _ (pv 2<|pv 3<|av))<|av)))<*>iT))))<|>(~~~(@dP _ _ _ _ (fY n8 (by rfl) T.a8 mD (pv 1<|av))))),?_⟩
 exact jL (b:=Ik) (a9 (bU (kH ax) (aW 1))
  (a9 (mv (qz (ai 0)) (xS (ou (aW 2) (ou (aW 3) xR))) (a9 (iJ (Hz (dW (aE (xQ true) (ai 1) (kH ax))) (dW (aE rR (aE cX (aE iW (ai 1) (zB zF (aQ _))) (aQ _)) (ai 2)))) (bU (aE nP (aE cX (AQ AW (ai 1)) (aQ _)) (ai 3)) (aW 3)) iY)
  (a9 (iJ (dW (aE rR (ai 2) (pI _))) (bU (aE sF (ai 3) (aQ _)) (aW 3)) iY)
  (iJ (dW (aE zG (ai 3) (aQ _))) (pK (mG pJ (ai 1) (ao (jH (ao (ai 2) (ao (ai 3) ax))) ax))) iY))))
  (dS (bM nS (ao (ai 1) ax))))) rfl h
variable {gX:Addr}{gY:FuncData}(fj:Def K mg "_law_plain" Fs ["_law_word_here"] gX gY)(gZ:aJ P w K mg base b6 1 gX gY ["_law_word_here"] (cu K 1 Ck))
abbrev Il:aj->Dm Fl :=
 (ay (aH (cG (ae (aM uM (ae (ag 0) ah)) ah)) (hName 2))
 (ay (aH (cG (ae (bS ah) ah)) (hName 3))
 (ay (aH (cG ah) (hName 4))
 (ay (de (b8 (ae (ag 1) ah)) (hName 5) (dN (aA (aB ve (ag 5) (aM b7 (ae (ag 2) ah)))) (ay (cc (jK "list" aU (ag 4) (ae (cG ah) ah)))
 (ay (de (cZ (bS (ae (bS (ae (fC (.str "s")) (ae (fC (.int 1)) ah))) (ae (bS (ae (fC (.str "t")) (ae (fC (.int 1)) ah))) ah)))) (hName 6) (ay (aH (aM uM (ae (aM vw (ae (aB bW (ag 2) (ag 5)) (ae (ag 6) ah))) ah)) (hName 7))
 (ay (dN (aA (aB (mI true) (ag 7) (ag 2))) (ay (cc (jK "list" aU (ag 2) (ae (ag 7) ah)))
 (cc (jK "list" aU (ag 3) (ae (aM Ck (ae (aB lH (aB bW (ag 3) (ag 5)) (bS (ae (ag 6) ah))) ah)) ah)))) aR)
 (cc (jK "list" aU (aB bW (ag 4) (ag 5)) (ae (jK "list" eA (ag 2) (ae (ag 7) ah)) ah))))))
 (dN (aA (aB sE (aM b7 (ae (ag 2) ah)) (ag 1))) (aX (fC .non)) aR))) aR))
 (aX (aM bN (ae (cS (b8 (ae (aM b7 (ae (ag 2) ah)) ah)) 1 [2,3,4] (hName 0) dz (bS (ae (aB bW (ag 1) (ag 0)) (ae (aB bW (ag 2) (ag 0)) (ae (aB bW (aB bW (ag 3) (ag 0)) (fC (.int 0))) (ae (aB bW (aB bW (ag 3) (ag 0)) (fC (.int 1))) ah)))))) ah)))))))
abbrev Ft:List D->Dm D:=gS 8 Il
abbrev Fu:Stmt:=top 47
def A3:aD ["_law_floor_here","_law_most","_law_forms","_law_words","_law_links","_law_at","_law_step","_law_fresh"] ["_law_floor_here","_law_most"] (au Fu):=by walk
include cw cM bQ b9 fj gZ in
def Xh(D:Def K mg "_law_chart" Fu ["_law_floor_here","_law_most"] f fd)(T:Txt mg):aJ P w K mg base b6 3 f fd ["_law_floor_here","_law_most"] (cu K 2 Ft):=by
 refine D.F.ok A3 (λ_ _ _ _ h=>h.1) (λc A o s H v Q E hr h=>?_);have hu:=hr.units;refine⟨_,((2>>=A3>>=(@kF _ _ _ _ (cE cM cw hr ∅ rfl (pv 0<|av)<|av)))<|>(3>>=A3>>=(@kF _ _ _ _ ((@iQ _ _ _ _ _ av)<|av)))<|>(4>>=A3>>=(@kF _ _ _ _ av))<|>(pP rfl T.aS (pv 1<|av)&&&(dX (i:=5) A3.nd rfl (by w_up))&&&(~~~(eh xc (pv 5) (fA jE (by rfl) T.bp jF (pv 2<|av)) (aK _)<*>(pB (nF PySem.F.plainAttrs_list PySem.F.slot_list_append PySem.F.type_list_append pC (pv 4) ((@kF _ _ _ _ av)<|av))<|>(qv (@iQ _ _ _ _ _ ((@iQ _ _ _ _ _ (nY<|aO<|av))<|(@iQ _ _ _ _ _ (nY<|aO<|av))<|av))&&&(dX (i:=6) A3.nd rfl (by w_up))&&&((7>>=A3>>=cE cM cw hr ∅ rfl (cE b9 bQ hr ∅ rfl ((lA<*pv 2<*pv 5)<|pv 6<|av)<|av))<|>(eh (G9 hu) (pv 7) (pv 2) (by with_unfolding_all rfl)<*>(pB (nF PySem.F.plainAttrs_list PySem.F.slot_list_append PySem.F.type_list_append pC (pv 2) (pv 7<|av))<|>(~~~pB (nF PySem.F.plainAttrs_list PySem.F.slot_list_append PySem.F.type_list_append pC (pv 3) (cE gZ fj hr ∅ rfl (cT Dq (lA<*pv 3<*pv 5) (@iQ _ _ _ _ _ (pv 6<|av))<|av)<|av))))<*>iT)<|>(~~~pB (nF PySem.F.plainAttrs_list PySem.F.slot_list_append PySem.F.type_list_append pC (lA<*pv 4<*pv 5) (nF PySem.F.plainAttrs_list PySem.F.slot_list_index PySem.F.type_list_index (Oq hu) (pv 2) (pv 7<|av)<|av)))))<|>(~~~(eh uU (fA jE (by rfl) T.bp jF (pv 2<|av)) (pv 1) (aK _)<*>(~~~(@dP _ _ _ _ BE))<*>iT)))<*>iT)))<|>(~~~(@dP _ _ _ _ (fY n8 (by rfl) T.a8 mD (sy (own:=["_law_at"]) (fr:=["_law_forms","_law_words","_law_links"]) (js:=[2,3,4]) rfl ⟨⟨rfl,by w_fin,by w_fin,by dsimp only[dY,aT,Cx.oM,Cx.wish,PyProof.Rows.envOfC,compEnvC,relabel,Env.kindOf];decide +kernel,by w_fin⟩,rfl⟩ (pP rfl T.aS (fA jE (by rfl) T.bp jF (pv 2<|av)<|av)) (λ_ _ _ _ _=>(dX (i:=0) (show((["_law_at"]:List Str) ++ (["_law_forms","_law_words","_law_links"]:List Str)).Nodup by w_fin) rfl (by w_up))) (λ_ _ _ _ _=>su) (λ_ _ _ _ _=>(@iQ _ _ _ _ _ ((uW (K:=K) rfl<*pv 1<*pv 0)<|(uW (K:=K) rfl<*pv 2<*pv 0)<|(uW (K:=K) rfl<*(uW (K:=K) rfl<*pv 3<*pv 0)<*aO)<|(uW (K:=K) rfl<*(uW (K:=K) rfl<*pv 3<*pv 0)<*aO)<|av)))<|av))))),?_⟩
 exact jL (b:=Il) (a9 (bU (kH (ao (cB (F:=uM) (ao (ai 0) ax) pM) ax)) (aW 2))
  (a9 (bU (kH (ao (jH ax) ax)) (aW 3))
  (a9 (bU (kH ax) (aW 4))
  (a9 (mv (pY (ao (ai 1) ax)) (aW 5) (iJ (dW (aE xP (ai 5) (bM jI (ao (ai 2) ax)))) (a9 (pK (mG pJ (ai 4) (ao (kH ax) ax)))
  (a9 (mv (qz (jH (ao (jH (ao (pI _) (ao (aQ _) ax))) (ao (jH (ao (pI _) (ao (aQ _) ax))) ax)))) (aW 6) (a9 (bU (cB (F:=uM) (ao (cB (F:=vw) (ao (aE iW (ai 2) (ai 5)) (ao (ai 6) ax)) fg) ax) pM) (aW 7))
  (a9 (iJ (dW (aE (HM true) (ai 7) (ai 2))) (a9 (pK (mG pJ (ai 2) (ao (ai 7) ax)))
  (pK (mG pJ (ai 3) (ao (cB (F:=Ck) (ao (aE Ej (aE iW (ai 3) (ai 5)) (jH (ao (ai 6) ax))) ax) pM) ax)))) iY)
  (pK (mG pJ (aE iW (ai 4) (ai 5)) (ao (mG Qk (ai 2) (ao (ai 7) ax)) ax))))))
  (iJ (dW (aE vf (bM jI (ao (ai 2) ax)) (ai 1))) (dS B0) iY))) iY))
  (dS (bM nS (ao (qO (pY (ao (bM jI (ao (ai 2) ax)) ax)) (aW 0) sL (jH (ao (aE iW (ai 1) (ai 0)) (ao (aE iW (ai 2) (ai 0)) (ao (aE iW (aE iW (ai 3) (ai 0)) (aQ _)) (ao (aE iW (aE iW (ai 3) (ai 0)) (aQ _)) ax)))))) ax))))))) rfl h
variable {g7:Addr}{g8:FuncData}(fq:Def K mg "_law_chart" Fu ["_law_floor_here","_law_most"] g7 g8)(g9:aJ P w K mg base b6 3 g7 g8 ["_law_floor_here","_law_most"] (cu K 2 Ft))
abbrev Im:aj->Dm Fl :=
 (ay (aH (aB bW (cG (ae (aB gj (fC (.int 1)) (aM lJ (ae (ag 0) (ae (fC (.int 5)) ah)))) (ae (fC (.int 6)) ah))) (aB om (aM lJ (ae (ag 0) (ae (fC (.int 8)) ah))) (fC (.int 7)))) (hName 1))
 (ay (aH (aM A2 (ae (ag 0) (ae (ag 1) ah))) (hName 2))
 (ay (aH (aM Ft (ae (ag 2) (ae (fC (.int 60)) ah))) (hName 3))
 (ay (aH (fC (.int 61)) (hName 4))
 (ay (dN (aA (aB (p7 true) (ag 3) (fC .non))) (aH (aM b7 (ae (ag 3) ah)) (hName 4)) aR)
 (ay (aH (cG (ae (fC .non) (ae (aM rS (ae (fC (.int 60)) (ae (ag 4) ah))) (ae (aM ot (ae (fC (.int 1)) (ae (aB mz (ag 4) (fC (.int 1))) ah))) (ae (aB gj (fC (.int 1)) (aM lJ (ae (ag 0) (ae (fC (.int 60)) ah)))) ah))))) (hName 5))
 (aX (bS (ae (ag 2) (ae (ag 3) (ae (ag 4) (ae (zD sG (ag 5) lG (mq (aB bW (cG (ae (fC (.int 4)) (ae (fC (.int 3)) ah))) (aM pX (ae (aB sE (ag 4) (fC (.int 20))) ah))))) ah))))))))))))
abbrev Fv:List D->Dm D:=gS 6 Im
abbrev Fw:Stmt:=top 48
def A4:aD ["_law_feed_here","_law_n","_law_floor_here","_law_due","_law_many","_law_mosts"] ["_law_feed_here"] (au Fw):=by walk
include aI aL cq cK fq g9 in
def Xi(D:Def K mg "_law_bounded" Fw ["_law_feed_here"] f fd)(T:Txt mg):aJ P w K mg base b6 4 f fd ["_law_feed_here"] (cu K 1 Fv):=by
 refine D.F.ok A4 (λ_ _ _ _ h=>h.1) (λc A o s H v Q E hr h=>?_);refine⟨_,((1>>=A4>>=(lA<*(@kF _ _ _ _ (cT nJ aO (cE aL aI hr ∅ rfl (pv 0<|aO<|av))<|aO<|av))<*cT JH (cE aL aI hr ∅ rfl (pv 0<|aO<|av)) aO))<|>(2>>=A4>>=cE cK cq hr ∅ rfl (pv 0<|pv 1<|av))<|>(3>>=A4>>=cE g9 fq hr ∅ rfl (pv 2<|aO<|av))<|>(4>>=A4>>=aO)<|>(eh Wm (pv 3) BE (aK _)<*>(~~~(4>>=A4>>=fA jE (by rfl) T.bp jF (pv 3<|av)))<*>iT)<|>(5>>=A4>>=(@kF _ _ _ _ (BE<|fA (RF rfl) (by rfl) T.uL J4 (aO<|pv 4<|av)<|fA (MS rfl) (by rfl) T.yb Nn (aO<|cT BK (pv 4) aO<|av)<|cT nJ aO (cE aL aI hr ∅ rfl (pv 0<|aO<|av))<|av)))<|>(~~~(@dP _ _ _ _ (@iQ _ _ _ _ _ (pv 2<|pv 3<|pv 4<|GY JQ (pv 5) JN (C5 (lA<*(@kF _ _ _ _ (aO<|aO<|av))<*fY RG (by rfl) T.ya Nl (GW uU (pv 4) aO (aK _)<|av)))<|av))))),?_⟩
 exact jL (b:=Im) (a9 (bU (aE iW (kH (ao (aE nP (aQ _) (cB (F:=lJ) (ao (ai 0) (ao (aQ _) ax)) fg)) (ao (aQ _) ax))) (aE Lc (cB (F:=lJ) (ao (ai 0) (ao (aQ _) ax)) fg) (aQ _))) (aW 1))
  (a9 (bU (cB (F:=A2) (ao (ai 0) (ao (ai 1) ax)) fg) (aW 2))
  (a9 (bU (cB (F:=Ft) (ao (ai 2) (ao (aQ _) ax)) fg) (aW 3))
  (a9 (bU (aQ _) (aW 4))
  (a9 (iJ (dW (aE (Lw true) (ai 3) B0)) (bU (bM jI (ao (ai 3) ax)) (aW 4)) iY)
  (a9 (bU (kH (ao B0 (ao (bM Vb (ao (aQ _) (ao (ai 4) ax))) (ao (bM O8 (ao (aQ _) (ao (aE B1 (ai 4) (aQ _)) ax))) (ao (aE nP (aQ _) (cB (F:=lJ) (ao (ai 0) (ao (aQ _) ax)) fg)) ax))))) (aW 5))
  (dS (jH (ao (ai 2) (ao (ai 3) (ao (ai 4) (ao (HA Ld (ai 5) La (Ef (aE iW (kH (ao (aQ _) (ao (aQ _) ax))) (bM Vc (ao (aE vf (ai 4) (aQ _)) ax))))) ax)))))))))))) rfl h
variable {eJ:Addr}{eK:FuncData}(c4:Def K mg "_law_bounded" Fw ["_law_feed_here"] eJ eK)(eN:aJ P w K mg base b6 4 eJ eK ["_law_feed_here"] (cu K 1 Fv))
abbrev Io:aj->Dm Fl :=
 (ay (de (cZ (ag 1)) (hName 2) (aH (aM vw (ae (ag 0) (ae (ag 2) ah))) (hName 0)))
 (aX (ag 0)))
abbrev yc:List D->Dm D:=gS 3 Io
abbrev Fx:Stmt:=top 42
def LS:aD ["_law_floor_here","_law_word_here","_law_step"] ["_law_floor_here","_law_word_here"] (au Fx):=by walk
include bQ b9 in
def Xj(D:Def K mg "_law_led" Fx ["_law_floor_here","_law_word_here"] f fd)(T:Txt mg):aJ P w K mg base b6 3 f fd ["_law_floor_here","_law_word_here"] (cu K 2 yc):=by
 refine D.F.ok LS (λ_ _ _ _ h=>h.1) (λc A o s H v Q E hr h=>?_);refine⟨_,((qv (pv 1)&&&(dX (i:=2) LS.nd rfl (by w_up))&&&(~~~(0>>=LS>>=cE b9 bQ hr ∅ rfl (pv 0<|pv 2<|av))))<|>(~~~(@dP _ _ _ _ (pv 0)))),?_⟩
 exact jL (b:=Io) (a9 (mv (qz (ai 1)) (aW 2) (bU (cB (F:=vw) (ao (ai 0) (ao (ai 2) ax)) fg) (aW 0)))
  (dS (ai 0))) rfl h
variable {kl:Addr}{km:FuncData}(di:Def K mg "_law_led" Fx ["_law_floor_here","_law_word_here"] kl km)(d5:aJ P w K mg base b6 3 kl km ["_law_floor_here","_law_word_here"] (cu K 2 yc))
abbrev Ip:aj->Dm Fl :=
 (aX (aM bN (ae (cS (cZ (ag 0)) 1 [1] (hName 0) dz (aM bN (ae (cS (b8 (ae (aM b7 (ae (ag 1) ah)) ah)) 1 [0,1] (hName 0) dz (aB aN (ag 2) (aB aN (ag 1) (jK "tuple" iX (ag 2) (ae (ag 0) ah))))) ah))) ah)))
abbrev yd:List D->Dm D:=gS 2 Ip
abbrev Fy:Stmt:=top 45
def Xk:aD ["_law_floor_here","_law_p"] ["_law_floor_here","_law_p"] (au Fy):=by walk
def Xl(D:Def K mg "_law_anew" Fy ["_law_floor_here","_law_p"] f fd)(T:Txt mg):aJ P w K mg base b6 1 f fd ["_law_floor_here","_law_p"] (cu K 2 yd):=by refine D.F.ok Xk (λ_ _ _ _ h=>h.1) (λc A o s H v Q E hr h=>?_);refine⟨_,(~~~(@dP _ _ _ _ (fY n8 (by rfl) T.a8 mD (sy (own:=["_law_turning_here"]) (fr:=["_law_p"]) (js:=[1]) rfl ⟨⟨rfl,by w_fin,by w_fin,by dsimp only[dY,aT,Cx.oM,Cx.wish,PyProof.Rows.envOfC,compEnvC,relabel,Env.kindOf];decide +kernel,by w_fin⟩,rfl⟩ (qv (pv 0)) (λ_ _ _ _ _=>(dX (i:=0) (show((["_law_turning_here"]:List Str) ++ (["_law_p"]:List Str)).Nodup by w_fin) rfl (by w_up))) (λ_ _ _ _ _=>su) (λ_ _ _ _ _=>(fY (NG (K:=K) rfl) (by rfl) T.a8 mD (sy (own:=["_law_s"]) (fr:=["_law_turning_here","_law_p"]) (js:=[0,1]) rfl ⟨Ph ⟨rfl,by w_fin,by w_fin,by dsimp only[dY,Cx.oM,Cx.wish,PyProof.Rows.envOfC];decide +kernel,by w_fin⟩,rfl⟩ (pP rfl T.aS (fA (SO (K:=K) rfl) (by rfl) T.bp jF (pv 1<|av)<|av)) (λ_ _ _ _ _=>(dX (i:=0) (show((["_law_s"]:List Str) ++ (["_law_turning_here","_law_p"]:List Str)).Nodup by w_fin) rfl (by w_up))) (λ_ _ _ _ _=>su) (λ_ _ _ _ _=>(vN (K:=K) rfl<*pv 2<*(vN (K:=K) rfl<*pv 1<*G8 (K:=K) rfl PySem.F.plainAttrs_tuple PySem.F.slot_tuple_index PySem.F.type_tuple_index (Kl (K:=K) rfl) (pv 2) (pv 0<|av))))<|av)))<|av)))),?_⟩;exact jL (b:=Ip) (dS (bM nS (ao (qO (qz (ai 0)) (aW 0) sL (bM nS (ao (qO (pY (ao (bM jI (ao (ai 1) ax)) ax)) (aW 0) sL (aE cX (ai 2) (aE cX (ai 1) (mG Lf (ai 2) (ao (ai 0) ax))))) ax))) ax))) rfl h
variable {jf:Addr}{jg:FuncData}(cN:Def K mg "_law_anew" Fy ["_law_floor_here","_law_p"] jf jg)(df:aJ P w K mg base b6 1 jf jg ["_law_floor_here","_law_p"] (cu K 2 yd))
abbrev Iq:aj->Dm Fl :=
 (ay (aH (cG ah) (hName 3))
 (ay (de (b8 (ae (aM lJ (ae (ag 0) (ae (aB gj (ag 1) (fC (.int 1))) ah))) ah)) (hName 4) (dN (aA (aB (kI false) (aM lJ (ae (ag 0) (ae (fC (.int 2)) ah))) (fC (.int 0)))) (cc (jK "list" aU (ag 3) (ae (bS (ae (fC (.str "t")) (ae (aB gj (fC (.int 1)) (aM lJ (ae (ag 0) (ae (fC (.int 3)) ah)))) ah))) ah))) (ay (aH (aB gj (fC (.int 1)) (aM lJ (ae (ag 0) (ae (ag 2) ah)))) (hName 4))
 (cc (jK "list" aU (ag 3) (ae (bS (ae (fC (.str "s")) (ae (aB bW (cG (ae (ag 4) (ae (aB mz (fC (.int 0)) (ag 4)) ah))) (aM lJ (ae (ag 0) (ae (fC (.int 2)) ah)))) ah))) ah))))))
 (aX (aM bN (ae (ag 3) ah)))))
abbrev Fz:List D->Dm D:=gS 5 Iq
abbrev FA:Stmt:=top 39
def Ir:aD ["_law_feed_here","_law_most","_law_great","_law_found","_law_k"] ["_law_feed_here","_law_most","_law_great"] (au FA):=by walk
include aI aL in
def Xm(D:Def K mg "_law_word" FA ["_law_feed_here","_law_most","_law_great"] f fd)(T:Txt mg):aJ P w K mg base b6 2 f fd ["_law_feed_here","_law_most","_law_great"] (cu K 3 Fz):=by
 refine D.F.ok Ir (λ_ _ _ _ h=>h.1) (λc A o s H v Q E hr h=>?_);refine⟨_,((3>>=Ir>>=(@kF _ _ _ _ av))<|>(pP rfl T.aS (cE aL aI hr ∅ rfl (pv 0<|cT nJ (pv 1) aO<|av)<|av)&&&(dX (i:=4) Ir.nd rfl (by w_up))&&&(~~~(eh rh (cE aL aI hr ∅ rfl (pv 0<|aO<|av)) aO (aK _)<*>(~~~pB (nF PySem.F.plainAttrs_list PySem.F.slot_list_append PySem.F.type_list_append pC (pv 3) ((@iQ _ _ _ _ _ (nY<|cT nJ aO (cE aL aI hr ∅ rfl (pv 0<|aO<|av))<|av))<|av)))<*>((4>>=Ir>>=cT nJ aO (cE aL aI hr ∅ rfl (pv 0<|pv 2<|av)))<|>(~~~pB (nF PySem.F.plainAttrs_list PySem.F.slot_list_append PySem.F.type_list_append pC (pv 3) ((@iQ _ _ _ _ _ (nY<|(lA<*(@kF _ _ _ _ (pv 4<|cT BK aO (pv 4)<|av))<*cE aL aI hr ∅ rfl (pv 0<|aO<|av))<|av))<|av)))))))<|>(~~~(@dP _ _ _ _ (fY n8 (by rfl) T.a8 mD (pv 3<|av))))),?_⟩
 exact jL (b:=Iq) (a9 (bU (kH ax) (aW 3))
  (a9 (mv (pY (ao (cB (F:=lJ) (ao (ai 0) (ao (aE nP (ai 1) (aQ _)) ax)) fg) ax)) (aW 4) (iJ (dW (aE rR (cB (F:=lJ) (ao (ai 0) (ao (aQ _) ax)) fg) (aQ _))) (pK (mG pJ (ai 3) (ao (jH (ao (pI _) (ao (aE nP (aQ _) (cB (F:=lJ) (ao (ai 0) (ao (aQ _) ax)) fg)) ax))) ax))) (a9 (bU (aE nP (aQ _) (cB (F:=lJ) (ao (ai 0) (ao (ai 2) ax)) fg)) (aW 4))
  (pK (mG pJ (ai 3) (ao (jH (ao (pI _) (ao (aE iW (kH (ao (ai 4) (ao (aE B1 (aQ _) (ai 4)) ax))) (cB (F:=lJ) (ao (ai 0) (ao (aQ _) ax)) fg)) ax))) ax))))))
  (dS (bM nS (ao (ai 3) ax))))) rfl h
variable {jh:Addr}{ji:FuncData}(gw:Def K mg "_law_word" FA ["_law_feed_here","_law_most","_law_great"] jh ji)(jk:aJ P w K mg base b6 2 jh ji ["_law_feed_here","_law_most","_law_great"] (cu K 3 Fz))
abbrev Iu:aj->Dm Fl :=
 (ay (dN (kU (aA (aM i6 (ae (ag 0) (ae (fC (.ty "tuple")) ah))))) (aX (fC (.bl false))) aR)
 (ay (de (cZ (ag 0)) (hName 1) (ay (dN (pT (kU (aA (aM i6 (ae (ag 1) (ae (fC (.ty "tuple")) ah))))) (pT (aA (aB (kI true) (aM b7 (ae (ag 1) ah)) (fC (.int 2)))) (pT (aA (aM i6 (ae (aB aN (ag 1) (fC (.int 1))) (ae (fC (.ty "bool")) ah)))) (kU (aA (aM i6 (ae (aB aN (ag 1) (fC (.int 1))) (ae (fC (.ty "int")) ah)))))))) (aX (fC (.bl false))) aR)
 (ay (dN (pT (aA (aB (mI true) (aB aN (ag 1) (fC (.int 0))) (bS (ae (fC (.str "s")) (ae (fC (.str "t")) ah))))) (pT (aA (aB (kI false) (aB aN (ag 1) (fC (.int 1))) (fC (.int 0)))) (qN (aA (aB (kI false) (aB aN (ag 1) (fC (.int 0))) (fC (.str "t")))) (kU (aA (o8 ve ve (fC (.int 0)) (aB aN (ag 1) (fC (.int 1))) (fC (.int 4)))))))) (aX (fC (.bl false))) aR)
 (dN (aA (aB sE (aM ot (ae (aB aN (ag 1) (fC (.int 1))) (ae (aB mz (fC (.int 0)) (aB aN (ag 1) (fC (.int 1)))) ah))) (fC (.int 9999)))) (aX (fC (.bl false))) aR))))
 (aX (fC (.bl true)))))
abbrev Cn:List D->Dm D:=gS 2 Iu
abbrev FC:Stmt:=top 50
def Qr:aD ["_law_word_here","_law_step"] ["_law_word_here"] (au FC):=by walk
def Xn(D:Def K mg "_law_is_word" FC ["_law_word_here"] f fd)(T:Txt mg):aJ P w K mg base b6 1 f fd ["_law_word_here"] (cu K 1 Cn):=by
 refine D.F.ok Qr (λ_ _ _ _ h=>h.1) (λc A o s H v Q E hr h=>?_);have hu:=hr.units;refine⟨_,((vC (vB (fA AJ (by rfl) T.cv yV (pv 0<|yu (v:=.ty "tuple") rfl T.a8 mD rfl<|av)))<*>(~~~(@dP _ _ _ _ sT))<*>iT)<|>(qv (pv 0)&&&(dX (i:=1) Qr.nd rfl (by w_up))&&&((PW.pt (uS (vC (vB (fA AJ (by rfl) T.cv yV (pv 1<|yu (v:=.ty "tuple") rfl T.a8 mD rfl<|av)))) (uS (eh yG (fA jE (by rfl) T.bp jF (pv 1<|av)) aO (aK _)) (uS (vB (fA AJ (by rfl) T.cv yV ((du<*pv 1<*aO)<|yu (v:=.ty "bool") rfl T.uK Nm rfl<|av))) (CJ (vC (vB (fA AJ (by rfl) T.cv yV ((du<*pv 1<*aO)<|yu (v:=.ty "int") rfl T.ya Nl rfl<|av))))))))<*>(~~~(@dP _ _ _ _ sT))<*>iT)<|>(PW.pt (uS (eh (G9 hu) (du<*pv 1<*aO) (@iQ _ _ _ _ _ (nY<|nY<|av)) (by with_unfolding_all rfl)) (uS (eh rh (du<*pv 1<*aO) aO (aK _)) (CJ (PW.pt (GP (eh rh (du<*pv 1<*aO) nY (aK _)) (GO (vC (RE xc xc aO (du<*pv 1<*aO) aO))))))))<*>(~~~(@dP _ _ _ _ sT))<*>iT)<|>(~~~(eh uU (fA (MS rfl) (by rfl) T.yb Nn ((du<*pv 1<*aO)<|cT BK aO (du<*pv 1<*aO)<|av)) aO (aK _)<*>(~~~(@dP _ _ _ _ sT))<*>iT))))<|>(~~~(@dP _ _ _ _ sT))),?_⟩
 exact jL (b:=Iu) (a9 (iJ (wb (va (bM AL (ao (ai 0) (ao (zA _) ax))))) (dS (sW _)) iY)
  (a9 (mv (qz (ai 0)) (aW 1) (a9 (iJ (vd (wb (va (bM AL (ao (ai 1) (ao (zA _) ax))))) (vd (dW (aE zG (bM jI (ao (ai 1) ax)) (aQ _))) (vd (va (bM AL (ao (aE cX (ai 1) (aQ _)) (ao (zA _) ax)))) (wb (va (bM AL (ao (aE cX (ai 1) (aQ _)) (ao (zA _) ax)))))))) (dS (sW _)) iY)
  (a9 (iJ (vd (dW (aE (HM true) (aE cX (ai 1) (aQ _)) (jH (ao (pI _) (ao (pI _) ax))))) (vd (dW (aE rR (aE cX (ai 1) (aQ _)) (aQ _))) (Hz (dW (aE rR (aE cX (ai 1) (aQ _)) (pI _))) (wb (dW (WK xP xP (aQ _) (aE cX (ai 1) (aQ _)) (aQ _))))))) (dS (sW _)) iY)
  (iJ (dW (aE vf (bM O8 (ao (aE cX (ai 1) (aQ _)) (ao (aE B1 (aQ _) (aE cX (ai 1) (aQ _))) ax))) (aQ _))) (dS (sW _)) iY))))
  (dS (sW _)))) rfl h
variable {eO:Addr}{eQ:FuncData}(c5:Def K mg "_law_is_word" FC ["_law_word_here"] eO eQ)(eU:aJ P w K mg base b6 1 eO eQ ["_law_word_here"] (cu K 1 Cn))
abbrev Iv:aj->Dm Fl :=
 (ay (aH (wz (ag 3) (fC (.int 60))) (hName 3))
 (ay (dN (pT (aA (aB (p7 false) (ag 2) (fC .non))) (aA (aB sE (aM b7 (ae (ag 2) ah)) (ag 3)))) (aX (pV (aB (gO false) (ag 4) (bS (ae (fC (.str "refused")) (ae (ag 3) ah)))) (pW (aM i6 (ae (aB aN (ag 4) (fC (.int 1))) (ae (fC (.ty "bool")) ah)))))) aR)
 (ay (dN (aA (aB (kI true) (aB aN (ag 4) (fC (.int 0))) (fC (.str "told")))) (aX (fC (.bl false))) aR)
 (ay (aH (aB aN (ag 4) (fC (.int 1))) (hName 4))
 (ay (dN (pT (kU (aA (aM i6 (ae (ag 4) (ae (fC (.ty "tuple")) ah))))) (aA (aB (mI true) (aM uM (ae (ag 1) ah)) (cS (cZ (ag 2)) 1 [] (hName 0) dz (aB aN (ag 0) (fC (.int 0))))))) (aX (aB (gO false) (ag 4) (bS (ae (fC (.str "apart")) (ae (ag 2) ah))))) aR)
 (ay (dN (pT (aA (aB (kI true) (aM b7 (ae (ag 4) ah)) (fC (.int 3)))) (pT (aA (aB (kI true) (aB aN (ag 4) (fC (.int 0))) (fC (.str "led")))) (pT (kU (aA (aM Cn (ae (aB aN (ag 4) (fC (.int 1))) ah)))) (kU (aA (aM i6 (ae (aB aN (ag 4) (fC (.int 2))) (ae (fC (.ty "tuple")) ah)))))))) (aX (fC (.bl false))) aR)
 (ay (dN (aA (aB (gO true) (aM kc (ae (aB aN (ag 4) (fC (.int 2))) ah)) (aM dc (ae (aM fJ (ae (aM b7 (ae (aB aN (ag 1) (fC (.int 0))) ah)) ah)) ah)))) (aX (fC (.bl false))) aR)
 (aX (aB (gO false) (aM yd (ae (aM yc (ae (ag 0) (ae (aB aN (ag 4) (fC (.int 1))) ah))) (ae (aB aN (ag 4) (fC (.int 2))) ah))) (ag 1))))))))))
abbrev A5:List D->Dm D:=gS 5 Iv
abbrev FD:Stmt:=top 51
def LU:aD ["_law_one","_law_other","_law_due","_law_most","_law_found"] ["_law_one","_law_other","_law_due","_law_most","_law_found"] (au FD):=by walk
include cw cM di d5 cN df c5 eU in
def Xo(D:Def K mg "_law_right" FD ["_law_one","_law_other","_law_due","_law_most","_law_found"] f fd)(T:Txt mg):aJ P w K mg base b6 4 f fd ["_law_one","_law_other","_law_due","_law_most","_law_found"] (cu K 5 A5):=by
 refine D.F.ok LU (λ_ _ _ _ h=>h.1) (λc A o s H v Q E hr h=>?_);have hu:=hr.units;refine⟨_,((3>>=LU>>=zf (pv 3) (MA aO))<|>(PW.pt (uS (eh PL (pv 2) BE (aK _)) (CJ (eh uU (fA jE (by rfl) T.bp jF (pv 2<|av)) (pv 3) (aK _))))<*>(~~~(@dP _ _ _ _ (yx (GW (G3 hu) (pv 4) (@iQ _ _ _ _ _ (nY<|pv 3<|av)) (aK _)) (MA (yy (fA AJ (by rfl) T.cv yV ((du<*pv 4<*aO)<|yu (v:=.ty "bool") rfl T.uK Nm rfl<|av)))))))<*>iT)<|>(eh yG (du<*pv 4<*aO) nY (aK _)<*>(~~~(@dP _ _ _ _ sT))<*>iT)<|>(4>>=LU>>=(du<*pv 4<*aO))<|>(PW.pt (uS (vC (vB (fA AJ (by rfl) T.cv yV (pv 4<|yu (v:=.ty "tuple") rfl T.a8 mD rfl<|av)))) (CJ (eh (G9 hu) (cE cM cw hr ∅ rfl (pv 1<|av)) (sy (own:=["_law_row"]) (fr:=[]) (js:=[]) rfl ⟨⟨rfl,by w_fin,by w_fin,by dsimp only[dY,aT,Cx.oM,Cx.wish,PyProof.Rows.envOfC,compEnvC,relabel,Env.kindOf];decide +kernel,by w_fin⟩,rfl⟩ (qv (pv 2)) (λ_ _ _ _ _=>(dX (i:=0) (show((["_law_row"]:List Str) ++ ([]:List Str)).Nodup by w_fin) rfl (by w_up))) (λ_ _ _ _ _=>su) (λ_ _ _ _ _=>(vN (K:=K) rfl<*pv 0<*aO))) (by with_unfolding_all rfl))))<*>(~~~(@dP _ _ _ _ (GW (G3 hu) (pv 4) (@iQ _ _ _ _ _ (nY<|pv 2<|av)) (aK _))))<*>iT)<|>(PW.pt (uS (eh yG (fA jE (by rfl) T.bp jF (pv 4<|av)) aO (aK _)) (uS (eh yG (du<*pv 4<*aO) nY (aK _)) (uS (vC (vB (cE eU c5 hr ∅ rfl ((du<*pv 4<*aO)<|av)))) (CJ (vC (vB (fA AJ (by rfl) T.cv yV ((du<*pv 4<*aO)<|yu (v:=.ty "tuple") rfl T.a8 mD rfl<|av))))))))<*>(~~~(@dP _ _ _ _ sT))<*>iT)<|>(eh (G4 hu) (fA Sz (by rfl) T.qc Np ((du<*pv 4<*aO)<|av)) (fY (tR rfl) (by rfl) T.dA rC (fY Dr (by rfl) T.aS tP (fA jE (by rfl) T.bp jF ((du<*pv 1<*aO)<|av)<|av)<|av)) (aK _)<*>(~~~(@dP _ _ _ _ sT))<*>iT)<|>(~~~(@dP _ _ _ _ (GW (G3 hu) (cE df cN hr ∅ rfl (cE d5 di hr ∅ rfl (pv 0<|(du<*pv 4<*aO)<|av)<|(du<*pv 4<*aO)<|av)) (pv 1) (aK _))))),?_⟩
 exact jL (b:=Iv) (a9 (bU (A0 (ai 3) (aQ _)) (aW 3))
  (a9 (iJ (vd (dW (aE (Lw false) (ai 2) B0)) (dW (aE vf (bM jI (ao (ai 2) ax)) (ai 3)))) (dS (U7 (aE (xQ false) (ai 4) (jH (ao (pI _) (ao (ai 3) ax)))) (U8 (bM AL (ao (aE cX (ai 4) (aQ _)) (ao (zA _) ax)))))) iY)
  (a9 (iJ (dW (aE zG (aE cX (ai 4) (aQ _)) (pI _))) (dS (sW _)) iY)
  (a9 (bU (aE cX (ai 4) (aQ _)) (aW 4))
  (a9 (iJ (vd (wb (va (bM AL (ao (ai 4) (ao (zA _) ax))))) (dW (aE (HM true) (cB (F:=uM) (ao (ai 1) ax) pM) (qO (qz (ai 2)) (aW 0) sL (aE cX (ai 0) (aQ _)))))) (dS (aE (xQ false) (ai 4) (jH (ao (pI _) (ao (ai 2) ax))))) iY)
  (a9 (iJ (vd (dW (aE zG (bM jI (ao (ai 4) ax)) (aQ _))) (vd (dW (aE zG (aE cX (ai 4) (aQ _)) (pI _))) (vd (wb (va (cB (F:=Cn) (ao (aE cX (ai 4) (aQ _)) ax) pM))) (wb (va (bM AL (ao (aE cX (ai 4) (aQ _)) (ao (zA _) ax)))))))) (dS (sW _)) iY)
  (a9 (iJ (dW (aE (xQ true) (bM Vg (ao (aE cX (ai 4) (aQ _)) ax)) (bM uw (ao (bM Em (ao (bM jI (ao (aE cX (ai 1) (aQ _)) ax)) ax)) ax)))) (dS (sW _)) iY)
  (dS (aE (xQ false) (cB (F:=yd) (ao (cB (F:=yc) (ao (ai 0) (ao (aE cX (ai 4) (aQ _)) ax)) fg) (ao (aE cX (ai 4) (aQ _)) ax)) fg) (ai 1)))))))))) rfl h
variable {hJ:Addr}{hU:FuncData}(dj:Def K mg "_law_right" FD ["_law_one","_law_other","_law_due","_law_most","_law_found"] hJ hU)(ft:aJ P w K mg base b6 4 hJ hU ["_law_one","_law_other","_law_due","_law_most","_law_found"] (cu K 5 A5))
abbrev Iw:aj->Dm Fl :=
 (ay (aH (aB uv (cG (ae (fC (.int 0)) ah)) (aM b7 (ae (ag 0) ah))) (hName 1))
 (ay (de (nr (ae (ag 0) ah)) (ni 2 (cR (hName 2) (cR (hName 3) nU))) (aH (ag 2) (hSub (ag 1) (ag 3))))
 (aX (aM bN (ae (ag 1) ah)))))
abbrev wC:List D->Dm D:=gS 4 Iw
abbrev FE:Stmt:=top 5
def Iy:aD ["turning","back","number","led"] ["turning"] (au FE):=by walk
def Xp(D:Def K mg "turned_back" FE ["turning"] f fd)(T:Txt mg):aJ P w K mg base b6 1 f fd ["turning"] (cu K 1 wC):=by
 refine D.F.ok Iy (λ_ _ _ _ h=>h.1) (λc A o s H v Q E hr h=>?_);refine⟨_,((1>>=Iy>>=cT Nc (@kF _ _ _ _ (aO<|av)) (fA jE (by rfl) T.bp jF (pv 0<|av)))<|>(NI rfl T.my (pv 0<|av)&&&wZ (n:=2) rfl (n4 (dX (i:=2) Iy.nd rfl (by w_up)) (n4 (dX (i:=3) Iy.nd rfl (by w_up)) wY))&&&(~~~w6 (pv 2) (BH (pv 1) (pv 3) BM)))<|>(~~~(@dP _ _ _ _ (fY n8 (by rfl) T.a8 mD (pv 1<|av))))),?_⟩
 exact jL (b:=Iw) (a9 (bU (aE Pc (kH (ao (aQ _) ax)) (bM jI (ao (ai 0) ax))) (aW 1))
  (a9 (mv (Pg (ao (ai 0) ax)) (xS (ou (aW 2) (ou (aW 3) xR))) (bU (ai 2) (B5 (ai 1) (ai 3))))
  (dS (bM nS (ao (ai 1) ax))))) rfl h
variable {fO:Addr}{fP:FuncData}(bh:Def K mg "turned_back" FE ["turning"] fO fP)(bB:aJ P w K mg base b6 1 fO fP ["turning"] (cu K 1 wC))
abbrev Iz:aj->Dm Fl :=
 (aX (aM bN (ae (cS (cZ (ag 0)) 1 [1] (hName 0) dz (aB aN (ag 1) (ag 0))) ah)))
abbrev qT:List D->Dm D:=gS 2 Iz
abbrev FF:Stmt:=top 4
def Xq:aD ["one","other"] ["one","other"] (au FF):=by walk
def Xr(D:Def K mg "followed" FF ["one","other"] f fd)(T:Txt mg):aJ P w K mg base b6 1 f fd ["one","other"] (cu K 2 qT):=by refine D.F.ok Xq (λ_ _ _ _ h=>h.1) (λc A o s H v Q E hr h=>?_);refine⟨_,(~~~(@dP _ _ _ _ (fY n8 (by rfl) T.a8 mD (sy (own:=["number"]) (fr:=["other"]) (js:=[1]) rfl ⟨⟨rfl,by w_fin,by w_fin,by dsimp only[dY,aT,Cx.oM,Cx.wish,PyProof.Rows.envOfC,compEnvC,relabel,Env.kindOf];decide +kernel,by w_fin⟩,rfl⟩ (qv (pv 0)) (λ_ _ _ _ _=>(dX (i:=0) (show((["number"]:List Str) ++ (["other"]:List Str)).Nodup by w_fin) rfl (by w_up))) (λ_ _ _ _ _=>su) (λ_ _ _ _ _=>(vN (K:=K) rfl<*pv 1<*pv 0))<|av)))),?_⟩;exact jL (b:=Iz) (dS (bM nS (ao (qO (qz (ai 0)) (aW 0) sL (aE cX (ai 1) (ai 0))) ax))) rfl h
variable {kn:Addr}{ko:FuncData}(bI:Def K mg "followed" FF ["one","other"] kn ko)(bT:aJ P w K mg base b6 1 kn ko ["one","other"] (cu K 2 qT))
abbrev IA:aj->Dm Fl :=
 (ay (aH (aM wC (ae (ag 1) ah)) (hName 2))
 (ay (aH (aM qT (ae (aM qT (ae (ag 2) (ae (aB aN (ag 0) (fC (.int 0))) ah))) (ae (ag 1) ah))) (hName 3))
 (ay (aH (aM qT (ae (aM qT (ae (ag 2) (ae (aB aN (ag 0) (fC (.int 1))) ah))) (ae (ag 1) ah))) (hName 4))
 (aX (bS (ae (ag 3) (ae (ag 4) ah)))))))
abbrev FG:List D->Dm D:=gS 5 IA
abbrev FH:Stmt:=top 12
def IB:aD ["floor","p","back","right","up"] ["floor","p"] (au FH):=by walk
include bh bB bI bT in
def Xs(D:Def K mg "called_anew" FH ["floor","p"] f fd)(T:Txt mg):aJ P w K mg base b6 2 f fd ["floor","p"] (cu K 2 FG):=by
 refine D.F.ok IB (λ_ _ _ _ h=>h.1) (λc A o s H v Q E hr h=>?_);refine⟨_,((2>>=IB>>=cE bB bh hr ∅ rfl (pv 1<|av))<|>(3>>=IB>>=cE bT bI hr ∅ rfl (cE bT bI hr ∅ rfl (pv 2<|(du<*pv 0<*aO)<|av)<|pv 1<|av))<|>(4>>=IB>>=cE bT bI hr ∅ rfl (cE bT bI hr ∅ rfl (pv 2<|(du<*pv 0<*aO)<|av)<|pv 1<|av))<|>(~~~(@dP _ _ _ _ (@iQ _ _ _ _ _ (pv 3<|pv 4<|av))))),?_⟩
 exact jL (b:=IA) (a9 (bU (cB (F:=wC) (ao (ai 1) ax) pM) (aW 2))
  (a9 (bU (cB (F:=qT) (ao (cB (F:=qT) (ao (ai 2) (ao (aE cX (ai 0) (aQ _)) ax)) fg) (ao (ai 1) ax)) fg) (aW 3))
  (a9 (bU (cB (F:=qT) (ao (cB (F:=qT) (ao (ai 2) (ao (aE cX (ai 0) (aQ _)) ax)) fg) (ao (ai 1) ax)) fg) (aW 4))
  (dS (jH (ao (ai 3) (ao (ai 4) ax))))))) rfl h
variable {fQ:Addr}{fR:FuncData}(dG:Def K mg "called_anew" FH ["floor","p"] fQ fR)(fS:aJ P w K mg base b6 2 fQ fR ["floor","p"] (cu K 2 FG))
abbrev IC:aj->Dm Fl :=
 (ay (aH (cG (ae (ag 1) ah)) (hName 2))
 (ay (aH (fC (.int 0)) (hName 3))
 (ay (iZ (aA (aB ve (ag 3) (aM b7 (ae (ag 2) ah)))) (ay (de (cZ (ag 0)) (hName 4) (ay (aH (aB aN (ag 4) (aB bW (ag 2) (ag 3))) (hName 5))
 (dN (aA (aB (sX true) (ag 5) (ag 2))) (cc (jK "list" aU (ag 2) (ae (ag 5) ah))) aR)))
 (aH (aB gj (ag 3) (fC (.int 1))) (hName 3))))
 (aX (aM bN (ae (ag 2) ah))))))
abbrev A6:List D->Dm D:=gS 6 IC
abbrev FI:Stmt:=top 10
def Co:aD ["floor","s","squares","place","turning","reached"] ["floor","s"] (au FI):=by walk
def Xt(D:Def K mg "squares_from" FI ["floor","s"] f fd)(T:Txt mg):aJ P w K mg base b6 1 f fd ["floor","s"] (cu K 2 A6):=by
 refine D.F.ok Co (λ_ _ _ _ h=>h.1) (λc A o s H v Q E hr h=>?_);refine⟨_,((2>>=Co>>=(@kF _ _ _ _ (pv 1<|av)))<|>(3>>=Co>>=aO)<|>BJ PassesOwn.never (eh xc (pv 3) (fA jE (by rfl) T.bp jF (pv 2<|av)) (aK _)) ((qv (pv 0)&&&(dX (i:=4) Co.nd rfl (by w_up))&&&((5>>=Co>>=(du<*pv 4<*(lA<*pv 2<*pv 3)))<|>(~~~(eh GZ (pv 5) (pv 2) (by with_unfolding_all rfl)<*>(~~~pB (nF PySem.F.plainAttrs_list PySem.F.slot_list_append PySem.F.type_list_append pC (pv 2) (pv 5<|av)))<*>iT))))<|>(~~~(3>>=Co>>=cT nJ (pv 3) aO)))<|>(~~~(@dP _ _ _ _ (fY n8 (by rfl) T.a8 mD (pv 2<|av))))),?_⟩
 exact jL (b:=IC) (a9 (bU (kH (ao (ai 1) ax)) (aW 2))
  (a9 (bU (aQ _) (aW 3))
  (a9 (En (dW (aE xP (ai 3) (bM jI (ao (ai 2) ax)))) (a9 (mv (qz (ai 0)) (aW 4) (a9 (bU (aE cX (ai 4) (aE iW (ai 2) (ai 3))) (aW 5))
  (iJ (dW (aE (El true) (ai 5) (ai 2))) (pK (mG pJ (ai 2) (ao (ai 5) ax))) iY)))
  (bU (aE nP (ai 3) (aQ _)) (aW 3))))
  (dS (bM nS (ao (ai 2) ax)))))) rfl h
variable {eV:Addr}{eW:FuncData}(bR:Def K mg "squares_from" FI ["floor","s"] eV eW)(cb:aJ P w K mg base b6 1 eV eW ["floor","s"] (cu K 2 A6))
abbrev IE:aj->Dm Fl :=
 (aX (aM wC (ae (aM A6 (ae (ag 0) (ae (ag 1) ah))) ah)))
abbrev A7:List D->Dm D:=gS 2 IE
abbrev FJ:Stmt:=top 13
def Xu:aD ["floor","s"] ["floor","s"] (au FJ):=by walk
include bh bB bR cb in
def Xv(D:Def K mg "numbering_from" FJ ["floor","s"] f fd)(T:Txt mg):aJ P w K mg base b6 2 f fd ["floor","s"] (cu K 2 A7):=by refine D.F.ok Xu (λ_ _ _ _ h=>h.1) (λc A o s H v Q E hr h=>?_);refine⟨_,(~~~(@dP _ _ _ _ (cE bB bh hr ∅ rfl (cE cb bR hr ∅ rfl (pv 0<|pv 1<|av)<|av)))),?_⟩;exact jL (b:=IE) (dS (cB (F:=wC) (ao (cB (F:=A6) (ao (ai 0) (ao (ai 1) ax)) fg) ax) pM)) rfl h
variable {c7:Addr}{c9:FuncData}(bq:Def K mg "numbering_from" FJ ["floor","s"] c7 c9)(bK:aJ P w K mg base b6 2 c7 c9 ["floor","s"] (cu K 2 A7))
abbrev IF:aj->Dm Fl :=
 (aX (aM FG (ae (ag 0) (ae (aM A7 (ae (ag 0) (ae (ag 1) ah))) ah))))
abbrev wG:List D->Dm D:=gS 2 IF
abbrev FK:Stmt:=top 14
def Xw:aD ["floor","s"] ["floor","s"] (au FK):=by walk
include dG fS bq bK in
def Xx(D:Def K mg "numbered_from" FK ["floor","s"] f fd)(T:Txt mg):aJ P w K mg base b6 3 f fd ["floor","s"] (cu K 2 wG):=by refine D.F.ok Xw (λ_ _ _ _ h=>h.1) (λc A o s H v Q E hr h=>?_);refine⟨_,(~~~(@dP _ _ _ _ (cE fS dG hr ∅ rfl (pv 0<|cE bK bq hr ∅ rfl (pv 0<|pv 1<|av)<|av)))),?_⟩;exact jL (b:=IF) (dS (cB (F:=FG) (ao (ai 0) (ao (cB (F:=A7) (ao (ai 0) (ao (ai 1) ax)) fg) ax)) fg)) rfl h
variable {dH:Addr}{dJ:FuncData}(bj:Def K mg "numbered_from" FK ["floor","s"] dH dJ)(bF:aJ P w K mg base b6 3 dH dJ ["floor","s"] (cu K 2 wG))
abbrev IG:aj->Dm Fl :=
 (aX (aM mx (ae (cS (b8 (ae (aM b7 (ae (aB aN (ag 0) (fC (.int 0))) ah)) ah)) 1 [0] (hName 0) dz (aM wG (ae (ag 1) (ae (ag 0) ah)))) ah)))
abbrev A8:List D->Dm D:=gS 1 IG
abbrev FL:Stmt:=top 15
def Xy:aD ["floor"] ["floor"] (au FL):=by walk
include bj bF in
def Xz(D:Def K mg "form_of" FL ["floor"] f fd)(T:Txt mg):aJ P w K mg base b6 4 f fd ["floor"] (cu K 1 A8):=by refine D.F.ok Xy (λ_ _ _ _ h=>h.1) (λc A o s H v Q E hr h=>?_);have hu:=hr.units;refine⟨_,(~~~(@dP _ _ _ _ (fA (NP rfl hu) (by rfl) T.uL J4 (sy (own:=["s"]) (fr:=["floor"]) (js:=[0]) rfl ⟨⟨rfl,by w_fin,by w_fin,by dsimp only[dY,aT,Cx.oM,Cx.wish,PyProof.Rows.envOfC,compEnvC,relabel,Env.kindOf];decide +kernel,by w_fin⟩,rfl⟩ (pP rfl T.aS (fA jE (by rfl) T.bp jF ((du<*pv 0<*aO)<|av)<|av)) (λ_ _ _ _ _=>(dX (i:=0) (show((["s"]:List Str) ++ (["floor"]:List Str)).Nodup by w_fin) rfl (by w_up))) (λ_ _ _ _ _=>su) (λ_ _ _ _ _=>(cE bF bj hr ∅ rfl (pv 1<|pv 0<|av)))<|av)))),?_⟩;exact jL (b:=IG) (dS (bM P7 (ao (qO (pY (ao (bM jI (ao (aE cX (ai 0) (aQ _)) ax)) ax)) (aW 0) sL (cB (F:=wG) (ao (ai 1) (ao (ai 0) ax)) fg)) ax))) rfl h
variable {lK:Addr}{lL:FuncData}(fu:Def K mg "form_of" FL ["floor"] lK lL)(gx:aJ P w K mg base b6 4 lK lL ["floor"] (cu K 1 A8))
abbrev IH:aj->Dm Fl :=
 (ay (aH (cG (ae (ag 1) ah)) (hName 2))
 (ay (aH (aB aN (ag 0) (ag 1)) (hName 3))
 (ay (iZ (aA (aB (kI true) (ag 3) (ag 1))) (ay (cc (jK "list" aU (ag 2) (ae (ag 3) ah)))
 (aH (aB aN (ag 0) (ag 3)) (hName 3))))
 (aX (aM bN (ae (ag 2) ah))))))
abbrev FN:List D->Dm D:=gS 4 IH
abbrev FO:Stmt:=top 7
def II:aD ["turning","first","ring","reached"] ["turning","first"] (au FO):=by walk
def XA(D:Def K mg "ring_from" FO ["turning","first"] f fd)(T:Txt mg):aJ P w K mg base b6 1 f fd ["turning","first"] (cu K 2 FN):=by
 refine D.F.ok II (λ_ _ _ _ h=>h.1) (λc A o s H v Q E hr h=>?_);refine⟨_,((2>>=II>>=(@kF _ _ _ _ (pv 1<|av)))<|>(3>>=II>>=(du<*pv 0<*pv 1))<|>BJ PassesOwn.never (eh yG (pv 3) (pv 1) (aK _)) (pB (nF PySem.F.plainAttrs_list PySem.F.slot_list_append PySem.F.type_list_append pC (pv 2) (pv 3<|av))<|>(~~~(3>>=II>>=(du<*pv 0<*pv 3))))<|>(~~~(@dP _ _ _ _ (fY n8 (by rfl) T.a8 mD (pv 2<|av))))),?_⟩
 exact jL (b:=IH) (a9 (bU (kH (ao (ai 1) ax)) (aW 2))
  (a9 (bU (aE cX (ai 0) (ai 1)) (aW 3))
  (a9 (En (dW (aE zG (ai 3) (ai 1))) (a9 (pK (mG pJ (ai 2) (ao (ai 3) ax)))
  (bU (aE cX (ai 0) (ai 3)) (aW 3))))
  (dS (bM nS (ao (ai 2) ax)))))) rfl h
variable {jl:Addr}{jn:FuncData}(gy:Def K mg "ring_from" FO ["turning","first"] jl jn)(jq:aJ P w K mg base b6 1 jl jn ["turning","first"] (cu K 2 FN))
abbrev IJ:aj->Dm Fl :=
 (ay (aH (cG ah) (hName 1))
 (ay (aH uB (hName 2))
 (ay (de (b8 (ae (aM b7 (ae (ag 0) ah)) ah)) (hName 3) (dN (aA (wj true (ag 3) (ag 2))) (ay (aH (aM FN (ae (ag 0) (ae (ag 3) ah))) (hName 4))
 (ay (cc (jK "list" aU (ag 1) (ae (ag 4) ah)))
 (de (cZ (ag 4)) (hName 5) (rT (ag 2) (ag 5) (fC (.bl true)))))) aR))
 (aX (aM bN (ae (ag 1) ah))))))
abbrev FP:List D->Dm D:=gS 6 IJ
abbrev FQ:Stmt:=top 8
def Cp:aD ["turning","rings","seen","first","ring","number"] ["turning"] (au FQ):=by walk
include gy jq in
def XB(D:Def K mg "rings_of" FQ ["turning"] f fd)(T:Txt mg):aJ P w K mg base b6 2 f fd ["turning"] (cu K 1 FP):=by
 refine D.F.ok Cp (λ_ _ _ _ h=>h.1) (λc A o s H v Q E hr h=>?_);have hu1:=Dn hr;refine⟨_,((1>>=Cp>>=(@kF _ _ _ _ av))<|>(2>>=Cp>>=Se)<|>(pP rfl T.aS (fA jE (by rfl) T.bp jF (pv 0<|av)<|av)&&&(dX (i:=3) Cp.nd rfl (by w_up))&&&(~~~(yw (R9 hu1 (pv 3) (pv 2))<*>((4>>=Cp>>=cE jq gy hr ∅ rfl (pv 0<|pv 3<|av))<|>pB (nF PySem.F.plainAttrs_list PySem.F.slot_list_append PySem.F.type_list_append pC (pv 1) (pv 4<|av))<|>(~~~(qv (pv 4)&&&(dX (i:=5) Cp.nd rfl (by w_up))&&&(~~~Sb hu1 (pv 2) (pv 5) sT rfl))))<*>iT)))<|>(~~~(@dP _ _ _ _ (fY n8 (by rfl) T.a8 mD (pv 1<|av))))),?_⟩
 exact jL (b:=IJ) (a9 (bU (kH ax) (aW 1))
  (a9 (bU VB (aW 2))
  (a9 (mv (pY (ao (bM jI (ao (ai 0) ax)) ax)) (aW 3) (iJ (va (VC (ai 3) (ai 2))) (a9 (bU (cB (F:=FN) (ao (ai 0) (ao (ai 3) ax)) fg) (aW 4))
  (a9 (pK (mG pJ (ai 1) (ao (ai 4) ax)))
  (mv (qz (ai 4)) (aW 5) (VD (ai 2) (ai 5) (sW _))))) iY))
  (dS (bM nS (ao (ai 1) ax)))))) rfl h
variable {kq:Addr}{kr:FuncData}(iO:Def K mg "rings_of" FQ ["turning"] kq kr)(ku:aJ P w K mg base b6 2 kq kr ["turning"] (cu K 1 FP))
abbrev IK:aj->Dm Fl :=
 (ay (aH (aB uv (cG (ae (fC (.int 0)) ah)) (aM b7 (ae (ag 0) ah))) (hName 2))
 (ay (de (cZ (aM FP (ae (ag 0) ah))) (hName 3) (de (nr (ae (ag 3) ah)) (ni 2 (cR (hName 4) (cR (hName 5) nU))) (aH (aB aN (ag 3) (aB jS (aB gj (ag 4) (ag 1)) (aM b7 (ae (ag 3) ah)))) (hSub (ag 2) (ag 5)))))
 (aX (aM bN (ae (ag 2) ah)))))
abbrev FR:List D->Dm D:=gS 6 IK
abbrev FT:Stmt:=top 6
def FU:aD ["turning","k","led","ring","place","number"] ["turning","k"] (au FT):=by walk
include iO ku in
def XC(D:Def K mg "often" FT ["turning","k"] f fd)(T:Txt mg):aJ P w K mg base b6 3 f fd ["turning","k"] (cu K 2 FR):=by
 refine D.F.ok FU (λ_ _ _ _ h=>h.1) (λc A o s H v Q E hr h=>?_);refine⟨_,((2>>=FU>>=cT Nc (@kF _ _ _ _ (aO<|av)) (fA jE (by rfl) T.bp jF (pv 0<|av)))<|>(qv (cE ku iO hr ∅ rfl (pv 0<|av))&&&(dX (i:=3) FU.nd rfl (by w_up))&&&(~~~(NI rfl T.my (pv 3<|av)&&&wZ (n:=2) rfl (n4 (dX (i:=4) FU.nd rfl (by w_up)) (n4 (dX (i:=5) FU.nd rfl (by w_up)) wY))&&&(~~~w6 (du<*pv 3<*cT sj (cT nJ (pv 4) (pv 1)) (fA jE (by rfl) T.bp jF (pv 3<|av))) (BH (pv 2) (pv 5) BM)))))<|>(~~~(@dP _ _ _ _ (fY n8 (by rfl) T.a8 mD (pv 2<|av))))),?_⟩
 exact jL (b:=IK) (a9 (bU (aE Pc (kH (ao (aQ _) ax)) (bM jI (ao (ai 0) ax))) (aW 2))
  (a9 (mv (qz (cB (F:=FP) (ao (ai 0) ax) pM)) (aW 3) (mv (Pg (ao (ai 3) ax)) (xS (ou (aW 4) (ou (aW 5) xR))) (bU (aE cX (ai 3) (aE sF (aE nP (ai 4) (ai 1)) (bM jI (ao (ai 3) ax)))) (B5 (ai 2) (ai 5)))))
  (dS (bM nS (ao (ai 2) ax))))) rfl h
variable {pb:Addr}{pd:FuncData}(nB:Def K mg "often" FT ["turning","k"] pb pd)(pe:aJ P w K mg base b6 3 pb pd ["turning","k"] (cu K 2 FR))
abbrev IL:aj->Dm Fl :=
 (aX (bS (ae (aB aN (ag 0) (fC (.int 0))) (ae (aM qT (ae (aM FR (ae (aB aN (ag 0) (fC (.int 0))) (ae (vZ nQ (ag 1)) ah))) (ae (aB aN (ag 0) (fC (.int 1))) ah))) ah))))
abbrev FV:List D->Dm D:=gS 2 IL
abbrev FW:Stmt:=top 22
def XD:aD ["floor","k"] ["floor","k"] (au FW):=by walk
include bI bT nB pe in
def XE(D:Def K mg "sheared" FW ["floor","k"] f fd)(T:Txt mg):aJ P w K mg base b6 4 f fd ["floor","k"] (cu K 2 FV):=by refine D.F.ok XD (λ_ _ _ _ h=>h.1) (λc A o s H v Q E hr h=>?_);refine⟨_,(~~~(@dP _ _ _ _ (@iQ _ _ _ _ _ ((du<*pv 0<*aO)<|cE bT bI hr ∅ rfl (cE pe nB hr ∅ rfl ((du<*pv 0<*aO)<|yD yF (pv 1)<|av)<|(du<*pv 0<*aO)<|av)<|av)))),?_⟩;exact jL (b:=IL) (dS (jH (ao (aE cX (ai 0) (aQ _)) (ao (cB (F:=qT) (ao (cB (F:=FR) (ao (aE cX (ai 0) (aQ _)) (ao (zB zF (ai 1)) ax)) fg) (ao (aE cX (ai 0) (aQ _)) ax)) fg) ax)))) rfl h
variable {lO:Addr}{lP:FuncData}(jX:Def K mg "sheared" FW ["floor","k"] lO lP)(lQ:aJ P w K mg base b6 4 lO lP ["floor","k"] (cu K 2 FV))
abbrev IP:aj->Dm Fl :=
 (aX (bS (ae (aM wC (ae (aB aN (ag 0) (fC (.int 1))) ah)) (ae (aB aN (ag 0) (fC (.int 0))) ah))))
abbrev FX:List D->Dm D:=gS 1 IP
abbrev FY:Stmt:=top 23
def XG:aD ["floor"] ["floor"] (au FY):=by walk
include bh bB in
def XH(D:Def K mg "quartered" FY ["floor"] f fd)(T:Txt mg):aJ P w K mg base b6 2 f fd ["floor"] (cu K 1 FX):=by refine D.F.ok XG (λ_ _ _ _ h=>h.1) (λc A o s H v Q E hr h=>?_);refine⟨_,(~~~(@dP _ _ _ _ (@iQ _ _ _ _ _ (cE bB bh hr ∅ rfl ((du<*pv 0<*aO)<|av)<|(du<*pv 0<*aO)<|av)))),?_⟩;exact jL (b:=IP) (dS (jH (ao (cB (F:=wC) (ao (aE cX (ai 0) (aQ _)) ax) pM) (ao (aE cX (ai 0) (aQ _)) ax)))) rfl h
variable {jr:Addr}{jt:FuncData}(gA:Def K mg "quartered" FY ["floor"] jr jt)(ju:aJ P w K mg base b6 2 jr jt ["floor"] (cu K 1 FX))
abbrev IQ:aj->Dm Fl :=
 (ay (dN (aA (aB (kI false) (aB aN (ag 1) (fC (.int 0))) (fC (.str "s")))) (aX (aM FV (ae (ag 0) (ae (aB aN (ag 1) (fC (.int 1))) ah)))) aR)
 (ay (aH (ag 0) (hName 2))
 (ay (de (b8 (ae (aB aN (ag 1) (fC (.int 1))) ah)) (hName 3) (aH (aM FX (ae (ag 2) ah)) (hName 2)))
 (aX (ag 2)))))
abbrev FZ:List D->Dm D:=gS 4 IQ
abbrev F0:Stmt:=top 25
def IU:aD ["floor","step","led","turn"] ["floor","step"] (au F0):=by walk
include jX lQ gA ju in
def XI(D:Def K mg "led_by_step" F0 ["floor","step"] f fd)(T:Txt mg):aJ P w K mg base b6 5 f fd ["floor","step"] (cu K 2 FZ):=by
 refine D.F.ok IU (λ_ _ _ _ h=>h.1) (λc A o s H v Q E hr h=>?_);refine⟨_,((eh rh (du<*pv 1<*aO) nY (aK _)<*>(~~~(@dP _ _ _ _ (cE lQ jX hr ∅ rfl (pv 0<|(du<*pv 1<*aO)<|av))))<*>iT)<|>(2>>=IU>>=pv 0)<|>(pP rfl T.aS ((du<*pv 1<*aO)<|av)&&&(dX (i:=3) IU.nd rfl (by w_up))&&&(~~~(2>>=IU>>=cE ju gA hr ∅ rfl (pv 2<|av))))<|>(~~~(@dP _ _ _ _ (pv 2)))),?_⟩
 exact jL (b:=IQ) (a9 (iJ (dW (aE rR (aE cX (ai 1) (aQ _)) (pI _))) (dS (cB (F:=FV) (ao (ai 0) (ao (aE cX (ai 1) (aQ _)) ax)) fg)) iY)
  (a9 (bU (ai 0) (aW 2))
  (a9 (mv (pY (ao (aE cX (ai 1) (aQ _)) ax)) (aW 3) (bU (cB (F:=FX) (ao (ai 2) ax) pM) (aW 2)))
  (dS (ai 2))))) rfl h
variable {fT:Addr}{fU:FuncData}(dM:Def K mg "led_by_step" F0 ["floor","step"] fT fU)(fV:aJ P w K mg base b6 5 fT fU ["floor","step"] (cu K 2 FZ))
abbrev IV:aj->Dm Fl :=
 (ay (aH (ag 0) (hName 2))
 (ay (de (cZ (ag 1)) (hName 3) (aH (aM FZ (ae (ag 2) (ae (ag 3) ah))) (hName 2)))
 (aX (ag 2))))
abbrev A9:List D->Dm D:=gS 4 IV
abbrev F3:Stmt:=top 24
def IW:aD ["floor","word","led","step"] ["floor","word"] (au F3):=by walk
include dM fV in
def XJ(D:Def K mg "led_by" F3 ["floor","word"] f fd)(T:Txt mg):aJ P w K mg base b6 6 f fd ["floor","word"] (cu K 2 A9):=by
 refine D.F.ok IW (λ_ _ _ _ h=>h.1) (λc A o s H v Q E hr h=>?_);refine⟨_,((2>>=IW>>=pv 0)<|>(qv (pv 1)&&&(dX (i:=3) IW.nd rfl (by w_up))&&&(~~~(2>>=IW>>=cE fV dM hr ∅ rfl (pv 2<|pv 3<|av))))<|>(~~~(@dP _ _ _ _ (pv 2)))),?_⟩
 exact jL (b:=IV) (a9 (bU (ai 0) (aW 2))
  (a9 (mv (qz (ai 1)) (aW 3) (bU (cB (F:=FZ) (ao (ai 2) (ao (ai 3) ax)) fg) (aW 2)))
  (dS (ai 2)))) rfl h
variable {mS:Addr}{mT:FuncData}(hV:Def K mg "led_by" F3 ["floor","word"] mS mT)(jv:aJ P w K mg base b6 6 mS mT ["floor","word"] (cu K 2 A9))
abbrev IX:aj->Dm Fl :=
 (ay (aH (aB gj (aB aN (ag 0) (fC (.int 1))) (aB aN (ag 1) (fC (.int 1)))) (hName 2))
 (ay (dN (aA (aB (kI false) (aB aN (ag 0) (fC (.int 0))) (fC (.str "t")))) (aH (aB jS (ag 2) (fC (.int 4))) (hName 2)) aR)
 (ay (dN (aA (aB (kI false) (ag 2) (fC (.int 0)))) (aX (bS ah)) aR)
 (aX (bS (ae (bS (ae (aB aN (ag 0) (fC (.int 0))) (ae (ag 2) ah))) ah))))))
abbrev F4:List D->Dm D:=gS 3 IX
abbrev F5:Stmt:=top 18
def LV:aD ["one","other","number"] ["one","other"] (au F5):=by walk
def XM(D:Def K mg "joined" F5 ["one","other"] f fd)(T:Txt mg):aJ P w K mg base b6 1 f fd ["one","other"] (cu K 2 F4):=by
 refine D.F.ok LV (λ_ _ _ _ h=>h.1) (λc A o s H v Q E hr h=>?_);refine⟨_,((2>>=LV>>=cT nJ (du<*pv 0<*aO) (du<*pv 1<*aO))<|>(eh rh (du<*pv 0<*aO) nY (aK _)<*>(~~~(2>>=LV>>=cT sj (pv 2) aO))<*>iT)<|>(eh rh (pv 2) aO (aK _)<*>(~~~(@dP _ _ _ _ (@iQ _ _ _ _ _ av)))<*>iT)<|>(~~~(@dP _ _ _ _ (@iQ _ _ _ _ _ ((@iQ _ _ _ _ _ ((du<*pv 0<*aO)<|pv 2<|av))<|av))))),?_⟩
 exact jL (b:=IX) (a9 (bU (aE nP (aE cX (ai 0) (aQ _)) (aE cX (ai 1) (aQ _))) (aW 2))
  (a9 (iJ (dW (aE rR (aE cX (ai 0) (aQ _)) (pI _))) (bU (aE sF (ai 2) (aQ _)) (aW 2)) iY)
  (a9 (iJ (dW (aE rR (ai 2) (aQ _))) (dS (jH ax)) iY)
  (dS (jH (ao (jH (ao (aE cX (ai 0) (aQ _)) (ao (ai 2) ax))) ax)))))) rfl h
variable {mU:Addr}{mV:FuncData}(lR:Def K mg "joined" F5 ["one","other"] mU mV)(mW:aJ P w K mg base b6 1 mU mV ["one","other"] (cu K 2 F4))
abbrev IY:aj->Dm Fl :=
 (ay (aH (bS ah) (hName 1))
 (ay (de (cZ (ag 0)) (hName 2) (dN (qN (aA (aB sE (aM b7 (ae (ag 1) ah)) (fC (.int 0)))) (aA (aB (kI false) (aB aN (aB aN (ag 1) (vZ nQ (fC (.int 1)))) (fC (.int 0))) (aB aN (ag 2) (fC (.int 0)))))) (aH (aB lH (zD zI (ag 1) lG (mq (vZ nQ (fC (.int 1))))) (aM F4 (ae (aB aN (ag 1) (vZ nQ (fC (.int 1)))) (ae (ag 2) ah)))) (hName 1)) (aH (aB lH (ag 1) (bS (ae (ag 2) ah))) (hName 1))))
 (aX (ag 1))))
abbrev F6:List D->Dm D:=gS 3 IY
abbrev F7:Stmt:=top 19
def F8:aD ["word","plain","step"] ["word"] (au F7):=by walk
include lR mW in
def XQ(D:Def K mg "made_plain" F7 ["word"] f fd)(T:Txt mg):aJ P w K mg base b6 2 f fd ["word"] (cu K 1 F6):=by
 refine D.F.ok F8 (λ_ _ _ _ h=>h.1) (λc A o s H v Q E hr h=>?_);refine⟨_,((1>>=F8>>=(@iQ _ _ _ _ _ av))<|>(qv (pv 0)&&&(dX (i:=2) F8.nd rfl (by w_up))&&&(~~~(PW.pt (GP (eh uU (fA jE (by rfl) T.bp jF (pv 1<|av)) aO (aK _)) (GO (eh rh (du<*(du<*pv 1<*yD yF aO)<*aO) (du<*pv 2<*aO) (aK _))))<*>(~~~(1>>=F8>>=cT Dq (GY Sv (pv 1) JN (C5 (yD yF aO))) (cE mW lR hr ∅ rfl ((du<*pv 1<*yD yF aO)<|pv 2<|av))))<*>(~~~(1>>=F8>>=cT Dq (pv 1) (@iQ _ _ _ _ _ (pv 2<|av)))))))<|>(~~~(@dP _ _ _ _ (pv 1)))),?_⟩
 exact jL (b:=IY) (a9 (bU (jH ax) (aW 1))
  (a9 (mv (qz (ai 0)) (aW 2) (iJ (Hz (dW (aE vf (bM jI (ao (ai 1) ax)) (aQ _))) (dW (aE rR (aE cX (aE cX (ai 1) (zB zF (aQ _))) (aQ _)) (aE cX (ai 2) (aQ _))))) (bU (aE Ej (HA zJ (ai 1) La (Ef (zB zF (aQ _)))) (cB (F:=F4) (ao (aE cX (ai 1) (zB zF (aQ _))) (ao (ai 2) ax)) fg)) (aW 1)) (bU (aE Ej (ai 1) (jH (ao (ai 2) ax))) (aW 1))))
  (dS (ai 1)))) rfl h
variable {h7:Addr}{h8:FuncData}(fw:Def K mg "made_plain" F7 ["word"] h7 h8)(h9:aJ P w K mg base b6 2 h7 h8 ["word"] (cu K 1 F6))
abbrev IZ:aj->Dm Fl :=
 (aX (aM F6 (ae (aB lH (ag 0) (ag 1)) ah)))
abbrev F9:List D->Dm D:=gS 2 IZ
abbrev Ga:Stmt:=top 20
def XR:aD ["one","other"] ["one","other"] (au Ga):=by walk
include fw h9 in
def XU(D:Def K mg "put_together" Ga ["one","other"] f fd)(T:Txt mg):aJ P w K mg base b6 3 f fd ["one","other"] (cu K 2 F9):=by refine D.F.ok XR (λ_ _ _ _ h=>h.1) (λc A o s H v Q E hr h=>?_);refine⟨_,(~~~(@dP _ _ _ _ (cE h9 fw hr ∅ rfl (cT Dq (pv 0) (pv 1)<|av)))),?_⟩;exact jL (b:=IZ) (dS (cB (F:=F6) (ao (aE Ej (ai 0) (ai 1)) ax) pM)) rfl h
variable {eX:Addr}{eY:FuncData}(c6:Def K mg "put_together" Ga ["one","other"] eX eY)(eZ:aJ P w K mg base b6 3 eX eY ["one","other"] (cu K 2 F9))
abbrev Ja:aj->Dm Fl :=
 (ay (aH (aM A8 (ae (aM A9 (ae (aB bW (ag 0) (ag 2)) (ae (bS (ae (ag 3) ah)) ah))) ah)) (hName 4))
 (ay (dN (aA (aB (mI true) (ag 4) (ag 0))) (ay (cc (jK "list" aU (ag 0) (ae (ag 4) ah)))
 (cc (jK "list" aU (ag 1) (ae (aM F9 (ae (aB bW (ag 1) (ag 2)) (ae (bS (ae (ag 3) ah)) ah))) ah)))) aR)
 (aX (jK "list" eA (ag 0) (ae (ag 4) ah)))))
abbrev Ba:List D->Dm D:=gS 5 Ja
abbrev Gb:Stmt:=top 30
def Qs:aD ["forms","words","place","step","form"] ["forms","words","place","step"] (au Gb):=by walk
include fu gx hV jv c6 eZ in
def XW(D:Def K mg "row_led_to" Gb ["forms","words","place","step"] f fd)(T:Txt mg):aJ P w K mg base b6 7 f fd ["forms","words","place","step"] (cu K 4 Ba):=by
 refine D.F.ok Qs (λ_ _ _ _ h=>h.1) (λc A o s H v Q E hr h=>?_);have hu:=hr.units;refine⟨_,((4>>=Qs>>=cE gx fu hr ∅ rfl (cE jv hV hr ∅ rfl ((lA<*pv 0<*pv 2)<|(@iQ _ _ _ _ _ (pv 3<|av))<|av)<|av))<|>(eh (G9 hu) (pv 4) (pv 0) (by with_unfolding_all rfl)<*>(pB (nF PySem.F.plainAttrs_list PySem.F.slot_list_append PySem.F.type_list_append pC (pv 0) (pv 4<|av))<|>(~~~pB (nF PySem.F.plainAttrs_list PySem.F.slot_list_append PySem.F.type_list_append pC (pv 1) (cE eZ c6 hr ∅ rfl ((lA<*pv 1<*pv 2)<|(@iQ _ _ _ _ _ (pv 3<|av))<|av)<|av))))<*>iT)<|>(~~~(@dP _ _ _ _ (nF PySem.F.plainAttrs_list PySem.F.slot_list_index PySem.F.type_list_index (Oq hu) (pv 0) (pv 4<|av))))),?_⟩
 exact jL (b:=Ja) (a9 (bU (cB (F:=A8) (ao (cB (F:=A9) (ao (aE iW (ai 0) (ai 2)) (ao (jH (ao (ai 3) ax)) ax)) fg) ax) pM) (aW 4))
  (a9 (iJ (dW (aE (HM true) (ai 4) (ai 0))) (a9 (pK (mG pJ (ai 0) (ao (ai 4) ax)))
  (pK (mG pJ (ai 1) (ao (cB (F:=F9) (ao (aE iW (ai 1) (ai 2)) (ao (jH (ao (ai 3) ax)) ax)) fg) ax)))) iY)
  (dS (mG Qk (ai 0) (ao (ai 4) ax))))) rfl h
variable {ie:Addr}{ig:FuncData}(dk:Def K mg "row_led_to" Gb ["forms","words","place","step"] ie ig)(fz:aJ P w K mg base b6 7 ie ig ["forms","words","place","step"] (cu K 4 Ba))
abbrev Jb:aj->Dm Fl :=
 (ay (rX (aH (cG (ae (aM A8 (ae (ag 0) ah)) ah)) (hName 2)))
 (ay (rX (aH (cG (ae (bS ah) ah)) (hName 3)))
 (ay (rX (aH (cG ah) (hName 4)))
 (ay (iZ (aA (aB ve (aM b7 (ae (ag 4) ah)) (aM b7 (ae (ag 2) ah)))) (ay (dN (aA (aB sE (aM b7 (ae (ag 2) ah)) (ag 1))) (mQ "TooMany" ["most"] (ae (ag 1) ah)) (rX aR))
 (ay (rX (aH (aM b7 (ae (ag 4) ah)) (hName 5)))
 (ay (rX (aH (aM Ba (ae (ag 2) (ae (ag 3) (ae (ag 5) (ae (fC (.tup [(.str "s"),(.int 1)])) ah))))) (hName 6)))
 (ay (rX (aH (aM Ba (ae (ag 2) (ae (ag 3) (ae (ag 5) (ae (fC (.tup [(.str "t"),(.int 1)])) ah))))) (hName 7)))
 (rX (cc (jK "list" aU (ag 4) (ae (bS (ae (ag 6) (ae (ag 7) ah))) ah)))))))))
 (rX (aX (aM bN (ae (cS (b8 (ae (aM b7 (ae (ag 2) ah)) ah)) 1 [2,3,4] (hName 0) dz (bS (ae (aB bW (ag 1) (ag 0)) (ae (aB bW (ag 2) (ag 0)) (ae (aB aN (aB bW (ag 3) (ag 0)) (fC (.int 0))) (ae (aB aN (aB bW (ag 3) (ag 0)) (fC (.int 1))) ah)))))) ah))))))))
abbrev Cq:List D->Dm D:=gS 8 Jb
abbrev Gd:Stmt:=top 29
def Bb:aD ["floor","most","forms","words","leads","place","s","t"] ["floor","most"] (au Gd):=by walk
include fu gx dk fz in
def XX(D:oU K mg "chart_of" Gd ["floor","most"] [V.int 60] f fd)(T:Txt mg){nC:V}(lS:uV K mg "QUARTER" nC (.tup [(.str "t"),(.int 1)])){qU:V}(ph:uV K mg "SHEAR" qU (.tup [(.str "s"),(.int 1)])){aG cI:Addr}(Z:XF K mg aG cI){dI:FuncData}(GI:aJ P w K mg base b6 1 cI dI ["self","most"] (ui K "most"))(BI:Binds K dI ["self","most"] []):aJ P w K mg base (rF P w) 8 f fd ["floor","most"] (x8 K 2 Cq):=by
 refine D.F.Ou Bb (λ_ _ _ _ h=>h.1) (λc A o s H v Q E hr h=>?_);refine⟨_,((2>>=Bb>>=(@kF _ _ _ _ (cE gx fu hr ∅ rfl (pv 0<|av)<|av)))<|>(3>>=Bb>>=(@kF _ _ _ _ ((@iQ _ _ _ _ _ av)<|av)))<|>(4>>=Bb>>=(@kF _ _ _ _ av))<|>BJ PassesOwn.leaving (eh xc (fA jE (by rfl) T.bp jF (pv 4<|av)) (fA jE (by rfl) T.bp jF (pv 2<|av)) (aK _)) ((eh uU (fA jE (by rfl) T.bp jF (pv 2<|av)) (pv 1) (aK _)<*>(~~~TV (TU PySem.F.excBase_ValueError ⟨Z.oz,Z.dZ,Z.gk,Z.gn⟩ GI (hr.mono ∅) rfl BI (pv 1<|av)))<*>iT)<|>(5>>=Bb>>=fA jE (by rfl) T.bp jF (pv 4<|av))<|>(6>>=Bb>>=cE fz dk hr ∅ rfl (pv 2<|pv 3<|pv 5<|P0 ph rfl rfl ∅<|av))<|>(7>>=Bb>>=cE fz dk hr ∅ rfl (pv 2<|pv 3<|pv 5<|P0 lS rfl rfl ∅<|av))<|>(~~~pB (nF PySem.F.plainAttrs_list PySem.F.slot_list_append PySem.F.type_list_append pC (pv 4) ((@iQ _ _ _ _ _ (pv 6<|pv 7<|av))<|av))))<|>(~~~(@dP _ _ _ _ (fY n8 (by rfl) T.a8 mD (sy (own:=["k"]) (fr:=["forms","words","leads"]) (js:=[2,3,4]) rfl ⟨⟨rfl,by w_fin,by w_fin,by dsimp only[dY,aT,Cx.oM,Cx.wish,PyProof.Rows.envOfC,compEnvC,relabel,Env.kindOf];decide +kernel,by w_fin⟩,rfl⟩ (pP rfl T.aS (fA jE (by rfl) T.bp jF (pv 2<|av)<|av)) (λ_ _ _ _ _=>(dX (i:=0) (show((["k"]:List Str) ++ (["forms","words","leads"]:List Str)).Nodup by w_fin) rfl (by w_up))) (λ_ _ _ _ _=>su) (λ_ _ _ _ _=>(@iQ _ _ _ _ _ ((uW (K:=K) rfl<*pv 1<*pv 0)<|(uW (K:=K) rfl<*pv 2<*pv 0)<|(vN (K:=K) rfl<*(uW (K:=K) rfl<*pv 3<*pv 0)<*aO)<|(vN (K:=K) rfl<*(uW (K:=K) rfl<*pv 3<*pv 0)<*aO)<|av)))<|av))))),?_⟩
 exact Qh (b:=Jb) (vo (uH (bU (kH (ao (cB (F:=A8) (ao (ai 0) ax) pM) ax)) (aW 2)))
  (vo (uH (bU (kH (ao (jH ax) ax)) (aW 3)))
  (vo (uH (bU (kH ax) (aW 4)))
  (vo (WM (dW (aE xP (bM jI (ao (ai 4) ax)) (bM jI (ao (ai 2) ax)))) (vo (WB (dW (aE vf (bM jI (ao (ai 2) ax)) (ai 1))) (WN (ao (ai 1) ax) pM Z.dh Z.kZ Z.nz Z.gp Z.gq) (uH iY))
  (vo (uH (bU (bM jI (ao (ai 4) ax)) (aW 5)))
  (vo (uH (bU (cB (F:=Ba) (ao (ai 2) (ao (ai 3) (ao (ai 5) (ao (P1 ph) ax)))) LP) (aW 6)))
  (vo (uH (bU (cB (F:=Ba) (ao (ai 2) (ao (ai 3) (ao (ai 5) (ao (P1 lS) ax)))) LP) (aW 7)))
  (uH (pK (mG pJ (ai 4) (ao (jH (ao (ai 6) (ao (ai 7) ax))) ax)))))))))
  (uH (dS (bM nS (ao (qO (pY (ao (bM jI (ao (ai 2) ax)) ax)) (aW 0) sL (jH (ao (aE iW (ai 1) (ai 0)) (ao (aE iW (ai 2) (ai 0)) (ao (aE cX (aE iW (ai 3) (ai 0)) (aQ _)) (ao (aE cX (aE iW (ai 3) (ai 0)) (aQ _)) ax)))))) ax)))))))) rfl h
variable {ky:Addr}{kz:FuncData}(d6:oU K mg "chart_of" Gd ["floor","most"] [V.int 60] ky kz)(kA:aJ P w K mg base (rF P w) 8 ky kz ["floor","most"] (x8 K 2 Cq))
abbrev Jc:aj->Dm Fl :=
 (ay (aH (cG ah) (hName 2))
 (ay (aH (aM wG (ae (ag 0) (ae (fC (.int 0)) ah))) (hName 3))
 (ay (aH (aM A7 (ae (ag 0) (ae (fC (.int 0)) ah))) (hName 4))
 (ay (de (b8 (ae (aM b7 (ae (aB aN (ag 1) (fC (.int 0))) ah)) ah)) (hName 5) (dN (aA (aB (gO false) (aM wG (ae (ag 1) (ae (ag 5) ah))) (ag 3))) (cc (jK "list" aU (ag 2) (ae (aM qT (ae (ag 4) (ae (aM A6 (ae (ag 1) (ae (ag 5) ah))) ah))) ah))) aR))
 (aX (aM l8 (ae (ag 2) ah)))))))
abbrev Ge:List D->Dm D:=gS 6 Jc
abbrev Gf:Stmt:=top 16
def Gg:aD ["one","other","told","numbered","numbering","s"] ["one","other"] (au Gf):=by walk
include bI bT bR cb bq bK bj bF in
def XY(D:Def K mg "callings" Gf ["one","other"] f fd)(T:Txt mg):aJ P w K mg base b6 4 f fd ["one","other"] (cu K 2 Ge):=by
 refine D.F.ok Gg (λ_ _ _ _ h=>h.1) (λc A o s H v Q E hr h=>?_);have hu:=hr.units;refine⟨_,((2>>=Gg>>=(@kF _ _ _ _ av))<|>(3>>=Gg>>=cE bF bj hr ∅ rfl (pv 0<|aO<|av))<|>(4>>=Gg>>=cE bK bq hr ∅ rfl (pv 0<|aO<|av))<|>(pP rfl T.aS (fA jE (by rfl) T.bp jF ((du<*pv 1<*aO)<|av)<|av)&&&(dX (i:=5) Gg.nd rfl (by w_up))&&&(~~~(eh (G3 hu) (cE bF bj hr ∅ rfl (pv 1<|pv 5<|av)) (pv 3) (aK _)<*>(~~~pB (nF PySem.F.plainAttrs_list PySem.F.slot_list_append PySem.F.type_list_append pC (pv 2) (cE bT bI hr ∅ rfl (pv 4<|cE cb bR hr ∅ rfl (pv 1<|pv 5<|av)<|av)<|av)))<*>iT)))<|>(~~~(@dP _ _ _ _ (fA (Tj hu) (by rfl) T.qc Np (pv 2<|av))))),?_⟩
 exact jL (b:=Jc) (a9 (bU (kH ax) (aW 2))
  (a9 (bU (cB (F:=wG) (ao (ai 0) (ao (aQ _) ax)) fg) (aW 3))
  (a9 (bU (cB (F:=A7) (ao (ai 0) (ao (aQ _) ax)) fg) (aW 4))
  (a9 (mv (pY (ao (bM jI (ao (aE cX (ai 1) (aQ _)) ax)) ax)) (aW 5) (iJ (dW (aE (xQ false) (cB (F:=wG) (ao (ai 1) (ao (ai 5) ax)) fg) (ai 3))) (pK (mG pJ (ai 2) (ao (cB (F:=qT) (ao (ai 4) (ao (cB (F:=A6) (ao (ai 1) (ao (ai 5) ax)) fg) ax)) fg) ax))) iY))
  (dS (bM Wx (ao (ai 2) ax))))))) rfl h
variable {kC:Addr}{kD:FuncData}(iP:Def K mg "callings" Gf ["one","other"] kC kD)(kE:aJ P w K mg base b6 4 kC kD ["one","other"] (cu K 2 Ge))
abbrev Jd:aj->Dm Fl :=
 (ay (rY Cq (ae (ag 0) (ae (ag 2) ah)) 3)
 (ay (rX (de (cZ (ag 3)) (hName 4) (ay (aH (aB aN (ag 4) (fC (.int 1))) (hName 5))
 (ay (aH (aM Ge (ae (aM A9 (ae (ag 0) (ae (ag 5) ah))) (ae (ag 1) ah))) (hName 6))
 (dN (aA (aB sE (aM b7 (ae (ag 6) ah)) (fC (.int 0)))) (aX (bS (ae (fC (.str "led")) (ae (ag 5) (ae (aB bW (ag 6) (fC (.int 0))) ah))))) aR)))))
 (rX (aX (bS (ae (fC (.str "apart")) (ae (ag 3) ah)))))))
abbrev Bc:List D->Dm D:=gS 7 Jd
abbrev Gh:Stmt:=top 32
def Gi:aD ["one","other","most","chart","row","word","found"] ["one","other","most"] (au Gh):=by walk
include hV jv d6 kA iP kE in
def XZ(D:oU K mg "meet" Gh ["one","other","most"] [V.int 60] f fd)(T:Txt mg):aJ P w K mg base (rF P w) 9 f fd ["one","other","most"] (x8 K 3 Bc):=by
 refine D.F.Ou Gi (λ_ _ _ _ h=>h.1) (λc A o s H v Q E hr h=>?_);refine⟨_,((3>>=Gi>>=MU kA (hr.mono ∅) rfl d6.m d6.F.kp d6.b .nil zc (pv 0<|pv 2<|av))<|>(@MH _ _ _ _ _ _ _ _ PassesOwn.leaving rfl (qv (pv 3)) (dX (i:=4) Gi.nd rfl (by w_up)) ((5>>=Gi>>=(du<*pv 4<*aO))<|>(6>>=Gi>>=cE kE iP hr ∅ rfl (cE jv hV hr ∅ rfl (pv 0<|pv 5<|av)<|pv 1<|av))<|>(~~~(eh uU (fA jE (by rfl) T.bp jF (pv 6<|av)) aO (aK _)<*>(~~~(@dP _ _ _ _ (@iQ _ _ _ _ _ (nY<|pv 5<|(lA<*pv 6<*aO)<|av))))<*>iT))) (by intro _;rfl))<|>(~~~(@dP _ _ _ _ (@iQ _ _ _ _ _ (nY<|pv 3<|av))))),?_⟩
 exact Qh (b:=Jd) (vo (WY (F:=Cq) (ao (ai 0) (ao (ai 2) ax)) fg)
  (vo (uH (mv (qz (ai 3)) (aW 4) (a9 (bU (aE cX (ai 4) (aQ _)) (aW 5))
  (a9 (bU (cB (F:=Ge) (ao (cB (F:=A9) (ao (ai 0) (ao (ai 5) ax)) fg) (ao (ai 1) ax)) fg) (aW 6))
  (iJ (dW (aE vf (bM jI (ao (ai 6) ax)) (aQ _))) (dS (jH (ao (pI _) (ao (ai 5) (ao (aE iW (ai 6) (aQ _)) ax))))) iY)))))
  (uH (dS (jH (ao (pI _) (ao (ai 3) ax))))))) rfl h
variable {r9:Addr}{sd:FuncData}(kO:oU K mg "meet" Gh ["one","other","most"] [V.int 60] r9 sd)(qd:aJ P w K mg base (rF P w) 9 r9 sd ["one","other","most"] (x8 K 3 Bc))
abbrev Je:aj->Dm Fl :=
 (ay (aH (fC .non) (hName 3))
 (ay (wu (dN (aA (aB (p7 false) (ag 2) (fC .non))) (l9 (.str "told") (λas=>Bc (as ++ [.int 60])) (ae (ag 0) (ae (ag 1) ah)) 3) (l9 (.str "told") Bc (ae (ag 0) (ae (ag 1) (ae (ag 2) ah))) 3)) (o7 "TooMany") 4 (aH (bS (ae (fC (.str "refused")) (ae (p9 (o7 "TooMany") "most" (ag 4)) ah))) (hName 3)))
 (aX (ag 3))))
abbrev Bd:List D->Dm D:=gS 5 Je
abbrev Gj:Stmt:=top 49
def Cr:aD ["_law_one","_law_other","_law_most","_law_found","e"] ["_law_one","_law_other","_law_most"] (au Gj):=by walk
include kO qd in
def X0(D:Def K mg "_law_told" Gj ["_law_one","_law_other","_law_most"] f fd)(T:Txt mg){aG cI:Addr}(Z:XF K mg aG cI):aJ P w K mg base b6 10 f fd ["_law_one","_law_other","_law_most"] (cu K 3 Bd):=by
 refine D.F.ok Cr (λ_ _ _ _ h=>h.1) (λc A o s H v Q E hr h=>?_);refine⟨_,((3>>=Cr>>=BE)<|>(Uh (i:=4) (F:=aG) Z.oz Z.dZ ∅ rfl Cr.nd rfl rfl (λpins W=>(~~~(eh PL (pv 2) BE (aK _)<*>(~~~(3>>=Cr>>=(@iQ _ _ _ _ _ (nY<|Ud qd (hr.mono ∅) rfl kO.m kO.F.kp kO.bd (pv 0<|pv 1<|av)<|av))))<*>(~~~(3>>=Cr>>=(@iQ _ _ _ _ _ (nY<|Tw qd (hr.mono ∅) rfl kO.m kO.F.kp kO.b (pv 0<|pv 1<|pv 2<|av)<|av))))))) (λa=>(~~~(3>>=Cr>>=(@iQ _ _ _ _ _ (nY<|Ug (K:=K) rfl (pv 4) (by rfl)<|av))))))<|>(~~~(@dP _ _ _ _ (pv 3)))),?_⟩
 exact jL (b:=Je) (a9 (bU B0 (aW 3))
  (a9 (AU (AZ (dW (aE (Lw false) (ai 2) B0)) (WW (F:=Bc) (mC:=[V.int 60]) (HR:=[.int 60]) (λ_ _=>.str _) (ao (ai 0) (ao (ai 1) ax)) fg ∅ (λ_ _=>(.cons (.int _) .nil))) (WX (F:=Bc) (λ_ _=>.str _) (ao (ai 0) (ao (ai 1) (ao (ai 2) ax))) Ce)) (bU (jH (ao (pI _) (ao (WH (ai 4) (WL (R:=λC=>xB K C/\PySem.W.findIn K (.ref C) "most" = some none) Z.dh ⟨Z.md,Z.nA⟩)) ax))) (aW 3)) (WD Z.dh Z.iM))
  (dS (ai 3)))) rfl h
variable {jw:Addr}{jx:FuncData}(d7:Def K mg "_law_told" Gj ["_law_one","_law_other","_law_most"] jw jx)(gB:aJ P w K mg base b6 10 jw jx ["_law_one","_law_other","_law_most"] (cu K 3 Bd))
abbrev Jf:aj->Dm Fl :=
 (ay (aH (cG ah) (hName 1))
 (ay (de (oZ (ae (fC (.int 1)) (ae (aB gj (fC (.int 2)) (aM b7 (ae (zD sG (ag 0) (mq (fC (.int 1))) (mq (fC (.int 2)))) ah))) ah))) (hName 2) (ay (aH (aM E9 (ae (ag 0) (ae (ag 2) ah))) (hName 3))
 (ay (aH (aM lJ (ae (ag 3) (ae (fC (.int 4)) ah))) (hName 4))
 (ay (aH (aM Fv (ae (ag 3) ah)) (ni 4 (cR (hName 5) (cR (hName 6) (cR (hName 7) (cR (hName 8) nU))))))
 (ay (aH (aM yc (ae (ag 5) (ae (aM Fz (ae (ag 3) (ae (fC (.int 6)) (ae (fC (.int 5)) ah)))) ah))) (hName 9))
 (ay (aH (aM yd (ae (ag 9) (ae (aM wA (ae (ag 3) (ae (aM b7 (ae (aB aN (ag 5) (fC (.int 0))) ah)) ah))) ah))) (hName 9))
 (ay (dN (aA (aB sE (ag 4) (fC (.int 1)))) (aH (aM A2 (ae (ag 3) (ae (aB bW (cG (ae (aM b7 (ae (aB aN (ag 5) (fC (.int 0))) ah)) (ae (aB gj (fC (.int 1)) (aM lJ (ae (ag 3) (ae (fC (.int 6)) ah)))) ah))) (aB mz (ag 4) (fC (.int 2)))) ah))) (hName 9)) aR)
 (cc (jK "list" aU (ag 1) (ae (bS (ae (ag 5) (ae (ag 9) (ae (ag 6) (ae (ag 8) ah))))) ah))))))))))
 (ay (de (jT (ag 1)) (ni 4 (cR (hName 5) (cR (hName 9) (cR (hName 6) (cR (hName 8) nU))))) (ay (de (jT (ag 8)) (hName 10) (dN (kU (aA (aM A5 (ae (ag 5) (ae (ag 9) (ae (ag 6) (ae (ag 10) (ae (aM Bd (ae (ag 5) (ae (ag 9) (ae (ag 10) ah)))) ah)))))))) (aX (fC (.bl false))) aR))
 (dN (kU (aA (aM A5 (ae (ag 5) (ae (ag 5) (ae (ag 6) (ae (aB bW (ag 8) (fC (.int 0))) (ae (aM Bd (ae (ag 5) (ae (ag 5) (ae (aB bW (ag 8) (fC (.int 0))) ah)))) ah)))))))) (aX (fC (.bl false))) aR)))
 (aX (fC (.bl true))))))
abbrev LW:List D->Dm D:=gS 11 Jf
abbrev Jg:Stmt:=top 52
def qe:aD ["_law_script","_law_asked","_law_k","_law_feed_here","_law_form_here","_law_one","_law_due","_law_many","_law_mosts","_law_other","_law_most"] ["_law_script"] (au Jg):=by walk
include gu ja aI aL bA bP cq cK c4 eN di d5 cN df gw jk dj ft d7 gB in
def Be(D:Def K mg "law" Jg ["_law_script"] f fd)(T:Txt mg):aJ P w K mg base b6 11 f fd ["_law_script"] (cu K 1 LW):=by
 refine D.F.ok qe (λ_ _ _ _ h=>h.1) (λc A o s H v Q E hr h=>?_);refine⟨_,((1>>=qe>>=(@kF _ _ _ _ av))<|>(Rz rfl T.aS (aO<|cT nJ aO (fA jE (by rfl) T.bp jF (GY JQ (pv 0) (C5 aO) (C5 aO)<|av))<|av)&&&(dX (i:=2) qe.nd rfl (by w_up))&&&((3>>=qe>>=cE ja gu hr ∅ rfl (pv 0<|pv 2<|av))<|>(4>>=qe>>=cE aL aI hr ∅ rfl (pv 3<|aO<|av))<|>w6 (cE eN c4 hr ∅ rfl (pv 3<|av)) (wZ (n:=4) rfl (n4 (dX (i:=5) qe.nd rfl (by w_up)) (n4 (dX (i:=6) qe.nd rfl (by w_up)) (n4 (dX (i:=7) qe.nd rfl (by w_up)) (n4 (dX (i:=8) qe.nd rfl (by w_up)) wY)))))<|>(9>>=qe>>=cE d5 di hr ∅ rfl (pv 5<|cE jk gw hr ∅ rfl (pv 3<|aO<|aO<|av)<|av))<|>(9>>=qe>>=cE df cN hr ∅ rfl (pv 9<|cE bP bA hr ∅ rfl (pv 3<|fA jE (by rfl) T.bp jF ((du<*pv 5<*aO)<|av)<|av)<|av))<|>(eh uU (pv 4) aO (aK _)<*>(~~~(9>>=qe>>=cE cK cq hr ∅ rfl (pv 3<|(lA<*(@kF _ _ _ _ (fA jE (by rfl) T.bp jF ((du<*pv 5<*aO)<|av)<|cT nJ aO (cE aL aI hr ∅ rfl (pv 3<|aO<|av))<|av))<*cT BK (pv 4) aO)<|av)))<*>iT)<|>(~~~pB (nF PySem.F.plainAttrs_list PySem.F.slot_list_append PySem.F.type_list_append pC (pv 1) ((@iQ _ _ _ _ _ (pv 5<|pv 9<|pv 6<|pv 8<|av))<|av)))))<|>(CU (pv 1)&&&wZ (n:=4) rfl (n4 (dX (i:=5) qe.nd rfl (by w_up)) (n4 (dX (i:=9) qe.nd rfl (by w_up)) (n4 (dX (i:=6) qe.nd rfl (by w_up)) (n4 (dX (i:=8) qe.nd rfl (by w_up)) wY))))&&&((CU (pv 8)&&&(dX (i:=10) qe.nd rfl (by w_up))&&&(~~~(vC (vB (cE ft dj hr ∅ rfl (pv 5<|pv 9<|pv 6<|pv 10<|cE gB d7 hr ∅ rfl (pv 5<|pv 9<|pv 10<|av)<|av)))<*>(~~~(@dP _ _ _ _ sT))<*>iT)))<|>(~~~(vC (vB (cE ft dj hr ∅ rfl (pv 5<|pv 5<|pv 6<|(lA<*pv 8<*aO)<|cE gB d7 hr ∅ rfl (pv 5<|pv 5<|(lA<*pv 8<*aO)<|av)<|av)))<*>(~~~(@dP _ _ _ _ sT))<*>iT))))<|>(~~~(@dP _ _ _ _ sT))),?_⟩
 exact jL (b:=Jf) (a9 (bU (kH ax) (aW 1))
  (a9 (mv (Vj (ao (aQ _) (ao (aE nP (aQ _) (bM jI (ao (HA Ld (ai 0) (Ef (aQ _)) (Ef (aQ _))) ax))) ax))) (aW 2) (a9 (bU (cB (F:=E9) (ao (ai 0) (ao (ai 2) ax)) fg) (aW 3))
  (a9 (bU (cB (F:=lJ) (ao (ai 3) (ao (aQ _) ax)) fg) (aW 4))
  (a9 (bU (cB (F:=Fv) (ao (ai 3) ax) pM) (xS (ou (aW 5) (ou (aW 6) (ou (aW 7) (ou (aW 8) xR))))))
  (a9 (bU (cB (F:=yc) (ao (ai 5) (ao (cB (F:=Fz) (ao (ai 3) (ao (aQ _) (ao (aQ _) ax))) Ce) ax)) fg) (aW 9))
  (a9 (bU (cB (F:=yd) (ao (ai 9) (ao (cB (F:=wA) (ao (ai 3) (ao (bM jI (ao (aE cX (ai 5) (aQ _)) ax)) ax)) fg) ax)) fg) (aW 9))
  (a9 (iJ (dW (aE vf (ai 4) (aQ _))) (bU (cB (F:=A2) (ao (ai 3) (ao (aE iW (kH (ao (bM jI (ao (aE cX (ai 5) (aQ _)) ax)) (ao (aE nP (aQ _) (cB (F:=lJ) (ao (ai 3) (ao (aQ _) ax)) fg)) ax))) (aE B1 (ai 4) (aQ _))) ax)) fg) (aW 9)) iY)
  (pK (mG pJ (ai 1) (ao (jH (ao (ai 5) (ao (ai 9) (ao (ai 6) (ao (ai 8) ax))))) ax))))))))))
  (a9 (mv (Er (ai 1)) (xS (ou (aW 5) (ou (aW 9) (ou (aW 6) (ou (aW 8) xR))))) (a9 (mv (Er (ai 8)) (aW 10) (iJ (wb (va (cB (F:=A5) (ao (ai 5) (ao (ai 9) (ao (ai 6) (ao (ai 10) (ao (cB (F:=Bd) (ao (ai 5) (ao (ai 9) (ao (ai 10) ax))) Ce) ax))))) Qq))) (dS (sW _)) iY))
  (iJ (wb (va (cB (F:=A5) (ao (ai 5) (ao (ai 5) (ao (ai 6) (ao (aE iW (ai 8) (aQ _)) (ao (cB (F:=Bd) (ao (ai 5) (ao (ai 5) (ao (aE iW (ai 8) (aQ _)) ax))) Ce) ax))))) Qq))) (dS (sW _)) iY)))
  (dS (sW _))))) rfl h
end
def sO{st:Store}{f:Nat}{n:Int}(hf:bw st f)(h0:0<n)(h1:n<1073741824):Wp (lJ [.ref f,.int n] st) λd st'=>∃k:Int,d=.int k/\0<=k/\k<n/\bw st' f/\Ex [f] st st':=by obtain⟨o,m,e,o0,m0,m1⟩:=hf;have hfl:=eu e;refine iK ?_;show Ws (HV [some (.ref f),some (.int n),none,none] st) _ _ _ _;unfold HV;refine aZ (gL ?_);exists bJ e,kJ e;refine⟨λho=>?_,λho=>?_⟩;refine aZ (bZ ?_);exists bJ e;refine⟨h0,aZ (vk ?_)⟩;exists bJ e,kJ e,(show mO [D.int o,D.int m].length 0=some 0 from ES);refine⟨⟨h0,h1⟩,fG ?_⟩;w_how;refine⟨ZaB _ ⋯,ZaH _ h0,⟨o / n,m,?_,Int.ediv_nonneg o0 ⋯,m0,m1⟩,Ex.refl.put (by simp)⟩;rw[ZI hfl];refine iD (aZ (bZ ?_));exists bJ e;refine⟨by lk,by lk,aZ (vk ?_)⟩;exists bJ e,kJ e,(show mO [D.int o,D.int m].length 1=some 1 from ET);refine⟨by lk,by lk,fG ?_⟩;have e2:(st.set f (.lst [.int o,.int ((m*48271 % 2147483647*40692+30103) % 2147483399+1)]))[f]?=some (.lst [.int o,.int ((m*48271 % 2147483647*40692+30103) % 2147483399+1)]):=ZI hfl;exists bJ e2;refine⟨by lk,by lk,h0,ZaB _ ⋯,ZaH _ h0,⟨_,_,e2,o0,by lk,by lk⟩,Ex.refl.put (by simp)⟩
def X1{st:Store}{a:Nat}{ns:List Int}{k:Nat}(hs:items st a=some (ns.map D.int))(hk:k<=100):Wp (E9 [.ref a,.int (k:Int)] st) λd st'=>d=.ref st.length/\bw st' st.length/\Ex [] st st':=by
 refine iK ?_;show Ws (HU [some (.ref a),some (.int (k:Int)),none,none] st) _ _ _ _;unfold HU;refine aZ (bZ ?_);w_how;refine⟨by lk,aZ (xW (N:=λδ st1=>st1=st/\∃c:Int,δ=[some (.ref a),some (.int (k:Int)),some (.int c),none]) (gL ?_) ?_)⟩;exists hs;refine⟨λh=>bZ ?_,λh=>gL ?_⟩;have h:=of_decide_eq_true h;rw[Zx]at h;exists hs;refine⟨.int (ns[k]'⋯),BL (by rw[ZO,Zy];rfl),_,rfl⟩;exists hs;refine⟨λh=>bZ ?_,λh=>iD ⟨rfl,_,rfl⟩⟩;have h:=of_decide_eq_true h;obtain⟨v,hv,hm⟩:=yZ (xs:=ns.map D.int) (i:=(k:Int) % ((ns.map D.int).length:Int)) (ZaB _ ⋯) (ZaH _ h);obtain⟨c,_,rfl⟩:=ZL.mp hm;exists hs;refine⟨h,_,hv,?_⟩;w_how;exact⟨by lk,by lk,by lk,_,rfl⟩;rintro δ st1 ⟨rfl,c,rfl⟩;refine aZ (bZ ?_);w_how;refine aZ (xW (N:=λδ st2=>st2=st1/\∃o:Int,0<=o/\δ=[some (.ref a),some (.int (k:Int)),some (.int c),some (.int o)]) (gL ?_) ?_);w_how;refine⟨by decide,λh=>bZ ?_,λh=>iD ⟨rfl,0,by decide,rfl⟩⟩;have h:=of_decide_eq_true h;w_how;exact⟨c,Int.le_trans ∅ h,rfl⟩;rintro δ st2 ⟨rfl,o,o0,rfl⟩;refine fG ?_;w_how;have h1:0<=c % 2147483629:=ZaB _ ∅;have h2:c % 2147483629<2147483629:=ZaH _ ∅;refine⟨by lk,by lk,by lk,by lk,by lk,by rfl,⟨_,_,iw,o0,?_,?_⟩,Ex.cj _⟩
 have:=ZaB ((c % 2147483629*48271+40692*(k:Int)) ^ (5:Int).toNat) (show(2147483629:Int)≠0 by decide)
 lk
 have:=ZaH ((c % 2147483629*48271+40692*(k:Int)) ^ (5:Int).toNat) (show(0:Int)<2147483629 by decide)
 lk
def LX{st:Store}{f:Nat}{n:Nat}(hf:bw st f)(hn:n<=100):Wp (wA [.ref f,.int (n:Int)] st) λd st'=>∃xs:List Int,d=.tup (xs.map D.int)/\af.Tn n xs/\bw st' f/\Ex [f] st st':=by
 have hfl:=hf.lt;refine iK ?_;show Ws (HW [some (.ref f),some (.int (n:Int)),none,none] st) _ _ _ _;unfold HW;refine aZ (bZ ?_);w_how;have e1:((n:Int)-0).toNat=n:=by lk
 rw[e1,qA];refine⟨by unfold sI;rw[ZV,decide_eq_true_eq];exact⟨by lk,jV ⋯⟩,aZ (bZ ?_)⟩;w_how;refine⟨rfl,aZ (B7 (λm δ st2=>∃L xs:List Int,m=L.length/\δ=[some (.ref f),some (.int (n:Int)),some (.ref (st ++ [O.iE 0 (n:Int)]).length),some (.tup (xs.map D.int))]/\st2[(st ++ [O.iE 0 (n:Int)]).length]?=some (.lst (L.map D.int))/\(xs ++ L).Perm (af.upto n)/\bw st2 f/\Ex [f] st st2) n (Zav hn ∅) ⟨af.upto n,[],(af.oh n).symm,rfl,iw,Zbe _,hf.keep ((Ex.cj _).app _),(Ex.cj _).app _⟩ ?_)⟩;have hl:(st ++ [O.iE 0 (n:Int)]).length≠f:=by rw[ZH];lk
 have hls:st.length<=(st ++ [O.iE 0 (n:Int)]).length:=by rw[ZH];lk
 generalize (st ++ [O.iE 0 (n:Int)]).length=l at hl hls ⊢;rintro m δ st2 ⟨L,xs,rfl,rfl,hL,pm,hf2,k2⟩;have hlen:(xs ++ L).length=n:=by rw[pm.length_eq,af.oh]
 rw[ZH]at hlen;refine bX ?_;intro cY hQ;exists Lp (L:=L) (M:=[]) (st:=st2 ++ [O.lst []]) (bJ (kg hL)) sM;refine⟨rfl,hQ _ _ ⟨λh=>?_,λh=>?_⟩⟩;have hne:L≠[]:=by simpa using h
 have hpos:0<L.length:=Zby.mpr hne;have Jh:(st2 ++ [O.lst []])[l]?=some (.lst (L.map D.int)):=kg hL;have f3:bw (st2 ++ [O.lst []]) f:=hf2.keep (Ex.cj _);have k3:Ex [f] st (st2 ++ [O.lst []]):=k2.app _;generalize (st2 ++ [O.lst []])=st3 at Jh f3 k3 ⊢;refine bZ ?_;refine bX ?_;intro cY hQ;exists bJ Jh;refine⟨nu (by rw[bJ Jh];rfl),?_⟩;refine bg (sO (n:=((L.map D.int).length:Int)) f3 (by rw[Zx];lk) (by rw[Zx];lk)) ?_;rintro d kh ⟨k,rfl,k0,k1,f4,k4⟩;rw[Zx]at k1;have Qu:=k4.keep _ _ Jh (by simpa using hl);have nK:k.toNat<L.length:=by lk
 exists kJ Qu;have hk':((k.toNat:Nat):Int)=k:=Z0 k0;refine⟨by lk,k.toNat,?_,D.int L[k.toNat],by rw[ZO,Zy nK];rfl,rfl,jV ?_,hQ _ _ ⟨(L.eraseIdx k.toNat).length,?_,L.eraseIdx k.toNat,xs ++ [L[k.toNat]],rfl,?_,?_,?_,?_,?_⟩⟩;rw[<- hk',ZP];exact(JP (BP (by rw[Zx];exact nK))).1;simp only[Zx,Z2,Za8];lk;rw[List.length_eraseIdx,if_pos nK];lk;rw[ZS];rfl;rw[ZI (eu Qu),Wc];refine List.Perm.trans ?_ pm;rw[Zba];exact List.Perm.append_left xs (Wd nK);exact f4.ne hl;exact(k3.trans k4).loc hls;have he:L=[]:=by simpa using h
 subst he;refine fG ?_;kspl_open hQ;exact hQ _ _ ⟨xs,rfl,by simpa[af.Tn]using pm,hf2.keep (Ex.cj _),k2.app _⟩
def X2{st:Store}{xs ys:List Int}{n:Nat}(tx:af.Tn n xs)(ty:af.Tn n ys)(n0:0<n)(hn:n<=100):Wp (wB [bO xs ys] st) λd st'=>∃(g:Nat) (F:List Int),d=.ref g/\items st' g=some (F.map D.int)/\(∀x,x∈F↔af.jO xs ys x)/\F.length<=n/\af.Od xs ys F/\Ex [] st st':=by
 have hlx:=tx.length;have Cs:=ty.length;refine iK ?_;show Ws (HY [some (bO xs ys),none,none,none,none] st) _ _ _ _;unfold HY;refine aZ (bZ ?_);kspl_open hQ;refine⟨rfl,hQ _ _ (aZ (nt (aC 0 (n+1)) (λi δ st2=>∃(v2 v3 v4:Option D) (F:List Int),δ=[some (bO xs ys),some (.ref st.length),v2,v3,v4]/\st2[st.length]?=some (.lst (F.map D.int))/\af.Fo xs ys F/\(af.Cl xs ys F\/i+1<=F.length)/\Ex [] st st2) ?_ ?_ ?_ ?_))⟩;unfold bO;kspl_open hQ;have e0:((1:Int)+((xs.map D.int).length:Int)).toNat=n+1:=by rw[Zx];lk
 refine⟨by rw[Zx];lk,hQ _ _ ⟨by rw[e0],none,none,none,[0],rfl,iw,af.Fo.one xs ys,.inr (ZA _),Ex.cj _⟩⟩;rw[gP];lk;rintro i d δ st2 hd ⟨v2,v3,v4,F,rfl,LY,hF,hcl,k2⟩;kspl_open hQ
 refine hQ _ _ (nt [.tup (xs.map D.int),.tup (ys.map D.int)] (λm δ st3=>∃ (v3 v4:Option D) (G:List Int),δ=[some (bO xs ys),some (.ref st.length),some d,v3,v4]/\st3[st.length]?=some (.lst (G.map D.int))/\af.Fo xs ys G /\
   (m=0->G=F)/\(m=1->F <+: G/\∀x∈F,af.app xs x∈G)/\(2<=m->∃F1,F <+: F1/\F1 <+: G/\(∀x∈F,af.app xs x∈F1)/\∀x∈F1,af.app ys x∈G)/\Ex [] st st3) ?_ (by simp) ?_ ?_)
 unfold bO;kspl_open hQ;exact hQ _ _ ⟨rfl,v3,v4,F,rfl,LY,hF,λ_=>rfl,λz=>by lk,λz=>by lk,k2⟩;rintro m z δ st3 hm ⟨v3,v4,G,rfl,Gk,hG,m0,m1,_,k3⟩;have hm2:m<2:=eu hm;obtain⟨zs,rfl,hz,em⟩:∃(zs:List Int),z=.tup (zs.map D.int)/\(zs=xs\/zs=ys)/\((m=0/\zs=xs)\/(m=1/\zs=ys)):=by
  rcases(show m=0\/m=1 by lk)with rfl|rfl
  exact⟨xs,by simpa using hm.symm,.inl rfl,.inl ⟨rfl,rfl⟩⟩;exact⟨ys,by simpa using hm.symm,.inr rfl,.inr ⟨rfl,rfl⟩⟩
 have tz:af.Tn n zs:=by rcases hz with rfl|rfl;exact tx;exact ty
 have LZ:=tz.length;have go:∀x,af.jO xs ys x->af.jO xs ys (af.app zs x):=λx h=>by rcases hz with rfl|rfl;exact h.r;exact h.u
 kspl_open hQ;refine hQ _ _ (HG (G.map D.int) st3.length (λj δ kh=>∃(v4:Option D) (G':List Int),δ=[some (bO xs ys),some (.ref st.length),some d,some (.tup (zs.map D.int)),v4]/\kh[st.length]?=some (.lst (G'.map D.int))/\kh[st3.length]?=some (.lst (G.map D.int))/\af.Fo xs ys G'/\G <+: G'/\(∀i',i' < j->∀x,G[i']?=some x->af.app zs x∈G')/\Ex [] st kh) ?_ ?_ ?_ ?_ ?_);refine bX ?_;intro cY hQ;exists bJ Gk;exact hQ _ _ ⟨rfl,v4,G,rfl,kg Gk,iw,hG,Zbh _,λi' h=>absurd h (Zaf _),k3.app _⟩;rw[Zx]
 have:=hG.len tx ty n0;lk
 rintro j δ kh ⟨_,_,_,_,h,_⟩;exact bJ h;rintro j Zi δ kh hj0 ⟨v4,G',rfl,Bf,tj,Bg,pG,hd',k4⟩;obtain⟨y,hj,rfl⟩:=EU hj0;have hjl:=eu hj;have hR:=hG.mt _ (ZF hj);obtain⟨y0,y1⟩:=hR.bound tx ty n0;have at':=qQ (xs:=zs) y0 (by rw[LZ];exact y1);have hnext:∀Ji:List Int,G' <+: Ji->af.app zs y∈Ji->∀i',i' < j+1->∀x,G[i']?=some x->af.app zs x∈Ji:=λJi p h i' hi' x hx=>by
  by_cases e:i'=j;subst e;rw[hj]at hx;cases hx;exact h;exact p.subset (hd' i' ⋯ x hx)
 kspl_open hQ;refine hQ _ _ (gL ?_);refine bX ?_;intro iy b5;exists at',HK (st:=kh) (c:=.ref st.length) (ns:=G') (bJ Bf);refine b5 _ _ ⟨λhcn=>?_,λhcn=>?_⟩;have hnm:af.app zs y ∉ G':=λz=>by rw[Zap.mpr z]at hcn;cases hcn
 have Qv:af.Fo xs ys (G' ++ [af.app zs y]):=by
  refine⟨⟨ZaL _ Bg.z,?_,λx hx=>?_⟩,Bg.od.snoc (pG.subset (ZF hj)) (hz.imp (λe=>by rw[e]) λe=>by rw[e])⟩;rw[Zbn];refine⟨Bg.nd,by simp,λx hx y' hy e=>hnm ?_⟩;have e2:y'=af.app zs y:=by simpa using hy
  rw[<- e2,<- e];exact hx;rcases Z6.mp hx with h|h
  exact Bg.mt x h;have e2:x=af.app zs y:=by simpa using h
  rw[e2];exact go _ hR
 have hlen2:=Qv.len tx ty n0;rw[ZH]at hlen2;refine pL ?_;refine bX ?_;intro Bh qV;exists at',kJ Bf;refine⟨nu (by rw[bJ Bf];rfl),jV (by rw[Zx];simp at hlen2;lk),qV _ _ ⟨_,G' ++ [af.app zs y],rfl,?_,?_,Qv,pG.trans (ZbD _ _),hnext _ (ZbD _ _) (by simp),k4.loc (ZA _)⟩⟩;rw[ZI (eu Bf),ZS];rfl;rw[ZJ (by have:=eu Gk;lk)];exact tj;have hcn:G'.contains (af.app zs y)=true:=by simpa using hcn
 exact iD ⟨_,G',rfl,Bf,tj,Bg,pG,hnext G' (Zbh _) (Zap.mp hcn),k4⟩;rintro δ kh ⟨v4,G',rfl,Bf,tj,Bg,pG,hd',k4⟩;rw[Zx]at hd';have hall:∀x∈G,af.app zs x∈G':=λx hx=>by
  obtain⟨i',hi',e⟩:=ZaO hx;exact hd' i' hi' x (by rw[Zy hi',e])
 refine⟨_,_,G',rfl,Bf,Bg,λz=>by lk,λz=>?_,λz=>?_,k4⟩;rcases em with⟨rfl,rfl⟩|⟨rfl,_⟩
 have:=m0 rfl
 subst this;exact⟨pG,hall⟩;lk;rcases em with⟨rfl,_⟩|⟨rfl,rfl⟩
 lk;obtain⟨p1,c1⟩:=m1 rfl;exact⟨G,p1,pG,c1,hall⟩;rintro δ st3 ⟨v3,v4,G,rfl,Gk,hG,_,_,m2,k3⟩;obtain⟨F1,p1,p2,c1,c2⟩:=m2 (ZA 2);exact⟨_,_,_,G,rfl,Gk,hG,af.round hF.toFd hG.toFd p1 p2 c1 c2 hcl,k3⟩;rintro δ st2 ⟨v2,v3,v4,F,rfl,LY,hF,hcl,k2⟩;rw[gP]at hcl;have hl:=hF.len tx ty n0;have hc:af.Cl xs ys F:=hcl.resolve_right ⋯;refine fG ?_;kspl_open hQ;exact hQ _ _ ⟨_,F,rfl,bJ LY,λx=>⟨hF.mt x,λh=>hc.all hF.z h⟩,hl,hF.od,k2⟩
def X3{st:Store}{xs ys:List Int}{n:Nat}(tx:af.Tn n xs)(ty:af.Tn n ys)(n0:0<n)(hn:n<=100):Wp (wB [bO xs ys] st) λd st'=>∃(g:Nat) (F:List Int),d=.ref g/\items st' g=some (F.map D.int)/\(∀x,x∈F↔af.jO xs ys x)/\F.length<=n/\Ex [] st st' :=
 bg (X2 tx ty n0 hn) λd st' ⟨g,F,h1,h2,h3,h4,_,h5⟩=>⟨g,F,h1,h2,h3,h4,h5⟩
def Qw{st:Store}{δ:aj}{X Y:List Int}{n:Nat}{Q:D->Store->Prop}(tX:af.Tn n X)(tY:af.Tn n Y)(n0:0<n)(hn:n<=100)(h1:δ[1]?=some (some (.int (n:Int))))(h6:δ[6]?=some (some (bO X Y)))
  (q:∀(L:List Int) (st':Store),L.length<=n->L.Nodup->(∀x,x∈L↔(0<=x/\x<(n:Int)/\¬af.jO X Y x))->Ex [] st st'->Q (.ref st'.length) (st' ++ [.lst (L.map D.int)])) :
  Wp (cS (b8 (ae (ag 1) ah)) 1 [6] (hName 0) (aA (aB (sX true) (ag 0) (aM wB (ae (ag 1) ah)))) (ag 0) δ st) Q:=by
 have X4:δ.getD 6 none=some (bO X Y):=by rw[ZG,h6];rfl
 refine Pk (aC 0 n) (λj zs δ' o6=>∃(v:Option D) (L:List Int),δ'=[v,some (bO X Y)]/\zs=L.map D.int/\L.length<=j/\L.Nodup/\(∀x,x∈L↔(0<=x/\x<(j:Int)/\¬af.jO X Y x))/\Ex [] st o6) ?_ (by rw[gP];lk) ?_ ?_ ?_;refine bX ?_;intro cY hQ;exists h1;refine⟨by lk,hQ _ _ ⟨λi ys δ st hi _=>?_,none,[],?_,rfl,ZA _,List.nodup_nil,λx=>⟨(λh=>nomatch h),λh=>by lk⟩,Ex.refl⟩⟩;rw[ZP];show(if i<=(aC 0 n).length then some (aC 0 n)[i]? else none)=_;rw[if_pos hi];unfold pZ;simp only[ZT,Zag,X4];rfl;rintro j zs δ' o6 ⟨v,L,_,rfl,hl,_⟩;rw[Zx];exact hl;rintro j d zs δ' o6 hd ⟨v,L,rfl,rfl,nH,nd,hL,k8⟩;have hjl:=eu hd;rw[gP]at hjl;rw[xT hjl]at hd;cases hd;rw[ZaU];kspl_open hQ;refine hQ _ _ ?_;kspl_open b5;refine bg (X3 (st:=o6) tX tY n0 hn) ?_;rintro d qP ⟨g,F,rfl,hg,hF,Zj,k9⟩;rw[HK (c:=.ref g) (ns:=F) hg];refine⟨_,rfl,b5 _ _ ⟨λhc=>?_,λhc=>?_⟩⟩;have hR:¬af.jO X Y (j:Int):=λh=>by rw[Zap.mpr ((hF _).mpr h)]at hc;cases hc
 kspl_open qV;refine qV _ _ ⟨_,L ++ [(j:Int)],rfl,by rw[ZS];rfl,by rw[ZH];simp;lk,?_,λx=>?_,k8.trans k9⟩;rw[Zbn];refine⟨nd,by simp,λx hx y hy e=>?_⟩;have e2:y=(j:Int):=by simpa using hy
 have:=((hL x).mp hx).2.1;lk
 rw[Z6,hL x];constructor;rintro(⟨a1,a2,a3⟩|h);exact⟨a1,by lk,a3⟩;have e2:x=(j:Int):=by simpa using h
 rw[e2];exact⟨by lk,by lk,hR⟩;rintro⟨a1,a2,a3⟩;rcases Int.lt_or_le x (j:Int)with h|h
 exact .inl ⟨a1,h,a3⟩;exact .inr (by simp;lk);have hc:F.contains (j:Int)=true:=by simpa using hc
 have hR:=(hF _).mp (Zap.mp hc);refine⟨_,L,rfl,rfl,by lk,nd,λx=>?_,k8.trans k9⟩;rw[hL x];constructor;rintro⟨a1,a2,a3⟩;exact⟨a1,by lk,a3⟩;rintro⟨a1,a2,a3⟩;refine⟨a1,?_,a3⟩;rcases Int.lt_or_le x (j:Int)with h|h
 exact h;exact absurd hR (by rw[show(j:Int)=x by lk];exact a3);rintro zs δ' o6 ⟨v,L,rfl,rfl,nH,nd,hL,k8⟩;rw[gP]at nH hL;exact q L o6 nH nd hL k8
def Qx{st:Store}{f n:Nat}(hf:bw st f)(n1:1<=n)(X5:n<=20):Wp (A2 [.ref f,.int (n:Int)] st) λd st'=>∃xs ys:List Int,d=bO xs ys/\mH n xs ys/\bw st' f/\Ex [f] st st':=by
 have hfl:=hf.lt;refine iK ?_;show Ws (HZ [some (.ref f),some (.int (n:Int)),none,none,none,none,none,none,none] st) _ _ _ _;unfold HZ;refine aZ (bZ ?_);kspl_open hQ;refine bg (sO (n:=6) hf ∅ ∅) ?_;rintro d st1 ⟨form,rfl,g0,g6,f1,k1⟩;refine hQ _ _ (aZ (Pj ?_));clear hQ;kspl_open hQ;refine bg (LX (n:=n) f1 ⋯) ?_;rintro d st2 ⟨X,rfl,tX,f2,k2⟩;w_how;refine bg (LX (n:=n) (f2.keep (Ex.cj [.lst (X.map D.int)])) ⋯) ?_;rintro d st3 ⟨Y,rfl,tY,f3,k3⟩;w_how;refine hQ _ _ ⟨_,_,rfl,?_⟩;clear hQ;have qf:st3[st2.length]?=some (.lst (X.map D.int)):=k3.keep _ _ iw (by have:=f2.lt;simp;lk);have two:o5 st (st3 ++ [.lst (Y.map D.int)]) f st2.length st3.length n X Y:=⟨kg qf,iw,by have:=eu qf;lk,(k1.trans k2).len,((k1.trans k2).trans ((Ex.cj _).trans k3)).len,tX,tY,f3.keep (Ex.cj _),(((k1.trans k2).app _).trans k3).app _⟩;show Ws _ _ _ _ _;generalize (st3 ++ [O.lst (Y.map D.int)])=kh at two ⊢;generalize st2.length=r at two ⊢;generalize st3.length=u at two ⊢;clear qf tX tY f3 k3 f2 k2 f1 k1;refine aZ (xW (N:=λδ jQ=>∃(r u:Nat) (X Y:List Int),δ=[some (.ref f),some (.int (n:Int)),some (.int form),some (.ref r),some (.ref u),none,none,none,none]/\o5 st jQ f r u n X Y) (gL ?_) ?_);kspl_open hQ;refine hQ _ _ ⟨λ_=>bZ ?_,λ_=>iD ⟨r,u,X,Y,rfl,two⟩⟩;kspl_open b5;rw[<- Pz];refine⟨vm ⋯,rfl,jV (by rw[gP];simp;lk),b5 _ _ ⟨_,u,_,Y,rfl,(two.keep (((Ex.cj _).app _).app _)).AB (af.Oy (show n<21 by lk) ⋯)⟩⟩;rintro δ jQ ⟨r,u,X,Y,rfl,two⟩;refine aZ (xW (N:=λδ jQ=>∃(r u:Nat) (X Y:List Int),δ=[some (.ref f),some (.int (n:Int)),some (.int form),some (.ref r),some (.ref u),none,none,none,none]/\o5 st jQ f r u n X Y) (gL ?_) ?_);kspl_open hQ;refine hQ _ _ ⟨λ_=>Pj ?_,λ_=>iD ⟨r,u,X,Y,rfl,two⟩⟩;kspl_open b5;rw[<- Pz,show((n:Int)-0).toNat=n by lk,qA];refine⟨vm ⋯,vm ⋯,rfl,jV (by rw[gP];simp;lk),b5 _ _ ⟨_,_,rfl,_,_,_,_,rfl,(((two.keep (Ex.cj [.iE 0 (n:Int)])).AB (Z:=af.upto n) (Zbe _)).keep (((Ex.cj _).app _).app _)).AE (af.Oy (show n<21 by lk) ⋯)⟩⟩;rintro δ HE ⟨r,u,X,Y,rfl,two⟩;refine aZ (xW (N:=λδ jQ=>∃(r u:Nat) (v5:Option D) (X Y:List Int),δ=[some (.ref f),some (.int (n:Int)),some (.int form),some (.ref r),some (.ref u),v5,none,none,none]/\o5 st jQ f r u n X Y) (gL ?_) ?_);kspl_open hQ;refine hQ _ _ ⟨λ_=>aZ (bZ ?_),λ_=>iD ⟨r,u,none,X,Y,rfl,two⟩⟩;kspl_open b5;refine bg (sO (n:=(n:Int)) two.fd ⋯ ⋯) ?_;rintro d sv ⟨w,rfl,w0,w1,f7,k7⟩;obtain⟨wd,rfl⟩:∃wd:Nat,w=(wd:Int)-1:=⟨(w+1).toNat,by lk⟩;have t7:o5 st sv f r u n X Y:=⟨k7.keep _ _ two.hr (by have:=two.r0;simp;lk),k7.keep _ _ two.hu (by have:=two.u0;simp;lk),two.ne,two.r0,two.u0,two.tX,two.tY,f7,two.ex.trans k7⟩;w_how;rw[show(1:Int)+((wd:Int)-1)=(wd:Int) by lk];refine b5 _ _ (aZ (bZ ?_));clear b5 hQ;kspl_open b5;rw[<- AF];refine⟨vm ⋯,rfl,jV (by rw[gP];simp;lk),vm ⋯,jV (by rw[ZH,gP,gP];simp;lk),b5 _ _ (aZ (bZ ?_))⟩;clear b5;have t8:=(t7.keep ((((((Ex.cj [.iE 1 (wd:Int)]).app [.lst (aC 1 ((wd:Int)-1).toNat)]).app [.lst [.int 0]]).app [.lst (aC 1 ((wd:Int)-1).toNat ++ [.int 0])]).app [.iE (wd:Int) (n:Int)]).app [.lst (aC (wd:Int) ((n:Int)-(wd:Int)).toNat)])).AB (af.UA (w:=wd) (show n<21 by lk) ⋯ ⋯);generalize X6:(sv ++ _ ++ _ ++ _ ++ _ ++ _ ++ _ ++ _:Store)=o6 at t8 ⊢;generalize List.length _=r8 at t8 ⊢;kspl_open b5;refine⟨rfl,vm ⋯,jV (by simp[gP];lk),vm ⋯,jV (by simp[gP];lk),rfl,jV (by simp[gP];lk),b5 _ _ (gL ?_)⟩;clear b5;generalize X7:(o6 ++ _ ++ _ ++ _ ++ _ ++ _ ++ _ ++ _ ++ _ ++ _:Store)=Jj;have tE:o5 st Jj f r8 u n (af.uk wd n) Y:=by rw[<- X7];exact t8.keep (((((((((Ex.cj _).app _).app _).app _).app _).app _).app _).app _).app _)
 kspl_open hQ;refine hQ _ _ ⟨λhw=>?_,λhw=>?_⟩;refine bZ ?_;kspl_open b5;rw[show((n:Int)-0).toNat=n by lk,qA];exact⟨vm ⋯,b5 _ _ ⟨r8,_,_,_,_,rfl,(tE.keep ((Ex.cj _).app _)).AE (Zbe _)⟩⟩;have hne:wd≠n:=λz=>by simp[z]at hw
 have tF:=tE.AE (af.UB (w:=wd) (show n<21 by lk) ⋯ ⋯);rw[AG ⋯ ⋯]at tF;exact iD ⟨r8,_,_,_,_,rfl,tF⟩;rintro δ sv ⟨r,u,v5,X,Y,rfl,two⟩;have n0:0<n:=by lk
 refine aZ (bZ ?_);refine bX ?_;intro cY hQ;exists bJ two.hr,bJ two.hu;refine⟨rfl,hQ _ _ (aZ (bZ (Qw (X:=X) (Y:=Y) two.tX two.tY n0 ⋯ rfl rfl ?_)))⟩;clear hQ;intro L o6 nH nd hL k8;have t8:=(two.keep k8).keep (Ex.cj [.lst (L.map D.int)]);refine aZ (B7 (λmm δ qP=>∃(pa:Nat) (X L:List Int) (v8:Option D),mm=L.length/\δ=[some (.ref f),some (.int (n:Int)),some (.int form),some (.ref r),some (.ref u),v5,some (bO X Y),some (.ref pa),v8]/\o5 st qP f r u n X Y/\items qP pa=some (L.map D.int)/\L.length<=n/\L.Nodup/\(∀x,x∈L↔(0<=x/\x<(n:Int)/\¬af.jO X Y x))) L.length (Zav nH (Zav X5 ∅)) ⟨_,X,L,none,rfl,rfl,t8,sM,nH,nd,hL⟩ ?_);rintro mm δ qP ⟨pa,X,L,v8,rfl,rfl,two,hpa,nH,nd,hL⟩;have Zk:=two.tX.length;have Bi:items (qP ++ [O.lst []]) pa=some (L.map D.int):=by
  unfold items at hpa ⊢;cases e:qP[pa]? with
  |none=>rw[e]at hpa;cases hpa
  |some o=>rw[kg e];rw[e]at hpa;exact hpa
 refine bX ?_;intro cY hQ;exists Lp (L:=L) (M:=[]) (st:=qP ++ [O.lst []]) Bi sM;refine⟨rfl,hQ _ _ ⟨λh=>?_,λh=>?_⟩⟩;have hne:L≠[]:=by simpa using h
 clear hQ;obtain⟨m,L1,rfl⟩:∃m L1,L=m :: L1:=by cases L with|nil=>exact absurd rfl hne|cons m L1=>exact⟨m,L1,rfl⟩
 obtain⟨m0,m1,mR⟩:=(hL m).mp ZK;have t2:=two.keep (Ex.cj [O.lst []]);generalize (qP ++ [O.lst []])=Jj at Bi t2 ⊢;refine aZ (bZ ?_);refine bX ?_;intro cY hQ;exists Bi,ZT;refine hQ _ _ (aZ (vk ?_));clear hQ;refine bX ?_;intro cY hQ;exists bJ t2.hr,qQ (xs:=X) m0 ⋯,qQ (xs:=X) (i:=0) ∅ ⋯;refine⟨rfl,hQ _ _ ?_⟩;clear hQ;have i0:mO (X.map D.int).length 0=some 0:=BP (j:=0) (by rw[Zx];lk);have im:mO ((X.map D.int).set 0 (.int (af.app X m))).length m=some m.toNat:=by
  rw[Zae];have:=BP (n:=(X.map D.int).length) (j:=m.toNat) (by rw[Zx];lk)
  rwa [Z0 m0]at this
 have qf:(Jj.set r (.lst ((X.map D.int).set 0 (.int (af.app X m)))))[r]?=some (.lst ((X.map D.int).set 0 (.int (af.app X m)))):=ZI (eu t2.hr);have eS:((X.map D.int).set 0 (.int (af.app X m))).set m.toNat (.int (af.app X 0))=(af.nM X m.toNat).map D.int:=by
  unfold af.nM;rw[Z0 m0,List.map_set,List.map_set]
 refine bX ?_;intro cY hQ;exists kJ t2.hr,kJ qf,i0,im,eS;refine⟨rfl,hQ _ _ (aZ (bZ ?_))⟩;clear hQ;have tS:=af.zh t2.tX (m:=m.toNat) ⋯;have hmet:=af.Uv t2.tX t2.tY (m:=m.toNat) ⋯ (by rw[Z0 m0];exact mR);rw[Z0 m0]at hmet;rw[List.set_set];have t3:=t2.put (Z:=af.nM X m.toNat) tS hfl;generalize Jj.set r _=st3 at t3 ⊢;refine bX ?_;intro cY hQ;exists bJ t3.hr,bJ t3.hu;refine⟨rfl,hQ _ _ (bZ (Qw (X:=af.nM X m.toNat) (Y:=Y) t3.tX t3.tY n0 ⋯ rfl rfl ?_))⟩;intro L' kh L0 Qy hL' k4;refine⟨_,?_,kh.length,af.nM X m.toNat,L',_,rfl,rfl,(t3.keep k4).keep (Ex.cj _),sM,L0,Qy,hL'⟩;refine af.less (m:=m) Qy (λx hx=>?_) ZK (λh=>((hL' m).mp h).2.2 hmet.1);obtain⟨a1,a2,a3⟩:=(hL' x).mp hx;exact(hL x).mpr ⟨a1,a2,λh=>a3 (hmet.2 x h)⟩;have he:L=[]:=by simpa using h
 subst he;refine fG ?_;kspl_open b5;have t2:=two.keep (Ex.cj [O.lst []]);refine b5 _ _ ⟨X,Y,rfl,⟨t2.tX,t2.tY,λx x0 x1=>?_⟩,t2.fd,t2.ex⟩;exact Classical.byContradiction λh=>nomatch (hL x).mpr ⟨x0,x1,h⟩
def L3{st:Store}{xs:List Int}{n:Nat}(tn:af.Tn n xs)(hn:n<=100):Wp (wC [.tup (xs.map D.int)] st) λd st'=>d=.tup ((af.inv xs).map D.int)/\Ex [] st st':=by
 have hlen:=tn.length;refine iK ?_;show Ws (Iw [some (.tup (xs.map D.int)),none,none,none] st) _ _ _ _;unfold Iw;refine aZ (bZ ?_);kspl_open hQ;have e0:(((xs.map D.int).length:Int)).toNat=n:=by rw[Zx];lk
 have ez:(List.replicate n [D.int 0]).flatten=(List.replicate n (0:Int)).map D.int:=by
  induction n with
  |zero=>rfl
  |succ n ih=>simp[Zan]
 rw[e0,ez];refine⟨rfl,by rw[Zx];lk,jV (by simp;lk),hQ _ _ (aZ (nt (mw (xs.map D.int)) (λk δ st2=>∃(v2 v3:Option D) (bs:List Int),δ=[some (.tup (xs.map D.int)),some (.ref (st ++ [O.lst [D.int 0]]).length),v2,v3]/\st2[(st ++ [O.lst [D.int 0]]).length]?=some (.lst (bs.map D.int))/\bs.length=n/\(∀j,j<k->∀x,xs[j]?=some x->bs[x.toNat]?=some (j:Int))/\Ex [] st st2) ?_ ?_ ?_ ?_))⟩;kspl_open hQ;exact hQ _ _ ⟨rfl,none,none,_,rfl,iw,by simp,λj hj=>absurd hj (Zaf _),(Ex.cj _).app _⟩;rw[Es,Zx];lk;have Gm:st.length<=(st ++ [O.lst [D.int 0]]).length:=by simp
 generalize (st ++ [O.lst [D.int 0]]).length=B at Gm ⊢;rintro k d δ st2 hd ⟨v2,v3,bs,rfl,hB,wH,wI,k2⟩;obtain⟨d',hd',rfl⟩:=Lg hd;obtain⟨x,hx,rfl⟩:=EU hd';obtain⟨x0,x1⟩:=tn.bound (ZF hx);have nK:=eu hx;kspl_open hQ;refine⟨rfl,hQ _ _ (vk ?_)⟩;have hix:mO (bs.map D.int).length x=some x.toNat:=by
  have:=BP (n:=(bs.map D.int).length) (j:=x.toNat) (by rw[Zx];lk)
  rwa [Z0 x0]at this
 have es:(bs.map D.int).set x.toNat (.int (k:Int))=(bs.set x.toNat (k:Int)).map D.int:=by rw[List.map_set]
 kspl_open b5;refine b5 _ _ ?_;refine bX ?_;intro Bh qV;exists kJ hB,hix,es;refine qV _ _ ⟨_,_,bs.set x.toNat (k:Int),rfl,ZI (eu hB),by rw[Zae];exact wH,λj hj y hy=>?_,k2.loc Gm⟩;by_cases hjk:j=k;subst hjk;rw[hx]at hy;cases hy;rw[ZI (by rw[wH];lk)];obtain⟨y0,y1⟩:=tn.bound (ZF hy);rw[ZJ (λz=>?_)];exact wI j ⋯ y hy;obtain⟨h1,e1⟩:=Zz.mp hx;obtain⟨h2,e2⟩:=Zz.mp hy;exact hjk ((List.getElem_inj tn.nodup).mp (show xs[j]=xs[k] by lk));rintro δ st2 ⟨v2,v3,bs,rfl,hB,wH,wI,k2⟩;rw[Es,Zx]at wI;have eb:bs=af.inv xs:=by
  apply List.ext_getElem?;intro i;by_cases hi:i<n;have hm:=tn.mem (i:=(i:Int)) ⋯ ⋯;have hil:=Zbg hm;have:=wI (xs.idxOf (i:Int)) hil (i:Int) (by rw[Zy hil];exact congrArg some (ZbC hil));rw[ZP]at this;rw[this];have ea:=af.pR (xs:=af.inv xs) (i:=(i:Int)) ⋯ (by rw[af.BU];lk);rw[ZP,af.Hj ⋯ ⋯]at ea;exact ea.symm;rw[ZaG ⋯,ZaG (by rw[af.BU];lk)]
 subst eb;refine fG ?_;refine bX ?_;intro cY hQ;exists bJ hB;exact hQ _ _ ⟨rfl,k2⟩
def Ct{st:Store}{xs ys:List Int}(hb:∀x∈xs,0<=x/\x<(ys.length:Int))(hn:xs.length<=100):Wp (qT [.tup (xs.map D.int),.tup (ys.map D.int)] st) λd st'=>d=.tup ((af.a6 xs ys).map D.int)/\Ex [] st st':=by refine iK ?_;show Ws (Iz [some (.tup (xs.map D.int)),some (.tup (ys.map D.int))] st) _ _ _ _;unfold Iz;refine fG ?_;kspl_open hQ;refine sN (xs.map D.int) (λd=>.int (af.app ys (inD d))) ?_ (by rw[Zx];lk) ?_ ?_;kspl_open b5;exact b5 _ _ ⟨sZ _ _,Ex.refl⟩;intro d hd st1 k1;obtain⟨x,hx,rfl⟩:=xZ hd;obtain⟨x0,x1⟩:=hb x hx;refine bX ?_;intro iy b5;exists ZT,Zag,Zab,Zac,qQ (xs:=ys) x0 x1;exact b5 _ _ ⟨rfl,Ex.refl⟩;intro st' k';rw[B9 (f:=af.app ys) λx hx=>rfl];w_how;exact hQ _ _ ⟨rfl,k'.app _⟩
def X8{st:Store}{xs ys p:List Int}{n:Nat}(tx:af.Tn n xs)(ty:af.Tn n ys)(tp:af.Tn n p)(hn:n<=100):Wp (FG [bO xs ys,.tup (p.map D.int)] st) λd st'=>d=bO (af.anew xs p) (af.anew ys p)/\Ex [] st st':=by have hlx:=tx.length;have Cs:=ty.length;have Gn:=tp.length;have ti:=tp.az;have hli:=ti.length;refine iK ?_;show Ws (IA [some (bO xs ys),some (.tup (p.map D.int)),none,none,none] st) _ _ _ _;unfold IA bO;refine aZ (bZ ?_);kspl_open hQ;refine bg (L3 tp hn) ?_;rintro d st1 ⟨rfl,k1⟩;refine hQ _ _ (aZ (bZ ?_));clear hQ;kspl_open hQ;refine bg (Ct (xs:=af.inv p) (ys:=xs) (λx hx=>by rw[hlx];exact ti.bound hx) ⋯) ?_;rintro d st2 ⟨rfl,k2⟩;refine bg (Ct (xs:=af.a6 (af.inv p) xs) (ys:=p) (λx hx=>by rw[Gn];exact(ti.a6 tx).bound hx) (by rw[af.BX];lk)) ?_;rintro d st3 ⟨rfl,k3⟩;refine hQ _ _ (aZ (bZ ?_));clear hQ;kspl_open hQ;refine bg (Ct (xs:=af.inv p) (ys:=ys) (λx hx=>by rw[Cs];exact ti.bound hx) ⋯) ?_;rintro d kh ⟨rfl,k4⟩;refine bg (Ct (xs:=af.a6 (af.inv p) ys) (ys:=p) (λx hx=>by rw[Gn];exact(ti.a6 ty).bound hx) (by rw[af.BX];lk)) ?_;rintro d jQ ⟨rfl,k5⟩;refine hQ _ _ (fG ?_);clear hQ;kspl_open hQ;exact⟨rfl,hQ _ _ ⟨rfl,(((k1.trans k2).trans k3).trans k4).trans k5⟩⟩
def Qz{F:List Int}{x:Int}:(!F.contains x)=true->af.cJ F x=F ++ [x]:=λh=>by
 unfold af.cJ;rw[if_neg λz=>by rw[Zap.mpr z]at h;cases h]
def QA{F:List Int}{x:Int}:(!F.contains x)=false->af.cJ F x=F:=λh=>by
 unfold af.cJ;rw[if_pos (Zap.mp (by simpa using h))]
def QB{st:Store}{xs ys:List Int}{n:Nat}{s:Int}(tx:af.Tn n xs)(ty:af.Tn n ys)(hn:n<=100)(s0:0<=s)(s1:s<(n:Int)):Wp (A6 [bO xs ys,.int s] st) λd st'=>d=.tup ((af.bf xs ys s n).map D.int)/\Ex [] st st':=by
 have hlx:=tx.length;have Cs:=ty.length;refine iK ?_;show Ws (IC [some (bO xs ys),some (.int s),none,none,none,none] st) _ _ _ _;unfold IC;refine aZ (bZ ?_);kspl_open hQ;refine⟨rfl,hQ _ _ (aZ (bZ ?_))⟩;clear hQ;kspl_open hQ;refine hQ _ _ (aZ (B7 (λm δ st2=>∃(k:Nat) (v4 v5:Option D),m=n-k/\δ=[some (bO xs ys),some (.int s),some (.ref st.length),some (.int (k:Int)),v4,v5]/\st2[st.length]?=some (.lst ((af.bf xs ys s k).map D.int))/\k<=(af.bf xs ys s k).length/\Ex [] st st2) n (Zav hn ∅) ⟨0,none,none,by lk,rfl,iw,Zaa _,Ex.cj _⟩ ?_));clear hQ;rintro m δ st2 ⟨k,v4,v5,rfl,rfl,hl,hk,k2⟩;have wH:=af.DQ tx ty s0 s1 k;refine bX ?_;intro cY hQ;exists bJ hl;refine hQ _ _ ⟨λhlt=>?_,λhlt=>?_⟩;clear hQ;have hlt:=of_decide_eq_true hlt;rw[Zx]at hlt;have nK:k<(af.bf xs ys s k).length:=by lk
 obtain⟨x,hx⟩:∃x,(af.bf xs ys s k)[k]?=some x:=⟨_,Zy nK⟩;obtain⟨x0,x1⟩:=af.rO tx ty s0 s1 k x (ZF hx);have e1:af.bf xs ys s (k+1)=af.visit xs ys (af.bf xs ys s k) x:=by
  show(match (af.bf xs ys s k)[k]? with|some x=>af.visit xs ys (af.bf xs ys s k) x|none=>af.bf xs ys s k)=_;rw[hx]
 have hb1:=af.DQ tx ty s0 s1 (k+1);rw[e1]at hb1;have hp1:=(af.xD (af.cJ (af.bf xs ys s k) (af.app xs x)) (af.app ys x)).length_le;have hp0:=(af.xD (af.bf xs ys s k) (af.app xs x)).length_le;change _<=(af.visit xs ys (af.bf xs ys s k) x).length at hp1;refine aZ (nt [.tup (xs.map D.int),.tup (ys.map D.int)] (λm δ st3=>∃(v4 v5:Option D) (G:List Int),δ=[some (bO xs ys),some (.int s),some (.ref st.length),some (.int (k:Int)),v4,v5]/\st3[st.length]?=some (.lst (G.map D.int))/\(m=0->G=af.bf xs ys s k)/\(m=1->G=af.cJ (af.bf xs ys s k) (af.app xs x))/\(m=2->G=af.visit xs ys (af.bf xs ys s k) x)/\Ex [] st st3) ?_ (by simp) ?_ ?_);unfold bO;kspl_open hQ;exact hQ _ _ ⟨rfl,v4,v5,_,rfl,hl,λ_=>rfl,λz=>by lk,λz=>by lk,k2⟩;rintro m z δ st3 hm ⟨v4,v5,G,rfl,hl3,g0,g1,_,k3⟩;have hm2:m<2:=eu hm;obtain⟨zs,rfl,tz,em⟩:∃(zs:List Int),z=.tup (zs.map D.int)/\af.Tn n zs/\((m=0/\zs=xs)\/(m=1/\zs=ys)):=by
  rcases(show m=0\/m=1 by lk)with rfl|rfl
  exact⟨xs,by simpa using hm.symm,tx,.inl ⟨rfl,rfl⟩⟩;exact⟨ys,by simpa using hm.symm,ty,.inr ⟨rfl,rfl⟩⟩
 have hG:G.length<=100/\G[k]?=some x:=by
  rcases em with⟨rfl,_⟩|⟨rfl,_⟩
  rw[g0 rfl];exact⟨by lk,hx⟩;rw[g1 rfl];refine⟨by lk,?_⟩;obtain⟨t,e⟩:=af.xD (af.bf xs ys s k) (af.app xs x);rw[<- e,ZQ nK];exact hx
 have Gp:∀G',G'=af.cJ G (af.app zs x)->(m+1=0->G'=af.bf xs ys s k)/\(m+1=1->G'=af.cJ (af.bf xs ys s k) (af.app xs x))/\(m+1=2->G'=af.visit xs ys (af.bf xs ys s k) x):=λG' e=>by
  rcases em with⟨rfl,rfl⟩|⟨rfl,rfl⟩
  exact⟨λz=>by lk,λ_=>by rw[e,g0 rfl],λz=>by lk⟩;exact⟨λz=>by lk,λz=>by lk,λ_=>by rw[e,g1 rfl];rfl⟩
 have hat:fB (G.map D.int) (k:Int)=some (.int x):=BL (by rw[ZO,hG.2];rfl);kspl_open hQ;refine hQ _ _ (aZ (bZ ?_));clear hQ;refine bX ?_;intro cY hQ;exists bJ hl3,hat,qQ (xs:=zs) x0 (by rw[tz.length];exact x1);refine hQ _ _ (gL ?_);clear hQ;refine bX ?_;intro cY hQ;exists HK (st:=st3) (c:=.ref st.length) (ns:=G) (bJ hl3);refine hQ _ _ ⟨λhc=>pL ?_,λhc=>iD ?_⟩;obtain⟨n0,n1,n2⟩:=Gp (G ++ [af.app zs x]) (Qz hc).symm;refine bX ?_;intro iy b5;exists kJ hl3;refine⟨nu (by rw[bJ hl3];rfl),jV (by rw[Zx];lk),b5 _ _ ⟨_,_,G ++ [af.app zs x],rfl,?_,n0,n1,n2,k3.loc (ZA _)⟩⟩;rw[ZI (eu hl3),ZS];rfl;obtain⟨n0,n1,n2⟩:=Gp G (QA hc).symm;exact⟨_,_,G,rfl,hl3,n0,n1,n2,k3⟩;rintro δ st3 ⟨v4,v5,G,rfl,hl3,_,_,g2,k3⟩;have g2:=g2 rfl;subst g2;refine bZ ?_;kspl_open hQ;refine hQ _ _ ⟨n-(k+1),by lk,k+1,v4,v5,rfl,by simp,by rw[e1];exact hl3,by rw[e1];lk,k3⟩;have hlt:=of_decide_eq_false hlt;rw[Zx]at hlt;have hle:(af.bf xs ys s k).length<=k:=by lk
 have e:af.bf xs ys s n=af.bf xs ys s k:=by
  have:=af.Hk hle (n-k)
  rwa [show k+(n-k)=n by lk]at this
 refine fG ?_;refine bX ?_;intro iy b5;exists bJ hl;rw[<- e];exact b5 _ _ ⟨rfl,k2⟩
def X9{st:Store}{xs:List Int}{n:Nat}{i:Int}(tn:af.Tn n xs)(hn:n<=100)(i0:0<=i)(i1:i<(n:Int)):Wp (FN [.tup (xs.map D.int),.int i] st) λd st'=>∃r:List Int,d=.tup (r.map D.int)/\af.iU xs i r/\Ex [] st st':=by
 have hlen:=tn.length;refine iK ?_;show Ws (IH [some (.tup (xs.map D.int)),some (.int i),none,none] st) _ _ _ _;unfold IH;refine aZ (bZ ?_);kspl_open hQ;refine⟨rfl,hQ _ _ (aZ (bZ ?_))⟩;clear hQ;refine bX ?_;intro cY hQ;exists qQ (xs:=xs) i0 ⋯;refine hQ _ _ (aZ (B7 (λm δ st2=>∃k:Nat,m=n-(k+1)/\δ=[some (.tup (xs.map D.int)),some (.int i),some (.ref st.length),some (.int (af.bz xs i (k+1)))]/\st2[st.length]?=some (.lst ((af.row xs i k).map D.int))/\af.NB xs i k/\Ex [] st st2) (n-1) (Zav (show n-1<=100 by lk) ∅) ⟨0,rfl,rfl,iw,λj h1 h2=>by lk,Ex.cj _⟩ ?_));clear hQ;rintro m δ st2 ⟨k,rfl,rfl,hL,nb,k2⟩;have hrl:=tn.kT i0 i1 nb;kspl_open hQ;refine hQ _ _ ⟨λhb=>?_,λhb=>?_⟩;have hb:af.bz xs i (k+1)≠i:=by simpa using hb
 have Gq:af.NB xs i (k+1):=λj h1 h2=>by
  by_cases hj:j<=k;exact nb j h1 hj
  have:j=k+1:=by lk
  rw[this];exact hb
 have hle:=tn.kT i0 i1 Gq;have hit:=tn.bz i0 i1 (k+1);refine aZ (pL ?_);refine bX ?_;intro iy b5;exists kJ hL;refine⟨nu (by rw[bJ hL];rfl),jV (by rw[Zx,af.uY];lk),b5 _ _ (bZ ?_)⟩;clear b5;refine bX ?_;intro iy b5;exists qQ (xs:=xs) hit.1 ⋯;refine b5 _ _ ⟨n-(k+1+1),by lk,k+1,rfl,rfl,?_,Gq,k2.loc (ZA _)⟩;rw[ZI (eu hL),af.Ox,ZS];rfl;have hb:af.bz xs i (k+1)=i:=by simpa using hb
 refine fG ?_;refine bX ?_;intro iy b5;exists bJ hL;exact b5 _ _ ⟨_,rfl,⟨k,rfl,nb,hb⟩,k2⟩
def Ya{st:Store}{xs:List Int}{n:Nat}(tn:af.Tn n xs)(hn:n<=100):Wp (FP [.tup (xs.map D.int)] st) λd st'=>∃rs:List (List Int),d=ER rs/\af.xC xs (af.upto n) rs/\(∀r∈rs,r.length<=n/\∀x∈r,0<=x/\x<(n:Int))/\rs.length<=n/\Ex [] st st':=by
 have hlen:=tn.length;refine iK ?_;show Ws (IJ [some (.tup (xs.map D.int)),none,none,none,none,none] st) _ _ _ _;unfold IJ;refine aZ (bZ ?_);kspl_open hQ;refine⟨rfl,hQ _ _ (aZ (bZ ?_))⟩;clear hQ;kspl_open hQ;have eS:(st ++ [O.lst []]).length=st.length+1:=by simp
 rw[eS]
 refine hQ _ _ (aZ (nt (aC 0 n) (λk δ st2=>∃ (v3 v4 v5:Option D) (rs:List (List Int)) (kvs:List (Key×D)),δ=[some (.tup (xs.map D.int)),some (.ref st.length),some (.ref (st.length + 1)),v3,v4,v5]/\st2[st.length]?=some (.lst (rs.map λr=>.tup (r.map D.int)))/\st2[st.length + 1]?=some (.dct kvs) /\
   (∀rest,af.xC xs (af.from' n k (λx=>(dU kvs (Sum.inl x:Key)).isSome)) rest->af.xC xs (af.upto n) (rs ++ rest))/\(∀r∈rs,r.length<=n/\∀x∈r,0<=x/\x<(n:Int))/\rs.length<=k/\kvs.length<=k*n/\Ex [] st st2) ?_ (by rw[gP];lk) ?_ ?_))
 clear hQ;kspl_open hQ;rw[Zx,hlen];refine⟨by lk,hQ _ _ ⟨by rw[ZP],none,none,none,[],[],rfl,kg iw,by rw[<- eS];exact iw,λrest hrest=>?_,(λr hr=>nomatch hr),ZA _,Zaa _,(Ex.cj _).app _⟩⟩;have e:af.from' n 0 (λx=>(dU ([]:List (Key×D)) (Sum.inl x:Key)).isSome)=af.upto n:=af.Uq n;rw[e]at hrest;exact hrest;rintro k d δ st2 hd ⟨v3,v4,v5,rs,kvs,rfl,Jk,Jl,ye,hb,hrl,nK,k2⟩;have hk:=eu hd;rw[gP]at hk;rw[xT hk,ZaU]at hd;cases hd;have hkn:k*n<=10000:=Z3 (Nat.mul_le_mul (show k<=100 by lk) hn) ∅;clear hQ;kspl_open hQ;refine hQ _ _ (gL ?_);clear hQ;refine bX ?_;intro cY hQ;exists PJ Jl,PK;have hfs:=af.Uo hk (λx=>(dU kvs (Sum.inl x:Key)).isSome);refine hQ _ _ ⟨λhs=>?_,λhs=>?_⟩;have L5:(dU kvs (Sum.inl (k:Int):Key)).isSome=false:=by simpa using hs
 simp only[L5,Zah,if_false]at hfs;clear hQ;refine aZ (bZ ?_);kspl_open hQ;refine bg (X9 tn hn (i:=(k:Int)) ⋯ ⋯) ?_;rintro d st3 ⟨r,rfl,oA,k3⟩;refine hQ _ _ (aZ (pL ?_));clear hQ;have L6:=k3.keep _ _ Jk (by simp);have Yb:=k3.keep _ _ Jl (by simp);have L7:=oA.len tn ⋯ ⋯;have hrb:=oA.bound tn ⋯ ⋯;refine bX ?_;intro cY hQ;exists kJ L6;refine⟨nu (by rw[bJ L6];rfl),jV (by rw[Zx];lk),hQ _ _ ?_⟩;clear hQ
 refine nt (r.map D.int) (λj δ jQ=>∃ (v5:Option D) (kvs':List (Key×D)),δ=[some (.tup (xs.map D.int)),some (.ref st.length),some (.ref (st.length + 1)),some (.int (k:Int)),some (.tup (r.map D.int)),v5]/\jQ[st.length]?=some (.lst ((rs ++ [r]).map λr=>.tup (r.map D.int)))/\jQ[st.length + 1]?=some (.dct kvs') /\
   (∀x:Int,(dU kvs' (Sum.inl x:Key)).isSome=((dU kvs (Sum.inl x:Key)).isSome || (r.take j).contains x))/\kvs'.length<=kvs.length+j/\Ex [] st jQ) ?_ (by rw[Zx];lk) ?_ ?_
 kspl_open hQ;refine hQ _ _ ⟨rfl,v5,kvs,rfl,?_,?_,λx=>by simp,by lk,(k2.trans k3).loc (ZA _)⟩;rw[ZI (eu L6),ZS];rfl;rw[ZJ ⋯];exact Yb;rintro j y δ jQ hj ⟨v5,kvs',rfl,L8,Jm,Jn,Gr,k5⟩;obtain⟨x,hx,rfl⟩:=EU hj;obtain⟨hjl,ex⟩:=Zz.mp hx;subst ex;kspl_open hQ;refine hQ _ _ (VJ ?_);clear hQ;kspl_open hQ;refine hQ _ _ ?_;kspl_open b5;refine b5 _ _ ?_;kspl_open qV;refine qV _ _ ⟨_,kvs',_,rfl,PJ Jm,PK _,jV ⋯,_,_,rfl,?_,ZI (eu Jm),λx=>?_,?_,k5.loc ⋯⟩;rw[ZJ ⋯];exact L8;rw[Wj,Wl hjl];by_cases hx:x=r[j];subst hx;simp;rw[if_neg (by intro z;exact hx (Sum.inl.inj z)),Jn x]
 have:(x == r[j])=false:=beq_eq_false_iff_ne.mpr hx;rw[this,Bool.or_false]
 have:=Wk kvs' (Sum.inl r[j]:Key) (.bl true);lk
 rintro δ jQ ⟨v5,kvs',rfl,L8,Jm,Jn,Gr,k5⟩;rw[Zx]at Gr Jn;refine⟨_,_,_,rs ++ [r],kvs',rfl,L8,Jm,λrest hrest=>?_,λr' hr'=>?_,by rw[ZH];simp;lk,by rw[Nat.succ_mul];lk,k5⟩;have e:(λx=>(dU kvs' (Sum.inl x:Key)).isSome)=λx=>((dU kvs (Sum.inl x:Key)).isSome || r.contains x):=by
  funext x;rw[Jn x,ZaS]
 rw[e,<- af.Up]at hrest;rw[Zba];refine ye _ ?_;rw[hfs];refine .cons oA ?_;have e2:af.out ((k:Int) :: af.from' n (k+1) (λx=>(dU kvs (Sum.inl x:Key)).isSome)) r=af.out (af.from' n (k+1) (λx=>(dU kvs (Sum.inl x:Key)).isSome)) r:=by
  unfold af.out;rw[List.filter_cons,if_neg (by simp[oA.mem])]
 rw[e2];exact hrest;rcases Z6.mp hr' with h|h
 exact hb r' h
 have:r'=r:=by simpa using h
 subst this;exact⟨L7,hrb⟩;have L5:(dU kvs (Sum.inl (k:Int):Key)).isSome=true:=by simpa using hs
 simp only[L5,if_true]at hfs;exact iD ⟨_,_,_,rs,kvs,rfl,Jk,Jl,λrest hrest=>ye rest (by rw[hfs];exact hrest),hb,by lk,by rw[Nat.succ_mul];lk,k2⟩;rintro δ st2 ⟨v3,v4,v5,rs,kvs,rfl,Jk,Jl,ye,hb,hrl,nK,k2⟩;rw[gP]at ye hrl;refine fG ?_;clear hQ;refine bX ?_;intro cY hQ;exists bJ Jk;refine hQ _ _ ⟨rs,rfl,?_,hb,hrl,k2⟩;have:=ye [] (by rw[af.Um];exact .nil)
 rwa [Zad]at this
def Yc{rs:List (List Int)}{m:Nat}{d:D}(h:(rs.map λr=>D.tup (r.map D.int))[m]?=some d):∃r,rs[m]?=some r/\d=.tup (r.map D.int):=by rw[ZO]at h;obtain⟨r,h1,h2⟩:=Z4.mp h;exact⟨r,h1,h2.symm⟩
def QC{xs:List Int}{i:Int}{m:Nat}{j:Int}(h0:0<=j)(h1:j<((m+1:Nat):Int)):fB ((af.row xs i m).map D.int) j=some (.int (af.bz xs i j.toNat)):=by
 have e:((af.row xs i m).map D.int)[j.toNat]?=some (.int (af.bz xs i j.toNat)):=by
  unfold af.row;rw[Z1,ZO,Za3 ⋯];rfl
 have:=BL e
 rwa [Z0 h0]at this
def QD{bs:List Int}{m v x:Int}(h0:0<=m)(h1:m<(bs.length:Int))(x0:0<=x):af.app (bs.set m.toNat v) x=if x=m then v else af.app bs x:=by have:=af.KO (xs:=bs) (m:=m.toNat) (v:=v) (x:=x) ⋯ x0;rw[Z0 h0]at this;exact this
def Yd{st:Store}{xs:List Int}{n:Nat}{k:Int}(tn:af.Tn n xs)(hn:n<=100):Wp (FR [.tup (xs.map D.int),.int k] st) λd st'=>d=.tup ((af.cy xs k).map D.int)/\Ex [] st st':=by
 have hlen:=tn.length;refine iK ?_;show Ws (IK [some (.tup (xs.map D.int)),some (.int k),none,none,none,none] st) _ _ _ _;unfold IK;refine aZ (bZ ?_);kspl_open hQ;have e0:(((xs.map D.int).length:Int)).toNat=n:=by rw[Zx];lk
 have ez:(List.replicate n [D.int 0]).flatten=(List.replicate n (0:Int)).map D.int:=by
  clear hlen tn hn e0
  induction n with
  |zero=>rfl
  |succ n ih=>simp[Zan]
 rw[e0,ez];have Gm:st.length<=(st ++ [O.lst [D.int 0]]).length:=by simp
 refine⟨rfl,by rw[Zx];lk,jV (by simp;lk),hQ _ _ ?_⟩;clear hQ;have L9:(st ++ [O.lst [D.int 0]] ++ [O.lst ((List.replicate n (0:Int)).map D.int)])[(st ++ [O.lst [D.int 0]]).length]?=some (.lst ((List.replicate n (0:Int)).map D.int)):=iw;have kB:Ex [] st (st ++ [O.lst [D.int 0]] ++ [O.lst ((List.replicate n (0:Int)).map D.int)]):=(Ex.cj _).app _;generalize (st ++ [O.lst [D.int 0]] ++ [O.lst ((List.replicate n (0:Int)).map D.int)])=Ye at L9 kB ⊢;generalize (st ++ [O.lst [D.int 0]]).length=B at Gm L9 ⊢;show Ws _ _ _ _ _;obtain⟨d,st2,e2,rs,rfl,ye,hrb,hrl,k2⟩:=Ya (st:=Ye) tn hn;refine aZ (nt (rs.map λr=>.tup (r.map D.int)) (λm δ st3=>∃(v3 v4 v5:Option D) (bs:List Int),δ=[some (.tup (xs.map D.int)),some (.int k),some (.ref B),v3,v4,v5]/\st3[B]?=some (.lst (bs.map D.int))/\bs.length=n/\(∀j,j<m->∀r,rs[j]?=some r->∀x∈r,af.app bs x=af.pw xs k x)/\Ex [] st st3) ?_ (by rw[Zx];lk) ?_ ?_)
 ·kspl_open hQ
  refine⟨_,_,e2,?_⟩;exact⟨_,rfl,hQ _ _ ⟨rfl,none,none,none,_,rfl,k2.keep _ _ L9 (by simp),by simp,λj hj=>absurd hj (Zaf _),kB.trans k2⟩⟩
 ·rintro m d δ st3 hm ⟨v3,v4,v5,bs,rfl,Ma,wH,wI,k3⟩
  obtain⟨r,hr,rfl⟩:=Yc hm;obtain⟨i,hi,oA⟩:=ye.all.1 r (ZF hr);obtain⟨i0,i1⟩:=af.lE.mp hi;obtain⟨M,rfl,nb,bk⟩:=oA.ex;have hM:=tn.kT i0 i1 nb;kspl_open hQ;refine hQ _ _ (nt (mw ((af.row xs i M).map D.int)) (λt δ kh=>∃(v4 v5:Option D) (cs:List Int),δ=[some (.tup (xs.map D.int)),some (.int k),some (.ref B),some (.tup ((af.row xs i M).map D.int)),v4,v5]/\kh[B]?=some (.lst (cs.map D.int))/\cs.length=n/\(∀x:Int,0<=x->x<(n:Int)->af.app bs x=af.pw xs k x->af.app cs x=af.pw xs k x)/\(∀j,j<t->af.app cs (af.bz xs i j)=af.pw xs k (af.bz xs i j))/\Ex [] st kh) ?_ ?_ ?_ ?_)
  ·clear hQ
   kspl_open hQ;exact hQ _ _ ⟨rfl,v4,v5,bs,rfl,Ma,wH,λ_ _ _ h=>h,λj hj=>absurd hj (Zaf _),k3⟩
  ·rw[Es,Zx,af.uY];lk
  ·rintro t d δ kh hd ⟨v4,v5,cs,rfl,Jo,hcl,hcs,hct,k4⟩
   obtain⟨d',hd',rfl⟩:=Lg hd;obtain⟨y,hy,rfl⟩:=EU hd';have QE:=eu hy;rw[af.uY]at QE;have ey:y=af.bz xs i t:=by
    unfold af.row at hy;rw[ZO,Za3 QE]at hy;exact(ZN hy).symm
   subst ey;obtain⟨x0,x1⟩:=tn.bz i0 i1 t;have hL:(0:Int)<((M+1:Nat):Int):=by lk
   have m0:=ZaB ((t:Int)+k) (Int.ne_of_gt hL);have m1:=ZaH ((t:Int)+k) hL;have eL:((((af.row xs i M).map D.int).length:Nat):Int)=((M+1:Nat):Int):=by rw[Zx,af.uY]
   have hix:mO (cs.map D.int).length (af.bz xs i t)=some (af.bz xs i t).toNat:=by
    have:=BP (n:=(cs.map D.int).length) (j:=(af.bz xs i t).toNat) (by rw[Zx];lk)
    rwa [Z0 x0]at this
   have es:∀v:Int,(cs.map D.int).set (af.bz xs i t).toNat (.int v)=(cs.set (af.bz xs i t).toNat v).map D.int:=λv=>by rw[List.map_set]
   clear hQ;kspl_open hQ;refine⟨rfl,hQ _ _ (vk ?_)⟩;clear hQ;refine bX ?_;intro cY hQ;exists eL,QC m0 m1;refine⟨hL,hQ _ _ ?_⟩;clear hQ;refine bX ?_;intro cY hQ;exists kJ Jo,hix,es;have hat:=tn.zk x0 x1 (tn.zg i0 i1 nb bk t k);refine hQ _ _ ⟨_,_,_,rfl,ZI (eu Jo),by rw[Zae];exact hcl,λx h0 h1 h=>?_,λj hj=>?_,k4.loc Gm⟩
   ·rw[QD x0 ⋯ h0]
    split
    ·next e=>rw[e];exact hat
    ·exact hcs x h0 h1 h
   ·obtain⟨y0,y1⟩:=tn.bz i0 i1 j
    rw[QD x0 ⋯ y0];split
    ·next e=>rw[e];exact hat
    ·next e =>
     by_cases Yf:j=t
     ·rw[Yf]at e;exact absurd rfl e
     ·exact hct j ⋯
  ·rintro δ kh ⟨v4,v5,cs,rfl,Jo,hcl,hcs,hct,k4⟩
   rw[Es,Zx,af.uY]at hct;refine⟨_,_,_,cs,rfl,Jo,hcl,λj hj r hr2 x hx=>?_,k4⟩;by_cases Yg:j=m
   ·subst Yg
    rw[hr]at hr2;cases hr2;obtain⟨jj,Zl,rfl⟩:=af.Hi.mp hx;exact hct jj ⋯
   ·obtain⟨b0,b1⟩:=(hrb r (ZF hr2)).2 x hx
    exact hcs x b0 b1 (wI j ⋯ r hr2 x hx)
 ·rintro δ st3 ⟨v3,v4,v5,bs,rfl,Ma,wH,wI,k3⟩
  rw[Zx]at wI;have e:bs=af.cy xs k:=by
   refine af.rM (n:=n) wH (by rw[af.DV];exact hlen) λs s0 s1=>?_;rw[af.qL s0 ⋯];obtain⟨r,hr',hx⟩:=ye.all.2 s (af.lE.mpr ⟨s0,s1⟩);obtain⟨j,hj,ej⟩:=ZaO hr';exact wI j hj r (by rw[Zy hj,ej]) s hx
  subst e;refine fG ?_;refine bX ?_;intro cY hQ;exists bJ Ma;exact hQ _ _ ⟨rfl,k3⟩
def Yh{st:Store}{xs ys:List Int}{n:Nat}{k:Int}(tx:af.Tn n xs)(ty:af.Tn n ys)(hn:n<=100):Wp (FV [bO xs ys,.int k] st) λd st'=>d=bO xs (af.shr xs ys k)/\Ex [] st st':=by refine iK ?_;show Ws (IL [some (bO xs ys),some (.int k)] st) _ _ _ _;unfold IL bO;refine fG ?_;have tp:=tx.cy (-k);kspl_open hQ;refine bg (Yd (k:=-k) tx hn) ?_;rintro d st1 ⟨rfl,k1⟩;refine bg (Ct (xs:=af.cy xs (-k)) (ys:=ys) (λx hx=>by rw[ty.length];exact tp.bound hx) (by rw[tp.length];exact hn)) ?_;rintro d st2 ⟨rfl,k2⟩;exact⟨rfl,hQ _ _ ⟨rfl,k1.trans k2⟩⟩
def Yi{st:Store}{xs ys:List Int}{n:Nat}(tx:af.Tn n xs)(ty:af.Tn n ys)(hn:n<=100):Wp (FX [bO xs ys] st) λd st'=>d=bO (af.inv ys) xs/\Ex [] st st':=by refine iK ?_;show Ws (IP [some (bO xs ys)] st) _ _ _ _;unfold IP bO;refine fG ?_;kspl_open hQ;refine bg (L3 ty hn) ?_;rintro d st1 ⟨rfl,k1⟩;exact⟨rfl,hQ _ _ ⟨rfl,k1⟩⟩
def Mb{st:Store}{Q:D->Store->Prop}{xs:List Int}{v:Int}(h:v∈xs):Wp (iX (.tup (xs.map D.int)) [.int v] st) Q↔Q (.int (xs.idxOf v:Int)) st:=by rw[Po];constructor;rintro⟨ns,j,h1,h2,q⟩;rw[Pq]at h1;cases h1;rw[PB h]at h2;cases h2;exact q;intro q;exact⟨xs,_,Pq xs,PB h,q⟩
def QF{st:Store}{xs ys p:List Int}{n:Nat}(tx:af.Tn n xs)(ty:af.Tn n ys)(tp:af.Tn n p)(hn:n<=100):Wp (yd [bO xs ys,.tup (p.map D.int)] st) λd st'=>d=bO (af.anew xs p) (af.anew ys p)/\Ex [] st st':=by
 have Gn:=tp.length;refine iK ?_;show Ws (Ip [some (bO xs ys),some (.tup (p.map D.int))] st) _ _ _ _;unfold Ip bO;refine fG ?_;kspl_open hQ;refine sN [.tup (xs.map D.int),.tup (ys.map D.int)] (λd=>match d with|.tup ds=>.tup ((af.anew (ds.map inD) p).map D.int)|_=>.non) ?_ (by simp) ?_ ?_;kspl_open b5;exact b5 _ _ ⟨sZ _ _,Ex.refl⟩;intro d hd st1 k1;obtain⟨zs,rfl,tz⟩:∃zs:List Int,d=.tup (zs.map D.int)/\af.Tn n zs:=by
  rcases ZY.mp hd with rfl|hd
  exact⟨xs,rfl,tx⟩;exact⟨ys,ZU.mp hd,ty⟩
 have LZ:=tz.length;refine bX ?_;intro iy b5;exists ZT,Zag,Zab,Zac;refine sN (aC 0 n) (λd=>.int (af.app p (af.app zs (p.idxOf (inD d):Int)))) ?_ (by rw[gP];lk) ?_ ?_;kspl_open qV;rw[Zx,Gn];exact⟨by lk,qV _ _ ⟨by rw[ZP];exact sZ _ _,Ex.refl⟩⟩;intro d hd st2 k2;rw[qA]at hd;obtain⟨x,hx,rfl⟩:=xZ hd;obtain⟨x0,x1⟩:=af.lE.mp hx;have hm:=tp.mem x0 x1;have hi:=tp.idx x0 x1;obtain⟨a0,a1⟩:=tz.app (i:=(p.idxOf x:Int)) ⋯ ⋯;refine bX ?_;intro Bh qV;exists ZT,Zag,Zab,Zac,Lj,Mb hm,qQ (xs:=zs) (i:=(p.idxOf x:Int)) ⋯ ⋯,qQ (xs:=p) a0 ⋯;exact qV _ _ ⟨rfl,Ex.refl⟩;intro st' k';have e:(aC 0 n).map (λd=>D.int (af.app p (af.app zs (p.idxOf (inD d):Int))))=(af.anew zs p).map D.int:=by
  rw[qA,B9 (f:=λx=>af.app p (af.app zs (p.idxOf x:Int))) λx hx=>rfl]
  congr 1
  unfold af.anew af.a6 af.inv;rw[Z1,Z1,Gn];rfl
 rw[e];w_how;refine b5 _ _ ⟨?_,k'.app _⟩;show D.tup _=D.tup ((af.anew ((zs.map D.int).map inD) p).map D.int);rw[Z1]
 congr 3
 exact(ZaT zs).symm;intro st' k';w_how;refine hQ _ _ ⟨?_,k'.app _⟩;have e:∀zs:List Int,(zs.map D.int).map inD=zs:=λzs=>by rw[Z1];exact ZaT zs
 simp only[ZT,Zag,e]
def QG{xs:List Int}{i:Int}{m:Nat}:fB ((af.row xs i m).map D.int) (-1)=some (.int (af.bz xs i m)):=by
 have hl:((af.row xs i m).map D.int).length=m+1:=by rw[Zx,af.uY]
 unfold fB mO;rw[if_neg ∅,hl,if_pos ⋯,ZaE,show((-1:Int)+((m+1:Nat):Int)).toNat=m by lk];unfold af.row;rw[Z1,ZO,Za3 ⋯];rfl
def Yj{st:Store}{xs:List Int}{n:Nat}{s k:Int}(tn:af.Tn n xs)(hn:n<=100)(s0:0<=s)(s1:s<(n:Int)):Wp (Fn [.tup (xs.map D.int),.int s,.int k] st) λd st'=>d=.int (af.pw xs k s)/\Ex [] st st':=by
 have hlen:=tn.length;refine iK ?_;show Ws (Ii [some (.tup (xs.map D.int)),some (.int s),some (.int k),none] st) _ _ _ _;unfold Ii;refine aZ (xW (N:=λδ st1=>∃(zs:List Int) (j:Nat),δ=[some (.tup (zs.map D.int)),some (.int s),some (.int (j:Int)),none]/\af.Tn n zs/\af.bz zs s j=af.pw xs k s/\Ex [] st st1) (gL ?_) ?_);kspl_open hQ;refine hQ _ _ ⟨λh=>?_,λh=>iD ⟨xs,k.toNat,?_,tn,?_,Ex.refl⟩⟩;have h:=of_decide_eq_true h;clear hQ;refine aZ (bZ ?_);kspl_open hQ;refine sN (aC 0 n) (λd=>.int (xs.idxOf (inD d):Int)) ?_ (by rw[gP];lk) ?_ ?_;kspl_open b5;rw[Zx,hlen];exact⟨by lk,b5 _ _ ⟨by rw[ZP];exact sZ _ _,Ex.refl⟩⟩;intro d hd sv k7;rw[qA]at hd;obtain⟨x,hx,rfl⟩:=xZ hd;obtain⟨x0,x1⟩:=af.lE.mp hx;refine bX ?_;intro iy b5;exists ZT,Zag,Zab,Zac,Lj,Mb (tn.mem x0 x1);exact b5 _ _ ⟨rfl,Ex.refl⟩;intro sv k7;have e:(aC 0 n).map (λd=>D.int (xs.idxOf (inD d):Int))=(af.inv xs).map D.int:=by
  rw[qA,B9 (f:=λx=>(xs.idxOf x:Int)) λx hx=>rfl];unfold af.inv;rw[hlen]
 rw[e];w_how;refine hQ _ _ (bZ ?_);clear hQ;kspl_open hQ;refine hQ _ _ ⟨af.inv xs,(-k).toNat,?_,tn.az,?_,k7.app _⟩;rw[show(0:Int)-k=(((-k).toNat:Nat):Int) by lk];rfl;unfold af.pw;rw[if_neg ⋯];have h:=of_decide_eq_false h;rw[Z0 ⋯];have h:=of_decide_eq_false h;unfold af.pw;rw[if_pos ⋯];rintro δ st1 ⟨zs,j,rfl,tz,ej,k1⟩;have LZ:=tz.length;refine aZ (bZ ?_);kspl_open hQ;refine⟨rfl,hQ _ _ (aZ (B7 (λm δ st2=>∃k:Nat,m=n-(k+1)/\δ=[some (.tup (zs.map D.int)),some (.int s),some (.int (j:Int)),some (.ref st1.length)]/\st2[st1.length]?=some (.lst ((af.row zs s k).map D.int))/\af.NB zs s k/\Ex [] st1 st2) (n-1) (Zav (show n-1<=100 by lk) ∅) ⟨0,rfl,rfl,iw,λj h1 h2=>by lk,Ex.cj _⟩ ?_))⟩;clear hQ;rintro m δ st2 ⟨k',rfl,rfl,hL,nb,k2⟩;have hrl:=tz.kT s0 s1 nb;obtain⟨y0,y1⟩:=tz.bz s0 s1 k';refine bX ?_;intro cY hQ;exists bJ hL,QG,qQ (xs:=zs) y0 ⋯;refine hQ _ _ ⟨λhb=>?_,λhb=>?_⟩;have hb:af.bz zs s (k' + 1)≠s:=by show af.app zs (af.bz zs s k')≠s;simpa using hb
 have Gq:af.NB zs s (k' + 1):=λj h1 h2=>by
  by_cases hj:j<=k';exact nb j h1 hj
  have:j=k' + 1:=by lk
  rw[this];exact hb
 have hle:=tz.kT s0 s1 Gq;refine pL ?_;refine bX ?_;intro iy b5;exists bJ hL,QG,qQ (xs:=zs) y0 ⋯,kJ hL;refine⟨nu (by rw[bJ hL];rfl),jV (by rw[Zx,af.uY];lk),b5 _ _ ⟨n-(k' + 1+1),by lk,k' + 1,rfl,rfl,?_,Gq,k2.loc (ZA _)⟩⟩;rw[ZI (eu hL),af.Ox,ZS];rfl;have hb:af.bz zs s (k' + 1)=s:=by show af.app zs (af.bz zs s k')=s;simpa using hb
 refine fG ?_;have hpos:(0:Int)<((k' + 1:Nat):Int):=by lk
 have eL:((((af.row zs s k').map D.int).length:Nat):Int)=((k' + 1:Nat):Int):=by rw[Zx,af.uY]
 refine bX ?_;intro iy b5;exists bJ hL,eL,QC (ZaB (j:Int) (Int.ne_of_gt hpos)) (ZaH (j:Int) hpos);refine⟨hpos,b5 _ _ ⟨?_,k1.trans k2⟩⟩;rw[<- ej,show((j:Int) % ((k' + 1:Nat):Int)).toNat=j % (k' + 1) by lk,af.OA hb]
def Yk{st:Store}{xs ys:List Int}{n:Nat}{k:Int}(tx:af.Tn n xs)(ty:af.Tn n ys)(hn:n<=100):Wp (vw [bO xs ys,.tup [.str "s",.int k]] st) λd st'=>d=bO xs (af.shr xs ys k)/\Ex [] st st':=by
 have hlx:=tx.length;have Cs:=ty.length;refine iK ?_;show Ws (Ci [some (bO xs ys),some (.tup [.str "s",.int k]),none,none,none] st) _ _ _ _;unfold Ci bO;refine aZ (vk ?_);kspl_open hQ;refine hQ _ _ ?_;clear hQ;kspl_open hQ;refine⟨rfl,hQ _ _ (aZ (gL ?_))⟩;clear hQ;kspl_open hQ;refine hQ _ _ ⟨λ_=>fG ?_,λh=>absurd h (by simp)⟩;clear hQ;kspl_open hQ;refine sN (aC 0 n) (λd=>.int (af.app ys (af.pw xs (-k) (inD d)))) ?_ (by rw[gP];lk) ?_ ?_;kspl_open b5;rw[Zx,Cs];exact⟨by lk,b5 _ _ ⟨by rw[ZP];exact sZ _ _,Ex.refl⟩⟩;intro d hd sv k7;rw[qA]at hd;obtain⟨x,hx,rfl⟩:=xZ hd;obtain⟨x0,x1⟩:=af.lE.mp hx;obtain⟨p0,p1⟩:=tx.pw x0 x1 (-k);refine bX ?_;intro iy b5;exists ZT,Zag,Zab,Zac;refine bg (Yj (k:=0-k) tx hn x0 x1) ?_;rintro d o6 ⟨rfl,k8⟩;rw[show(0:Int)-k=-k by lk];exists qQ (xs:=ys) p0 ⋯;exact b5 _ _ ⟨rfl,k8⟩;intro sv k7;have e:(aC 0 n).map (λd=>D.int (af.app ys (af.pw xs (-k) (inD d))))=(af.shr xs ys k).map D.int:=by
  rw[qA,B9 (f:=λx=>af.app ys (af.pw xs (-k) x)) λx hx=>rfl];unfold af.shr af.a6 af.cy;rw[hlx,Z1,Z1,Z1];rfl
 rw[e];w_how;exact⟨rfl,hQ _ _ ⟨rfl,k7.app _⟩⟩
abbrev nW(xs ys:List Int):Nat->List Int×List Int
 |0=>(xs,ys)
 |j+1=>(af.inv (nW xs ys j).2,(nW xs ys j).1)
def Gs{n:Nat}{xs ys:List Int}(tx:af.Tn n xs)(ty:af.Tn n ys):∀j,af.Tn n (nW xs ys j).1/\af.Tn n (nW xs ys j).2
 |0=>⟨tx,ty⟩
 |j+1=>⟨(Gs tx ty j).2.az,(Gs tx ty j).1⟩
def Yl{st:Store}{xs ys:List Int}{n j:Nat}(tx:af.Tn n xs)(ty:af.Tn n ys)(hn:n<=100)(hj:j<4):Wp (vw [bO xs ys,.tup [.str "t",.int (j:Int)]] st) λd st'=>d=bO (nW xs ys j).1 (nW xs ys j).2/\Ex [] st st':=by
 refine iK ?_;show Ws (Ci [some (bO xs ys),some (.tup [.str "t",.int (j:Int)]),none,none,none] st) _ _ _ _;unfold Ci bO;refine aZ (vk ?_);kspl_open hQ;refine hQ _ _ ?_;clear hQ;kspl_open hQ;refine⟨rfl,hQ _ _ (aZ (gL ?_))⟩;clear hQ;kspl_open hQ;refine hQ _ _ ⟨λh=>absurd h ∅,λ_=>iD (aZ (nt (aC 0 j) (λi δ st2=>∃v4:Option D,δ=[some (.tup [.tup (xs.map D.int),.tup (ys.map D.int)]),some (.tup [.str "t",.int (j:Int)]),some (.tup ((nW xs ys i).1.map D.int)),some (.tup ((nW xs ys i).2.map D.int)),v4]/\Ex [] st st2) ?_ (by rw[gP];lk) ?_ ?_))⟩;clear hQ;kspl_open hQ;rw[show(j:Int) % 4=(j:Int) by lk];exact⟨by lk,by lk,hQ _ _ ⟨by rw[ZP],none,rfl,Ex.refl⟩⟩;rintro i d δ st2 hd ⟨v4,rfl,k2⟩;obtain⟨ta,tb⟩:=Gs tx ty i;show Wp _ _;have hlb:=tb.length;generalize hzs:(nW xs ys i).2=zs at tb hlb ⊢;clear hQ;kspl_open hQ;refine hQ _ _ (vk ?_);clear hQ;kspl_open hQ;refine sN (aC 0 n) (λd=>.int (zs.idxOf (inD d):Int)) ?_ (by rw[gP];lk) ?_ ?_;kspl_open b5;rw[Zx,hlb];exact⟨by lk,b5 _ _ ⟨by rw[ZP];exact sZ _ _,Ex.refl⟩⟩;intro d hd sv k7;rw[qA]at hd;obtain⟨x,hx,rfl⟩:=xZ hd;obtain⟨x0,x1⟩:=af.lE.mp hx;refine bX ?_;intro iy b5;exists ZT,Zag,Zab,Zac,Lj,Mb (tb.mem x0 x1);exact b5 _ _ ⟨rfl,Ex.refl⟩;intro sv k7;have e:(aC 0 n).map (λd=>D.int (zs.idxOf (inD d):Int))=(af.inv zs).map D.int:=by
  rw[qA,B9 (f:=λx=>(zs.idxOf x:Int)) λx hx=>rfl];unfold af.inv;rw[hlb]
 rw[e];w_how;refine⟨rfl,hQ _ _ ?_⟩;clear hQ;kspl_open hQ;refine⟨rfl,hQ _ _ ⟨some d,?_,(k2.trans k7).app _⟩⟩;rw[show(nW xs ys (i+1)).1=af.inv (nW xs ys i).2 from rfl,show(nW xs ys (i+1)).2=(nW xs ys i).1 from rfl,hzs];rintro δ st2 ⟨v4,rfl,k2⟩;rw[gP];refine fG ?_;clear hQ;kspl_open hQ;exact⟨rfl,hQ _ _ ⟨rfl,k2⟩⟩
abbrev Gu(s:ff):Prop:=s.1=false->1<=s.2/\s.2<=3
abbrev iq(p:List Int×List Int)(s:ff):List Int×List Int:=if s.1=true then(p.1,af.shr p.1 p.2 s.2)else nW p.1 p.2 s.2.toNat
abbrev lb(p:List Int×List Int)(w:List ff):List Int×List Int:=w.foldl iq p
def Ym{n:Nat}{p:List Int×List Int}(h:af.Tn n p.1/\af.Tn n p.2)(s:ff):af.Tn n (iq p s).1/\af.Tn n (iq p s).2:=by unfold iq;split;exact⟨h.1,h.1.shr h.2 _⟩;exact Gs h.1 h.2 _
def Mc{n:Nat}:∀{p:List Int×List Int},af.Tn n p.1/\af.Tn n p.2->∀w:List ff,af.Tn n (lb p w).1/\af.Tn n (lb p w).2
 |_,h,[]=>h
 |_,h,s :: w=>Mc (Ym h s) w
def Yn(p:List Int×List Int)(v w:List ff):lb p (v ++ w)=lb (lb p v) w:=by unfold lb;rw[Zaz]
def QH(p:List Int×List Int)(w:List ff)(s:ff):lb p (w ++ [s])=iq (lb p w) s:=by rw[Yn];rfl
abbrev aY(p:List Int×List Int):D:=bO p.1 p.2
def QI{st:Store}{p:List Int×List Int}{n:Nat}{s:ff}(h:af.Tn n p.1/\af.Tn n p.2)(hn:n<=100)(hs:Gu s):Wp (vw [aY p,bL s] st) λd st'=>d=aY (iq p s)/\Ex [] st st':=by
 obtain⟨b,k⟩:=s;cases b with
 |true=>exact Yk (k:=k) h.1 h.2 hn
 |false =>
  obtain⟨k1,k3⟩:=hs rfl;obtain⟨j,rfl⟩:∃j:Nat,k=(j:Int):=⟨k.toNat,by simp only at k1;lk⟩;have:=Yl (st:=st) (j:=j) h.1 h.2 hn (by simp only at k3;lk);refine bg this ?_;rintro d st1 ⟨rfl,k1⟩;refine⟨?_,k1⟩;unfold aY iq;rw[if_neg (show ¬(false=true)from ZC),ZP]
def QJ{st:Store}{p:List Int×List Int}{n:Nat}{w:List ff}(h:af.Tn n p.1/\af.Tn n p.2)(hn:n<=100)(hw:∀s∈w,Gu s)(hl:w.length<=1000):Wp (yc [aY p,.tup (w.map bL)] st) λd st'=>d=aY (lb p w)/\Ex [] st st':=by refine iK ?_;show Ws (Io [some (aY p),some (.tup (w.map bL)),none] st) _ _ _ _;unfold Io;refine aZ (nt (w.map bL) (λi δ st2=>∃v2:Option D,δ=[some (aY (lb p (w.take i))),some (.tup (w.map bL)),v2]/\Ex [] st st2) ?_ (by rw[Zx];lk) ?_ ?_);kspl_open hQ;exact hQ _ _ ⟨rfl,none,rfl,Ex.refl⟩;rintro i d δ st2 hd ⟨v2,rfl,k2⟩;rw[ZO]at hd;obtain⟨s,hs,rfl⟩:=Z4.mp hd;obtain⟨hil,es⟩:=Zz.mp hs;kspl_open hQ;refine hQ _ _ (bZ ?_);clear hQ;kspl_open hQ;refine bg (QI (Mc h _) hn (hw s (ZF hs))) ?_;rintro d st3 ⟨rfl,k3⟩;refine hQ _ _ ⟨some (bL s),?_,k2.trans k3⟩;rw[Z9 hil,QH,es];rfl;rintro δ st2 ⟨v2,rfl,k2⟩;rw[Zx,ZaS];refine fG ?_;kspl_open hQ;exact hQ _ _ ⟨rfl,k2⟩
def Yo{st:Store}{p:List Int×List Int}{n:Nat}{s:ff}(h:af.Tn n p.1/\af.Tn n p.2)(hn:n<=100)(hs:Gu s):Wp (FZ [aY p,bL s] st) λd st'=>d=aY (iq p s)/\Ex [] st st':=by
 obtain⟨b,k⟩:=s;refine iK ?_;show Ws (IQ [some (aY p),some (bL (b,k)),none,none] st) _ _ _ _;unfold IQ bL;cases b with
 |true =>
  refine aZ (gL ?_);kspl_open hQ;refine hQ _ _ ⟨λ_=>fG ?_,λz=>absurd z ∅⟩;clear hQ;kspl_open hQ;refine bg (Yh (k:=k) h.1 h.2 hn) ?_;rintro d st1 ⟨rfl,k1⟩;exact hQ _ _ ⟨rfl,k1⟩
 |false =>
  obtain⟨k1,k3⟩:=hs rfl;obtain⟨j,rfl⟩:∃j:Nat,k=(j:Int):=⟨k.toNat,by simp only at k1;lk⟩;refine aZ (gL ?_);kspl_open hQ;refine hQ _ _ ⟨λz=>absurd z ∅,λ_=>iD (aZ (bZ ?_))⟩;clear hQ;kspl_open hQ;refine hQ _ _ (aZ (nt (aC 0 j) (λi δ st2=>∃v3:Option D,δ=[some (aY p),some (bL (false,(j:Int))),some (bO (nW p.1 p.2 i).1 (nW p.1 p.2 i).2),v3]/\Ex [] st st2) ?_ (by rw[gP];simp only at k3;lk) ?_ ?_));clear hQ;kspl_open hQ;exact⟨by simp only at k3;lk,hQ _ _ ⟨by rw[ZP],none,rfl,Ex.refl⟩⟩;rintro i d δ st2 hd ⟨v3,rfl,k2⟩;obtain⟨ta,tb⟩:=Gs h.1 h.2 i;clear hQ;kspl_open hQ;refine hQ _ _ (bZ ?_);clear hQ;kspl_open hQ;refine bg (Yi ta tb hn) ?_;rintro d' st3 ⟨rfl,k3⟩;exact hQ _ _ ⟨some d,rfl,k2.trans k3⟩;rintro δ st2 ⟨v3,rfl,k2⟩;rw[gP];refine fG ?_;clear hQ;kspl_open hQ;refine hQ _ _ ⟨?_,k2⟩;unfold aY iq;rw[if_neg (show ¬(false=true)from ZC),ZP]
def QK{st:Store}{p:List Int×List Int}{n:Nat}{w:List ff}(h:af.Tn n p.1/\af.Tn n p.2)(hn:n<=100)(hw:∀s∈w,Gu s)(hl:w.length<=1000):Wp (A9 [aY p,.tup (w.map bL)] st) λd st'=>d=aY (lb p w)/\Ex [] st st':=by refine iK ?_;show Ws (IV [some (aY p),some (.tup (w.map bL)),none,none] st) _ _ _ _;unfold IV;refine aZ (bZ ?_);kspl_open hQ;refine hQ _ _ (aZ (nt (w.map bL) (λi δ st2=>∃v2:Option D,δ=[some (aY p),some (.tup (w.map bL)),some (aY (lb p (w.take i))),v2]/\Ex [] st st2) ?_ (by rw[Zx];lk) ?_ ?_));clear hQ;kspl_open hQ;exact hQ _ _ ⟨rfl,none,rfl,Ex.refl⟩;rintro i d δ st2 hd ⟨v2,rfl,k2⟩;rw[ZO]at hd;obtain⟨s,hs,rfl⟩:=Z4.mp hd;obtain⟨hil,es⟩:=Zz.mp hs;clear hQ;kspl_open hQ;refine hQ _ _ (bZ ?_);clear hQ;kspl_open hQ;refine bg (Yo (Mc h _) hn (hw s (ZF hs))) ?_;rintro d st3 ⟨rfl,k3⟩;refine hQ _ _ ⟨some (bL s),?_,k2.trans k3⟩;rw[Z9 hil,QH,es];rfl;rintro δ st2 ⟨v2,rfl,k2⟩;rw[Zx,ZaS];refine fG ?_;clear hQ;kspl_open hQ;exact hQ _ _ ⟨rfl,k2⟩
abbrev Gv(g:Int)(s:ff):Prop:=(s.1=false->1<=s.2/\s.2<=3)/\(s.2.natAbs:Int)<=g/\s.2≠0
def Yp{st:Store}{f:Nat}{most great:Int}(hf:bw st f)(m0:0<=most)(m1:most<=100)(g0:3<=great)(g1:great<=1000):Wp (Fz [.ref f,.int most,.int great] st) λd st'=>∃w:List ff,d=.tup (w.map bL)/\(∀s∈w,Gv great s)/\(w.length:Int)<=most/\bw st' f/\Ex [f] st st':=by
 have hfl:=hf.lt;refine iK ?_;show Ws (Iq [some (.ref f),some (.int most),some (.int great),none,none] st) _ _ _ _;unfold Iq;refine aZ (bZ ?_);kspl_open hQ;refine⟨rfl,hQ _ _ ?_⟩;clear hQ;show Ws _ _ _ _ _;obtain⟨d,st1,e1,c,rfl,c0,c1,f1,k1⟩:=sO (st:=st ++ [O.lst []]) (n:=most+1) (hf.keep (Ex.cj _)) ⋯ ⋯;obtain⟨m,rfl⟩:∃m:Nat,c=(m:Int):=⟨c.toNat,by lk⟩;have hl1:st1[st.length]?=some (.lst []):=k1.keep _ _ iw (by simp;lk);have kx:Ex [f] st st1:=(Ex.cj _).trans k1;refine aZ (nt (aC 0 m) (λi δ st2=>∃(v4:Option D) (w:List ff),δ=[some (.ref f),some (.int most),some (.int great),some (.ref st.length),v4]/\st2[st.length]?=some (.lst (w.map bL))/\(∀s∈w,Gv great s)/\w.length<=i/\bw st2 f/\Ex [f] st st2) ?_ (by rw[gP];lk) ?_ ?_);kspl_open hQ;refine⟨_,_,e1,?_⟩;exact⟨_,rfl,by lk,hQ _ _ ⟨by rw[ZP],none,[],rfl,hl1,(λs hs=>nomatch hs),ZA _,f1,kx⟩⟩;rintro i d δ st2 hd ⟨v4,w,rfl,hl2,hw,hwl,f2,k2⟩;have hil:=eu hd;rw[gP]at hil;have put:∀(s:ff) (jQ:Store),Gv great s->bw jQ f->jQ[st.length]?=some (.lst (w.map bL))->Ex [f] st jQ->∀v4:Option D,∃(Yq:Option D) (w':List ff),[some (.ref f),some (.int most),some (.int great),some (.ref st.length),v4]=[some (.ref f),some (.int most),some (.int great),some (.ref st.length),Yq]/\(jQ.set st.length (.lst (w.map bL ++ [bL s])))[st.length]?=some (.lst (w'.map bL))/\(∀s∈w',Gv great s)/\w'.length<=i+1/\bw (jQ.set st.length (.lst (w.map bL ++ [bL s]))) f/\Ex [f] st (jQ.set st.length (.lst (w.map bL ++ [bL s]))):=λs jQ os f5 h5 k5 v4=>by
  refine⟨v4,w ++ [s],rfl,?_,λs' hs'=>?_,by rw[ZH];simp;lk,f5.ne ⋯,k5.loc (ZA _)⟩;rw[ZI (eu h5),ZS];rfl;rcases Z6.mp hs' with h|h
  exact hw s' h;rw[ZU.mp h];exact os
 kspl_open hQ;refine hQ _ _ (gL ?_);clear hQ;kspl_open hQ;refine bg (sO (n:=2) f2 ∅ ∅) ?_;rintro d' st3 ⟨b,rfl,b0,b1,f3,k3⟩;have hl3:=k3.keep _ _ hl2 (by simp;lk);w_how;refine hQ _ _ ⟨λ_=>pL ?_,λ_=>aZ (bZ ?_)⟩;clear hQ;kspl_open hQ;refine⟨nu (by rw[bJ hl3];rfl),?_⟩;refine bg (sO (n:=3) f3 ∅ ∅) ?_;rintro d' kh ⟨c,rfl,c0,c1,f4,k4⟩;have tj:=k4.keep _ _ hl3 (by simp;lk);exists kJ tj;refine⟨rfl,jV (by rw[Zx];lk),hQ _ _ ?_⟩;exact put (false,1+c) kh ⟨λ_=>⟨by show 1<=1+c;lk,by show 1+c<=3;lk⟩,by show((1+c).natAbs:Int)<=great;lk,by show 1+c≠0;lk⟩ f4 tj ((k2.trans k3).trans k4) _;clear hQ;kspl_open hQ;refine bg (sO (n:=great) f3 ⋯ ⋯) ?_;rintro d' kh ⟨c,rfl,c0,c1,f4,k4⟩;have tj:=k4.keep _ _ hl3 (by simp;lk);w_how;refine hQ _ _ (pL ?_);clear hQ;kspl_open hQ;refine⟨nu (by rw[bJ tj];rfl),rfl,?_⟩;refine bg (sO (n:=2) (f4.keep (Ex.cj [O.lst [D.int (1+c),D.int (0-(1+c))]])) ∅ ∅) ?_;rintro d' jQ ⟨g,rfl,Zm,Zn,f5,k5⟩;have Yr:jQ[kh.length]?=some (.lst [D.int (1+c),D.int (0-(1+c))]):=k5.keep _ _ iw (by have:=f4.lt;simp;lk);have Gr:jQ[st.length]?=some (.lst (w.map bL)):=k5.keep _ _ (kg tj) (by simp;lk);obtain⟨sg,hsg,s1,s2⟩:∃sg:Int,fB [D.int (1+c),D.int (0-(1+c))] g=some (.int sg)/\(sg.natAbs:Int)<=great/\sg≠0:=by
  rcases(show g=0\/g=1 by lk)with rfl|rfl
  exact⟨1+c,Pu _ _,by lk,by lk⟩;exact⟨0-(1+c),Pw _ _ _,by lk,by lk⟩
 exists bJ Yr,hsg,kJ Gr;refine⟨rfl,jV (by rw[Zx];lk),hQ _ _ ?_⟩;exact put (true,sg) jQ ⟨λz=>Bool.noConfusion (show true=false from z),s1,s2⟩ f5 Gr (((k2.trans k3).trans k4).trans ((Ex.cj _).trans k5)) _;rintro δ st2 ⟨v4,w,rfl,hl2,hw,hwl,f2,k2⟩;rw[gP]at hwl;refine fG ?_;refine bX ?_;intro cY hQ;exists bJ hl2;exact hQ _ _ ⟨w,rfl,hw,by lk,f2,k2⟩
def Ys{st:Store}{a b:ff}:Wp (F4 [bL a,bL b] st) λd st'=>d=.tup ((af.cx a b).map bL)/\Ex [] st st':=by
 obtain⟨ab,ak⟩:=a;obtain⟨bb,bk⟩:=b;refine iK ?_;show Ws (IX [some (.tup [.str (if ab then "s" else "t"),.int ak]),some (.tup [.str (if bb then "s" else "t"),.int bk]),none] st) _ _ _ _;unfold IX;have hj:af.cx (ab,ak) (bb,bk)=if af.iH (ab,ak) (bb,bk)=0 then[]else[(ab,af.iH (ab,ak) (bb,bk))]:=rfl
 refine aZ (bZ ?_);kspl_open hQ;refine hQ _ _ ?_;clear hQ;show Ws _ _ _ _ _;refine aZ (xW (N:=λδ st1=>st1=st/\δ=[some (.tup [.str (if ab then "s" else "t"),.int ak]),some (.tup [.str (if bb then "s" else "t"),.int bk]),some (.int (af.iH (ab,ak) (bb,bk)))]) (gL ?_) ?_);kspl_open hQ;refine hQ _ _ ⟨λh=>bZ ?_,λh=>iD ⟨rfl,?_⟩⟩;cases ab with
 |true=>exact absurd h ∅
 |false =>
  clear hQ;kspl_open hQ;exact⟨by decide,hQ _ _ ⟨rfl,rfl⟩⟩
 cases ab with
 |true=>rfl
 |false=>exact absurd h ∅
 rintro δ st1 ⟨rfl,rfl⟩;refine aZ (gL ?_);kspl_open hQ;refine hQ _ _ ⟨λh=>fG ?_,λh=>iD (fG ?_)⟩;have h:=of_decide_eq_true h;clear hQ;kspl_open hQ;refine⟨rfl,hQ _ _ ⟨?_,Ex.refl⟩⟩;rw[hj,if_pos h];rfl;have h:=of_decide_eq_false h;clear hQ;kspl_open hQ;refine⟨rfl,rfl,hQ _ _ ⟨?_,Ex.refl⟩⟩;rw[hj,if_neg h];rfl
def Md{xs:List D}{x:D}:fB (xs ++ [x]) (-1)=some x:=by
 unfold fB mO;rw[ZH,if_neg ∅,if_pos (by simp;lk)];simp only[ZaE];have e:((-1:Int)+((xs.length+[x].length:Nat):Int)).toNat=xs.length:=by simp only[ZaV];lk
 rw[e];simp
def Yt{xs:List D}{x:D}:cutD (xs ++ [x]) none (some (-1))=xs:=by
 have e1:HT.cF (xs ++ [x]).length 0 none=0:=rfl;have e2:HT.cF (xs ++ [x]).length (xs ++ [x]).length (some (-1))=xs.length:=by
  unfold HT.cF;simp only;rw[if_pos ∅,ZH,ZaV];lk
 unfold cutD;rw[e1,e2,ZbA,Nat.sub_zero];simp
def Yu(a b:Bool):(((if a=true then("s" : Str)else "t")=(if b=true then("s" : Str)else "t")))↔a=b:=by cases a<;>cases b<;>decide
def Yv{st:Store}{w:List ff}(hl:w.length<=1000):Wp (F6 [.tup (w.map bL)] st) λd st'=>d=.tup ((af.j9 w).reverse.map bL)/\Ex [] st st':=by
 refine iK ?_;show Ws (IY [some (.tup (w.map bL)),none,none] st) _ _ _ _;unfold IY;refine aZ (bZ ?_);kspl_open hQ;refine⟨rfl,hQ _ _ ?_⟩;clear hQ;show Ws _ _ _ _ _;refine aZ (nt (w.map bL) (λi δ st2=>∃v:Option D,δ=[some (.tup (w.map bL)),some (.tup ((af.j9 (w.take i)).reverse.map bL)),v]/\Ex [] st st2) ?_ (by rw[Zx];lk) ?_ ?_);kspl_open hQ;exact hQ _ _ ⟨rfl,none,rfl,Ex.refl⟩;rintro i d δ st2 hd ⟨v2,rfl,k2⟩;rw[ZO]at hd;obtain⟨s,hs,rfl⟩:=Z4.mp hd;obtain⟨hil,es⟩:=Zz.mp hs;have ep:af.j9 (w.take (i+1))=af.bY (af.j9 (w.take i)) s:=by rw[Z9 hil,af.KR,es];rfl
 have hpl:(af.j9 (w.take i)).length<=1000:=by have:=af.KS (w.take i);rw[Zar]at this;lk
 rw[ep];clear ep;generalize af.j9 (w.take i)=l at hpl ⊢;kspl_open hQ;refine hQ _ _ (gL ?_);clear hQ;kspl_open hQ;cases l with
 |nil =>
  refine hQ _ _ ⟨λh=>absurd h ∅,λ_=>bZ ?_⟩;clear hQ;kspl_open hQ;exact⟨rfl,rfl,hQ _ _ ⟨some (bL s),rfl,k2⟩⟩
 |cons t r =>
  have eg:(t :: r).reverse.map bL=r.reverse.map bL ++ [bL t]:=by simp
  rw[eg];have el:decide ((0:Int)<((r.reverse.map bL ++ [bL t]).length:Nat))=true:=decide_eq_true (by simp);have es1:bL t=.tup [.str (if t.1 then "s" else "t"),.int t.2]:=rfl;have Jp:bL s=.tup [.str (if s.1 then "s" else "t"),.int s.2]:=rfl;have elt:(if t.1=true then("s" : Str)else "t")=(if s.1=true then("s" : Str)else "t")↔t.1=s.1:=Yu _ _;exists Md,es1,Jp;rw[if_pos (by simp)];refine hQ _ _ ⟨λh=>bZ ?_,λh=>bZ ?_⟩;have h:=elt.mp (of_decide_eq_true h);clear hQ;kspl_open hQ;rw[eg,Yt];exists Md;refine bg Ys ?_;rintro d st3 ⟨rfl,k3⟩;w_how;refine⟨jV ?_,hQ _ _ ⟨some (bL s),?_,k2.trans k3⟩⟩
  have:(af.cx t s).length<=1:=by unfold af.cx;split<;>simp
  simp only[Zx,Zbi];simp only[Z2]at hpl;lk;have ej:(af.cx t s).reverse=af.cx t s:=by unfold af.cx;split<;>rfl
  rw[af.u5,if_pos h,List.reverse_append,ZS,ej];rfl;have h:=λe=>of_decide_eq_false h (elt.mpr e);clear hQ;kspl_open hQ;refine⟨rfl,jV ?_,hQ _ _ ⟨some (bL s),?_,k2⟩⟩;simp only[Zx,Zbi,ZaV];lk;have e2:(s :: t :: r).reverse.map bL=(t :: r).reverse.map bL ++ [bL s]:=by simp
  rw[af.u5,if_neg h,e2];rfl
 rintro δ st2 ⟨v2,rfl,k2⟩;rw[Zx,ZaS];refine fG ?_;kspl_open hQ;exact hQ _ _ ⟨rfl,k2⟩
def Yw{st:Store}{v w:List ff}(hl:v.length+w.length<=1000):Wp (F9 [.tup (v.map bL),.tup (w.map bL)] st) λd st'=>d=.tup ((af.j9 (v ++ w)).reverse.map bL)/\Ex [] st st':=by refine iK ?_;show Ws (IZ [some (.tup (v.map bL)),some (.tup (w.map bL))] st) _ _ _ _;unfold IZ;refine fG ?_;kspl_open hQ;refine⟨jV (by simp only[Zx];lk),?_⟩;rw[<- ZS];refine bg (Yv (by rw[ZH];exact hl)) ?_;rintro d st3 ⟨rfl,k3⟩;exact hQ _ _ ⟨rfl,k3⟩
def QL{st:Store}{xs ys:List Int}{n:Nat}{s:Int}(fl:mH n xs ys)(hn:n<=100)(s0:0<=s)(s1:s<(n:Int)):Wp (A7 [bO xs ys,.int s] st) λd st'=>d=.tup ((af.inv (af.bf xs ys s n)).map D.int)/\Ex [] st st':=by obtain⟨tx,ty,all⟩:=fl;refine iK ?_;show Ws (IE [some (bO xs ys),some (.int s)] st) _ _ _ _;unfold IE;refine fG ?_;kspl_open hQ;refine bg (QB tx ty hn s0 s1) ?_;rintro d st1 ⟨rfl,k1⟩;refine bg (L3 (af.Hl tx ty s0 s1 all) hn) ?_;rintro d st2 ⟨rfl,k2⟩;exact hQ _ _ ⟨rfl,k1.trans k2⟩
abbrev uN(xs ys:List Int)(s:Int)(n:Nat):D:=bO (af.num xs (af.bf xs ys s n)) (af.num ys (af.bf xs ys s n))
def Me{st:Store}{xs ys:List Int}{n:Nat}{s:Int}(fl:mH n xs ys)(hn:n<=100)(s0:0<=s)(s1:s<(n:Int)):Wp (wG [bO xs ys,.int s] st) λd st'=>d=uN xs ys s n/\Ex [] st st':=by have Yx:=fl;obtain⟨tx,ty,all⟩:=fl;have tb:=af.Hl tx ty s0 s1 all;refine iK ?_;show Ws (IF [some (bO xs ys),some (.int s)] st) _ _ _ _;unfold IF;refine fG ?_;kspl_open hQ;refine bg (QL Yx hn s0 s1) ?_;rintro d st1 ⟨rfl,k1⟩;refine bg (X8 tx ty tb.az hn) ?_;rintro d st2 ⟨rfl,k2⟩;rw[af.u3 tx tb,af.u3 ty tb];exact hQ _ _ ⟨rfl,k1.trans k2⟩
abbrev tD(l:List Int):D:=.tup (l.map D.int)
abbrev sP(L:List (List Int)):List D:=qS (L.map tD) (L.map gM)
def Bj{n:Nat}{xs ys:List Int}(fl:mH n xs ys):af.Wh n (xs,ys):=⟨⟨fl.1,fl.2.1⟩,fl.2.2⟩
def Bk(st:Store)(m:Nat)(l:List Int):cW st (m+2) (tD l)=some (gM l):=by show(bH (cW st (m+1)) (l.map D.int)).map PyData.tuple=_;rw[uu (f:=cW st (m+1)) (g:=D.int) (k:=PyData.int) (λ_=>rfl) l];rfl
def Yy(st:Store)(m:Nat)(L:List (List Int)):bH (cW st (m+2)) (L.map tD)=some (L.map gM):=uu (f:=cW st (m+2)) (g:=tD) (k:=gM) (λl=>Bk st m l) L
def Bl{n:Nat}{L:List (List Int)}(h:∀l∈L,l.length=n)(n0:0<n)(hl:L.length<64):p8 (L.map gM)=true:=by
 unfold p8;simp only[ZV,Zbj,decide_eq_true_eq,ZaF,Zx];refine⟨⟨⟨hl,λa ha b hb=>?_⟩,λa ha=>?_⟩,.inr λa ha=>?_⟩;obtain⟨p,_,rfl⟩:=ZL.mp ha;obtain⟨q,_,rfl⟩:=ZL.mp hb;exact HN p q;obtain⟨p,_,rfl⟩:=ZL.mp ha;refine⟨xt p,?_⟩;show PyData.depthAll (cH p)+1<=50;have:=yX p;lk;obtain⟨p,hp,rfl⟩:=ZL.mp ha
 have:=h p hp;cases p with
 |nil=>simp at this;lk
 |cons x r=>rfl
def Yz(L:List (List Int)):(sP L).length=L.length:=by have:=(Qg (ds:=L.map tD) (ps:=L.map gM) (by rw[Zx,Zx])).length_eq;rw[Zx]at this;exact this
def YA(L:List (List Int)):∃M:List (List Int),sP L=M.map tD/\M.length=L.length/\∀l∈M,l∈L:=by
 have p:=Qg (ds:=L.map tD) (ps:=L.map gM) (by rw[Zx,Zx]);have all:∀d∈sP L,∃l∈L,d=tD l:=λd hd=>by
  obtain⟨l,hl,e⟩:=ZL.mp (p.subset hd);exact⟨l,hl,e.symm⟩
 have len:=Yz L;generalize sP L=S at all len;rw[<- len];clear len p
 induction S with
 |nil=>exact⟨[],rfl,rfl,λl h=>nomatch h⟩
 |cons d S ih =>
  obtain⟨l,hl,rfl⟩:=all d ZK;obtain⟨M,e,el,hm⟩:=ih λd hd=>all d (ZE _ hd);refine⟨l :: M,by rw[e];rfl,by rw[Z2,el,Z2],λx hx=>?_⟩;rcases ZY.mp hx with rfl|hx
  exact hl;exact hm x hx
abbrev pN(p q:af.aP)(n m i:Nat):List (List Int):=(((af.upto m).take i).filter λs=>decide (af.iS q m s=af.iS p n 0)).map λs=>af.a6 (af.inv (af.bf p.1 p.2 0 n)) (af.bf q.1 q.2 s m)
def Mf(p q:af.aP)(n m:Nat):pN p q n m m=af.rP p q n m:=by unfold pN;rw[List.take_of_length_le (by rw[af.oh];exact ZA _)];rfl
def QM{p q:af.aP}{n m i:Nat}(h:i<m):pN p q n m (i+1)=pN p q n m i ++ if af.iS q m (i:Int)=af.iS p n 0 then[af.a6 (af.inv (af.bf p.1 p.2 0 n)) (af.bf q.1 q.2 (i:Int) m)]else[]:=by
 unfold pN;have hl:i<(af.upto m).length:=by rw[af.oh];exact h
 have e:(af.upto m)[i]=(i:Int):=by
  have:=af.BV h;rw[Zy hl]at this;exact ZN this
 rw[Z9 hl,List.filter_append,ZS,e]
 congr 1
 by_cases c:af.iS q m (i:Int)=af.iS p n 0;rw[if_pos c];simp[c];rw[if_neg c];simp[c]
def QN(p q:af.aP)(n m i:Nat):(pN p q n m i).length<=i:=by unfold pN;rw[Zx];refine Z3 (List.length_filter_le _ _) ?_;rw[Zar];lk
def YB{p q:af.aP}{n m i:Nat}{l:List Int}(wp:af.Wh n p)(n0:0<n)(h:l∈pN p q n m i):l.length=n:=by obtain⟨s,_,rfl⟩:=ZL.mp h;rw[af.BX,af.BU,(wp.bf ∅ ⋯).length]
def QO(xs ys:List Int)(s:Int)(n:Nat):uN xs ys s n=bO (af.iS (xs,ys) n s).1 (af.iS (xs,ys) n s).2:=rfl
def YC{st:Store}{xs ys us vs:List Int}{n m:Nat}(fl:mH n xs ys)(fm:mH m us vs)(n0:0<n)(hn:n<=20)(hm:m<=20):Wp (Ge [bO xs ys,bO us vs] st) λd st'=>∃r,d=.ref r/\st'[r]?=some (.lst (sP (af.rP (xs,ys) (us,vs) n m)))/\st.length<=r/\Ex [] st st':=by
 have YD:=fm.1.length;refine iK ?_;show Ws (Jc [some (bO xs ys),some (bO us vs),none,none,none,none] st) _ _ _ _;unfold Jc;refine aZ (bZ ?_);kspl_open hQ;refine⟨rfl,?_⟩;refine hQ _ _ (aZ (bZ ?_));clear hQ;kspl_open hQ;refine bg (Me fl ⋯ (s:=0) ∅ ⋯) ?_;rintro d st1 ⟨rfl,k1⟩;refine hQ _ _ (aZ (bZ ?_));clear hQ;kspl_open hQ;refine bg (QL fl ⋯ (s:=0) ∅ ⋯) ?_;rintro d st2 ⟨rfl,k2⟩;have h2:st2[st.length]?=some (.lst []):=(k1.trans k2).keep _ _ iw (by simp);refine hQ _ _ (aZ (nt (aC 0 m) (λi δ st3=>∃v5:Option D,δ=[some (bO xs ys),some (bO us vs),some (.ref st.length),some (uN xs ys 0 n),some (.tup ((af.inv (af.bf xs ys 0 n)).map D.int)),v5]/\st3[st.length]?=some (.lst ((pN (xs,ys) (us,vs) n m i).map tD))/\Ex [] st st3) ?_ (by rw[gP];lk) ?_ ?_));clear hQ;unfold bO;kspl_open hQ;rw[Zx,YD];exact⟨by lk,hQ _ _ ⟨by rw[ZP],none,rfl,h2,(Ex.cj _).trans (k1.trans k2)⟩⟩;rintro i d δ st3 hd ⟨v5,rfl,h3,k3⟩;have hil:=eu hd;rw[gP]at hil;rw[xT hil,ZaU]at hd;cases hd;clear hQ;kspl_open hQ;refine hQ _ _ (gL ?_);clear hQ;kspl_open hQ;refine bg (Me fm ⋯ (s:=(i:Int)) ⋯ ⋯) ?_;rintro d kh ⟨rfl,k4⟩;rw[QO,QO];exists PD;have h4:=k4.keep _ _ h3 (by simp);refine hQ _ _ ⟨λhc=>pL ?_,λhc=>iD ?_⟩;have hc:af.iS (us,vs) m (i:Int)=af.iS (xs,ys) n 0:=Prod.ext (of_decide_eq_true hc).1 (of_decide_eq_true hc).2;clear hQ;kspl_open hQ;refine⟨nu (by rw[bJ h4];rfl),?_⟩;refine bg (QB fm.1 fm.2.1 ⋯ (s:=(i:Int)) ⋯ ⋯) ?_;rintro d jQ ⟨rfl,k5⟩;have tb:=(Bj fl).bf (s:=0) ∅ ⋯;have e1:m=n:=by
  have:=congrArg (λz:af.aP=>z.1.length) hc;have this:(af.iS (us,vs) m (i:Int)).1.length=(af.iS (xs,ys) n 0).1.length:=this;rw[af.Hw (Bj fm) ⋯ ⋯,af.Hw (Bj fl) ∅ ⋯]at this;exact this
 have tc:=(Bj fm).bf (s:=(i:Int)) ⋯ ⋯;refine bg (Ct (λx hx=>by rw[tc.length,e1];exact tb.az.bound hx) (by rw[tb.az.length];lk)) ?_;rintro d HE ⟨rfl,k6⟩;have h6:=(k5.trans k6).keep _ _ h4 (by simp);have hlen:=QN (xs,ys) (us,vs) n m i;refine⟨_,kJ h6,jV (by rw[Zx];lk),hQ _ _ ⟨_,rfl,?_,(((k3.trans k4).trans k5).trans k6).loc (ZA _)⟩⟩;rw[ZI (eu h6),QM hil,if_pos hc,ZS];rfl;have hc:¬af.iS (us,vs) m (i:Int)=af.iS (xs,ys) n 0:=λz=>of_decide_eq_false hc ⟨congrArg Prod.fst z,congrArg Prod.snd z⟩;refine⟨_,rfl,?_,k3.trans k4⟩;rw[QM hil,if_neg hc,Zad];exact h4;rintro δ st3 ⟨v5,rfl,h3,k3⟩;rw[gP,Mf]at h3;have hlen:=QN (xs,ys) (us,vs) n m m;rw[Mf]at hlen;have hmem:∀l∈af.rP (xs,ys) (us,vs) n m,l.length=n:=λl hl=>YB (Bj fl) n0 (by rw[Mf];exact hl);refine fG ?_;clear hQ;kspl_open hQ;rw[Wy (kJ h3) (Yy _ 18 _) (Bl hmem n0 ⋯)];refine hQ _ _ ⟨_,rfl,iw,k3.len,k3.app _⟩
def YE{st:Store}{xs ys:List Int}{n:Nat}{s:Int}(fl:mH n xs ys)(hn:n<=100)(s0:0<=s)(s1:s<(n:Int)):Wp (Fi [bO xs ys,.int s] st) λd st'=>d=uN xs ys s n/\Ex [] st st':=by
 obtain⟨tx,ty,all⟩:=fl;have hlx:=tx.length;have Cs:=ty.length;refine iK ?_;show Ws (Ie [some (bO xs ys),some (.int s),none,none,none] st) _ _ _ _;unfold Ie;refine aZ (bZ ?_);kspl_open hQ;refine⟨rfl,hQ _ _ (aZ (HG ((af.upto n).map D.int) (st.length+2) (λk δ st2=>∃(v3 v4:Option D),δ=[some (bO xs ys),some (.int s),some (.ref st.length),v3,v4]/\st2[st.length]?=some (.lst ((af.bf xs ys s k).map D.int))/\st2[st.length+2]?=some (.lst ((af.upto n).map D.int))/\Ex [] st st2) ?_ ?_ ?_ ?_ ?_))⟩;clear hQ;unfold bO;kspl_open hQ;rw[Zx,hlx,show((n:Int)-0).toNat=n by lk,qA];have e:(st ++ [O.lst [D.int s]] ++ [O.iE 0 (n:Int)]).length=st.length+2:=by simp
 rw[e];exact⟨vm ⋯,hQ _ _ ⟨rfl,none,none,rfl,kg (kg iw),by rw[<- e];exact iw,((Ex.cj _).app _).app _⟩⟩;rw[Zx,af.oh];lk;rintro k δ st2 ⟨_,_,_,_,h,_⟩;exact bJ h;rintro k d δ st2 hd ⟨v3,v4,rfl,hl,hr,k2⟩;obtain⟨x',hx',rfl⟩:=EU hd;have hkn:=eu hx';rw[af.oh]at hkn;rw[af.BV hkn]at hx';cases hx';have wH:=af.DQ tx ty s0 s1 k;have hb1:=af.DQ tx ty s0 s1 (k+1);clear hQ;kspl_open hQ;refine hQ _ _ ?_;clear hQ;by_cases nK:k<(af.bf xs ys s k).length;obtain⟨x,hx⟩:∃x,(af.bf xs ys s k)[k]?=some x:=⟨_,Zy nK⟩;obtain⟨x0,x1⟩:=af.rO tx ty s0 s1 k x (ZF hx);have e1:af.bf xs ys s (k+1)=af.visit xs ys (af.bf xs ys s k) x:=by
  show(match (af.bf xs ys s k)[k]? with|some x=>af.visit xs ys (af.bf xs ys s k) x|none=>af.bf xs ys s k)=_;rw[hx]
 rw[e1]at hb1 ⊢;have hp1:=(af.xD (af.cJ (af.bf xs ys s k) (af.app xs x)) (af.app ys x)).length_le;have hp0:=(af.xD (af.bf xs ys s k) (af.app xs x)).length_le;change _<=(af.visit xs ys (af.bf xs ys s k) x).length at hp1;refine nt [.tup (xs.map D.int),.tup (ys.map D.int)] (λm δ st3=>∃(v4:Option D) (G:List Int),δ=[some (bO xs ys),some (.int s),some (.ref st.length),some (.int (k:Int)),v4]/\st3[st.length]?=some (.lst (G.map D.int))/\st3[st.length+2]?=some (.lst ((af.upto n).map D.int))/\(m=0->G=af.bf xs ys s k)/\(m=1->G=af.cJ (af.bf xs ys s k) (af.app xs x))/\(m=2->G=af.visit xs ys (af.bf xs ys s k) x)/\Ex [] st st3) ?_ (by simp) ?_ ?_;unfold bO;kspl_open hQ;exact hQ _ _ ⟨rfl,v4,_,rfl,hl,hr,λ_=>rfl,λz=>by lk,λz=>by lk,k2⟩;rintro m z δ st3 hm ⟨v4,G,rfl,hl3,qf,g0,g1,_,k3⟩;have hm2:m<2:=eu hm;obtain⟨zs,rfl,tz,em⟩:∃(zs:List Int),z=.tup (zs.map D.int)/\af.Tn n zs/\((m=0/\zs=xs)\/(m=1/\zs=ys)):=by
  rcases(show m=0\/m=1 by lk)with rfl|rfl
  exact⟨xs,by simpa using hm.symm,tx,.inl ⟨rfl,rfl⟩⟩;exact⟨ys,by simpa using hm.symm,ty,.inr ⟨rfl,rfl⟩⟩
 have hG:G.length<=100/\G[k]?=some x/\k<G.length:=by
  rcases em with⟨rfl,_⟩|⟨rfl,_⟩
  rw[g0 rfl];exact⟨by lk,hx,nK⟩;rw[g1 rfl];refine⟨by lk,?_,by lk⟩;obtain⟨t,e⟩:=af.xD (af.bf xs ys s k) (af.app xs x);rw[<- e,ZQ nK];exact hx
 have Gp:∀G',G'=af.cJ G (af.app zs x)->(m+1=0->G'=af.bf xs ys s k)/\(m+1=1->G'=af.cJ (af.bf xs ys s k) (af.app xs x))/\(m+1=2->G'=af.visit xs ys (af.bf xs ys s k) x):=λG' e=>by
  rcases em with⟨rfl,rfl⟩|⟨rfl,rfl⟩
  exact⟨λz=>by lk,λ_=>by rw[e,g0 rfl],λz=>by lk⟩;exact⟨λz=>by lk,λz=>by lk,λ_=>by rw[e,g1 rfl];rfl⟩
 have hat:fB (G.map D.int) (k:Int)=some (.int x):=BL (by rw[ZO,hG.2.1];rfl);have hdt:decide ((k:Int)<((G.map D.int).length:Int))=true:=decide_eq_true (by rw[Zx];lk);kspl_open hQ;refine hQ _ _ (gL ?_);clear hQ;refine bX ?_;intro cY hQ;exists bJ hl3,hdt,hat,qQ (xs:=zs) x0 (by rw[tz.length];exact x1),HK (st:=st3) (c:=.ref st.length) (ns:=G) (bJ hl3);refine hQ _ _ ⟨λhc=>pL ?_,λhc=>iD ?_⟩;obtain⟨n0,n1,n2⟩:=Gp (G ++ [af.app zs x]) (Qz hc).symm;refine bX ?_;intro iy b5;exists bJ hl3,hat,qQ (xs:=zs) x0 (by rw[tz.length];exact x1),kJ hl3;refine⟨nu (by rw[bJ hl3];rfl),jV (by rw[Zx];lk),b5 _ _ ⟨_,G ++ [af.app zs x],rfl,?_,?_,n0,n1,n2,k3.loc (ZA _)⟩⟩;rw[ZI (eu hl3),ZS];rfl;rw[ZJ ⋯];exact qf;obtain⟨n0,n1,n2⟩:=Gp G (QA hc).symm;exact⟨_,G,rfl,hl3,qf,n0,n1,n2,k3⟩;rintro δ st3 ⟨v4,G,rfl,hl3,qf,_,_,g2,k3⟩;have g2:=g2 rfl;subst g2;exact⟨_,_,rfl,hl3,qf,k3⟩;have e1:af.bf xs ys s (k+1)=af.bf xs ys s k:=af.Hk (k:=k) ⋯ 1;rw[e1];have hdf:decide ((k:Int)<(((af.bf xs ys s k).map D.int).length:Int))=false:=decide_eq_false (by rw[Zx];lk);refine nt [.tup (xs.map D.int),.tup (ys.map D.int)] (λm δ st3=>∃(v4:Option D),δ=[some (bO xs ys),some (.int s),some (.ref st.length),some (.int (k:Int)),v4]/\st3=st2) ?_ (by simp) ?_ ?_;unfold bO;kspl_open hQ;exact hQ _ _ ⟨rfl,v4,rfl,rfl⟩;rintro m z δ st3 hm ⟨v4,rfl,rfl⟩;kspl_open hQ;refine hQ _ _ (gL ?_);clear hQ;refine bX ?_;intro cY hQ;exists bJ hl,hdf;exact hQ _ _ ⟨λh=>absurd h ∅,λ_=>iD ⟨_,rfl,rfl⟩⟩;rintro δ st3 ⟨v4,rfl,rfl⟩;exact⟨_,_,rfl,hl,hr,k2⟩;rintro δ st2 ⟨v3,v4,rfl,hl,hr,k2⟩;rw[Zx,af.oh]at hl;have tb:=af.Hl tx ty s0 s1 all;have hlb:=tb.length;generalize Gw:af.bf xs ys s n=sq at hl tb hlb ⊢;clear hQ;unfold bO;refine fG ?_;kspl_open hQ;refine sN [.tup (xs.map D.int),.tup (ys.map D.int)] (λd=>match d with|.tup ds=>.tup ((af.num (ds.map inD) sq).map D.int)|_=>.non) ?_ (by simp) ?_ ?_;kspl_open b5;exact b5 _ _ ⟨sZ _ _,Ex.refl⟩;intro d hd st3 k3;obtain⟨zs,rfl,tz⟩:∃zs:List Int,d=.tup (zs.map D.int)/\af.Tn n zs:=by
  rcases ZY.mp hd with rfl|hd
  exact⟨xs,rfl,tx⟩;exact⟨ys,ZU.mp hd,ty⟩
 have hl3:=k3.keep _ _ hl (by simp);refine bX ?_;intro iy b5;exists ZT,Zag,Zab,Zac;refine sN (sq.map D.int) (λd=>.int (sq.idxOf (af.app zs (inD d)):Int)) ?_ (by rw[Zx];lk) ?_ ?_;kspl_open qV;exact⟨_,bJ hl3,qV _ _ ⟨Wg (bJ hl3),Ex.refl⟩⟩;intro d hd kh k4;obtain⟨x,hx,rfl⟩:=xZ hd;obtain⟨x0,x1⟩:=tb.bound hx;obtain⟨a0,a1⟩:=tz.app x0 x1;have tj:=k4.keep _ _ hl3 (by simp);refine bX ?_;intro Bh qV;exists ZT,Zag,Zab,Zac,qQ (xs:=zs) x0 (by rw[tz.length];exact x1),VX (bJ tj) (tb.mem a0 a1) ⋯ (λi hi=>by have:=tb.bound hi;lk);exact⟨nu (by rw[bJ tj];rfl),qV _ _ ⟨rfl,Ex.refl⟩⟩;intro kh k4;rw[B9 (f:=λx=>(sq.idxOf (af.app zs x):Int)) λx hx=>rfl];w_how;refine b5 _ _ ⟨?_,k4.app _⟩;show D.tup _=D.tup ((af.num ((zs.map D.int).map inD) sq).map D.int);rw[PH];rfl;intro st3 k3;w_how;refine hQ _ _ ⟨?_,(k2.trans k3).app _⟩;simp only[ZT,Zag,PH];unfold uN;rw[Gw];rfl
def wJ{n:Nat}{p:af.aP}(w:af.Wh n p):mH n p.1 p.2:=⟨w.v.1,w.v.2,w.all⟩
def Bm{n:Nat}(p:af.aP)(n0:0<n):∃s:Int,0<=s/\s<(n:Int)/\af.bG n p=af.iS p n s:=by
 have h:=(af.Hq (l:=(af.upto n).map (af.iS p n)) (λe=>by
  have:=congrArg List.length e;rw[Zx,af.oh]at this;simp at this
  lk)).1
 obtain⟨s,hs,e⟩:=ZL.mp h;obtain⟨s0,s1⟩:=af.lE.mp hs;exact⟨s,s0,s1,e.symm⟩
def Bo{n:Nat}{p:af.aP}(w:af.Wh n p)(n0:0<n):af.bC n p (af.bG n p):=by obtain⟨s,s0,s1,e⟩:=Bm p n0;have tb:=w.bf s0 s1;refine⟨af.inv (af.bf p.1 p.2 s n),tb.az,?_⟩;rw[e,af.u3 w.v.1 tb,af.u3 w.v.2 tb];rfl
def QP{n:Nat}{p q:af.aP}(w:af.Wh n p)(n0:0<n)(a:af.bC n p q):af.Wh n q:=by obtain⟨g,tg,rfl⟩:=a;have:=af.rV (wJ w) tg n0;exact⟨⟨this.1,this.2.1⟩,this.2.2⟩
def Bp{n:Nat}{p:af.aP}(w:af.Wh n p)(n0:0<n):(af.bG n p).1.length=n:=((QP w n0 (Bo w n0)).v.1).length
def QQ(p:af.aP)(n:Nat):(aC 0 n).map (λd=>bO (af.iS p n (inD d)).1 (af.iS p n (inD d)).2)=((af.upto n).map (af.iS p n)).map λq=>bO q.1 q.2:=by rw[qA,Z1,Z1];rfl
def QR{st:Store}{xs ys:List Int}{n:Nat}(fl:mH n xs ys)(n0:0<n)(hn:n<=20):Wp (A8 [bO xs ys] st) λd st'=>d=bO (af.bG n (xs,ys)).1 (af.bG n (xs,ys)).2/\Ex [] st st':=by have hlx:=fl.1.length;refine iK ?_;show Ws (IG [some (bO xs ys)] st) _ _ _ _;unfold IG;refine fG ?_;kspl_open hQ;refine sN (aC 0 n) (λd=>bO (af.iS (xs,ys) n (inD d)).1 (af.iS (xs,ys) n (inD d)).2) ?_ (by rw[gP];lk) ?_ ?_;unfold bO;kspl_open b5;rw[Zx,hlx];exact⟨by lk,b5 _ _ ⟨by rw[ZP];exact sZ _ _,Ex.refl⟩⟩;intro d hd st2 k2;rw[qA]at hd;obtain⟨x,hx,rfl⟩:=xZ hd;obtain⟨x0,x1⟩:=af.lE.mp hx;refine bX ?_;intro iy b5;exists ZT,Zag,Zab,Zac;refine bg (Me fl ⋯ x0 x1) ?_;rintro d st3 ⟨rfl,k3⟩;exact b5 _ _ ⟨rfl,k3⟩;intro st' k';rw[QQ,Qa (kJ iw) (by rw[Zx,af.oh];exact n0)];exact hQ _ _ ⟨rfl,k'.app _⟩
def Jq{st:Store}{xs ys:List Int}{n:Nat}(fl:mH n xs ys)(n0:0<n)(hn:n<=20):Wp (uM [bO xs ys] st) λd st'=>d=bO (af.bG n (xs,ys)).1 (af.bG n (xs,ys)).2/\Ex [] st st':=by have hlx:=fl.1.length;refine iK ?_;show Ws (Ih [some (bO xs ys)] st) _ _ _ _;unfold Ih;refine fG ?_;kspl_open hQ;refine sN (aC 0 n) (λd=>bO (af.iS (xs,ys) n (inD d)).1 (af.iS (xs,ys) n (inD d)).2) ?_ (by rw[gP];lk) ?_ ?_;unfold bO;kspl_open b5;rw[Zx,hlx];exact⟨by lk,b5 _ _ ⟨by rw[ZP];exact sZ _ _,Ex.refl⟩⟩;intro d hd st2 k2;rw[qA]at hd;obtain⟨x,hx,rfl⟩:=xZ hd;obtain⟨x0,x1⟩:=af.lE.mp hx;refine bX ?_;intro iy b5;exists ZT,Zag,Zab,Zac;refine bg (YE fl ⋯ x0 x1) ?_;rintro d st3 ⟨rfl,k3⟩;exact b5 _ _ ⟨rfl,k3⟩;intro st' k';rw[QQ,Qa (kJ iw) (by rw[Zx,af.oh];exact n0)];exact hQ _ _ ⟨rfl,k'.app _⟩
def DO{n:Nat}{f:Int->Int}{x:Int}(x0:0<=x)(x1:x<(n:Int)):af.app ((af.upto n).map f) x=f x:=by unfold af.app;rw[ZG,ZO,af.BV ⋯];show f ((x.toNat:Nat):Int)=f x;rw[Z0 x0]
def YF{n:Nat}{l:List Int}(hl:l.length=n):sortI l=af.upto l.length↔af.Tn n l:=by constructor;intro h;have p:(sortI l).Perm l:=Zbz _ _;rw[h,hl]at p;exact p.symm;intro h;rw[hl];refine(Pa h.symm ?_).symm;unfold af.upto;rw[ZaX];exact Zbp.imp λh=>by lk
def YG{st:Store}{Q:D->Store->Prop}{ns:List Int}(hl:ns.length<64):Wp (kc [.tup (ns.map D.int)] st) Q↔Q (.ref st.length) (st ++ [.lst ((sortI ns).map D.int)]):=by
 have e:kc [.tup (ns.map D.int)] st=some (.ref st.length,st ++ [.lst ((sortI ns).map D.int)]):=by
  show(match (bH iV (ns.map D.int))with|some ns=>if ns.length<64 then some (D.ref st.length,st ++ [O.lst ((sortI ns).map D.int)])else none|none=>none)=_;rw[uu (f:=iV) (g:=D.int) (k:=id) (λ_=>rfl) ns,ZaT,];exact if_pos hl
 rw[e,bu]
def Bq{g:Int}{s:ff}(h:Gv g s):af.gR s:=⟨h.1,h.2.2⟩
def Mg{w:List ff}(h:∀s∈w,af.gR s):∀s∈w,Gu s:=λs hs=>(h s hs).1
def Mh:∀(w:List ff) (p:List Int×List Int),lb p w=af.gh p w:=by
 have hq:∀(p:List Int×List Int) (j:Nat),nW p.1 p.2 j=af.nG j p:=λp j=>by
  induction j with
  |zero=>rfl
  |succ j ih=>show(af.inv (nW p.1 p.2 j).2,(nW p.1 p.2 j).1)=af.Qt (af.nG j p);rw[ih];rfl
 have hs:∀(p:List Int×List Int) (s:ff),iq p s=af.stM p s:=λp s=>by
  unfold iq af.stM;rw[hq];rfl
 intro w
 induction w with
 |nil=>intro p;rfl
 |cons s w ih =>
  intro p;show lb (iq p s) w=af.gh (af.stM p s) w;rw[hs,ih]
open Classical in
def YH{st:Store}{Q:D->Store->Prop}{neg:Bool}{n a b:Nat}{ds es:List D}(ha:items st a=some ds)(hb:items st b=some es)(h1:∀d∈ds,pU n d)(h2:∀d∈es,pU n d)(hn:n<=14):Wp (gO neg (.ref a) (.ref b) st) Q↔Q (.bl (if neg then !decide (ds=es)else decide (ds=es))) st:=by
 have p1:∀(i:Nat) (l:List D),items st i=some l->(∀d∈l,pU n d)->cW st 20 (.ref i)=some (.list (l.map (iL n))):=λi l h hl=>by
  simp only[cW,h];rw[EY (g:=iL n) λx hx=>vn n x (hl x hx) 19 ⋯ st];rfl
 have e:PyData.eqv (.list (ds.map (iL n))) (.list (es.map (iL n)))=decide (ds=es):=by
  rw[Lo];have:=LD (Ca n) ds es h1 h2;cases h:PyData.eqvAll (ds.map (iL n)) (es.map (iL n))with
  |true=>exact(decide_eq_true (this.mp h)).symm
  |false=>exact(decide_eq_false λz=>by rw[this.mpr z]at h;cases h).symm
 have ly:∀l:List D,(∀d∈l,pU n d)->PyData.canLay0 (.list (l.map (iL n)))=true/\PyData.depth (.list (l.map (iL n)))<=n+1:=λl hl=>by
  refine⟨?_,?_⟩;show PyData.canLayAll0 (l.map (iL n))=true;exact LA λx hx=>by
   obtain⟨d,hd,rfl⟩:=ZL.mp hx;exact(uG n d (hl d hd)).1
  show PyData.depthAll (l.map (iL n))+1<=n+1
  have:=LC (n:=n) (l:=l.map (iL n)) λx hx=>by
   obtain⟨d,hd,rfl⟩:=ZL.mp hx;exact(uG n d (hl d hd)).2
  lk
 rw[HI];constructor;rintro⟨p,q,e1,e2,_,h⟩;rw[p1 a ds ha h1]at e1;rw[p1 b es hb h2]at e2;cases e1;cases e2;rw[e]at h;exact h;intro h;refine⟨_,_,p1 a ds ha h1,p1 b es hb h2,⟨(ly ds h1).1,(ly es h2).1,?_⟩,?_⟩
 have:=(ly ds h1).2
 lk;rw[e];exact h
def QS{R:List ff}{b:Bool}{k:Int}(pa:af.gR (b,k))(h:∀(t:ff) (r:List ff),R=t :: r->t.1≠b):af.bY R (b,k)=(if(if b=true then k else k % 4)=0 then R else(b,if b=true then k else k % 4) :: R):=by
 have e:(if b=true then k else k % 4)=k:=by
  cases b with
  |true=>rfl
  |false =>
   have:=pa.1 rfl;simp only at this;rw[if_neg ZC];lk
 rw[e,if_neg pa.2];exact af.KQ λt ht=>by
  cases R with
  |nil=>cases ht
  |cons x r=>cases ht;exactλz=>h _ _ rfl z.symm
def Mi{st s2:Store}{w0:D}{b:Bool}{k':Int}{R' X:List ff}{N B C:aj->Store->Prop}{R:D->Store->Prop}(h2:s2[st.length]?=some (.lst (R'.reverse.map bL)))(k2:Ex [] st s2)(hl:R'.length<=1000)(ep:X=(if(if b=true then k' else k' % 4)=0 then R' else(b,if b=true then k' else k' % 4) :: R'))
  (hN:∀(v3:Option D) (s:Store),s[st.length]?=some (.lst (X.reverse.map bL))->Ex [] st s->N [some w0,some (.ref st.length),some (.str (if b then "s" else "t")),v3] s) :
  Ws (ay (dN (aA (aB (kI false) (ag 2) (fC (.str "t")))) (aH (aB jS (ag 3) (fC (.int 4))) (hName 3)) aR) (dN (aA (aB (kI true) (ag 3) (fC (.int 0)))) (cc (jK "list" aU (ag 1) (ae (bS (ae (ag 2) (ae (ag 3) ah))) ah))) aR) [some w0,some (.ref st.length),some (.str (if b then "s" else "t")),some (.int k')] s2) N B C R:=by
 have fin:∀kk:Int,kk=(if b=true then k' else k' % 4)->Ws (dN (aA (aB (kI true) (ag 3) (fC (.int 0)))) (cc (jK "list" aU (ag 1) (ae (bS (ae (ag 2) (ae (ag 3) ah))) ah))) aR [some w0,some (.ref st.length),some (.str (if b then "s" else "t")),some (.int kk)] s2) N B C R:=λkk hk=>by
  rw[<- hk]at ep;refine gL ?_;kspl_open hQ;by_cases z:kk=0;refine hQ _ _ ⟨λy=>absurd z (by simpa using y),λ_=>iD (hN _ _ ?_ k2)⟩;rw[ep,if_pos z];exact h2;refine hQ _ _ ⟨λ_=>pL ?_,λy=>absurd y (by simp[z])⟩;clear hQ;refine bX ?_;intro cY hQ;exists kJ h2;refine⟨nu (by rw[bJ h2];rfl),rfl,jV (by rw[Zx,Zbi];lk),hQ _ _ (hN _ _ ?_ (k2.loc (ZA _)))⟩;rw[ZI (eu h2),ep,if_neg z,Zbb,ZS];rfl
 refine aZ (gL ?_);cases b with
 |true =>
  kspl_open hQ;exact hQ _ _ ⟨λz=>absurd z ∅,λ_=>iD (fin k' rfl)⟩
 |false =>
  kspl_open hQ;refine hQ _ _ ⟨λ_=>bZ ?_,λz=>absurd z ∅⟩;clear hQ;kspl_open hQ;exact⟨by decide,hQ _ _ (fin (k' % 4) rfl)⟩
def YI{st:Store}{w:List ff}(hw:∀s∈w,af.gR s)(hl:w.length<=1000):Wp (Ck [.tup (w.map bL)] st) λd st'=>d=.tup ((af.j9 w).reverse.map bL)/\Ex [] st st':=by
 refine iK ?_;show Ws (Ik [some (.tup (w.map bL)),none,none,none] st) _ _ _ _;unfold Ik;refine aZ (bZ ?_);kspl_open hQ;refine⟨rfl,hQ _ _ ?_⟩;clear hQ;show Ws _ _ _ _ _;refine aZ (nt (w.map bL) (λi δ s=>∃v2 v3:Option D,δ=[some (.tup (w.map bL)),some (.ref st.length),v2,v3]/\s[st.length]?=some (.lst ((af.j9 (w.take i)).reverse.map bL))/\Ex [] st s) ?_ (by rw[Zx];lk) ?_ ?_);kspl_open hQ;exact hQ _ _ ⟨rfl,none,none,rfl,iw,Ex.cj _⟩;rintro i d δ s hd ⟨v2,v3,rfl,hs,kx⟩;rw[ZO]at hd;obtain⟨a,ha,rfl⟩:=Z4.mp hd;obtain⟨hi,ea⟩:=Zz.mp ha;have pa:=hw a (ZF ha);have et:af.j9 (w.take (i+1))=af.bY (af.j9 (w.take i)) a:=by
  rw[Z9 hi,af.KR,ea];rfl
 have hlen:=af.KS (w.take i);rw[Zar]at hlen;have pl:af.Pl (af.j9 (w.take i)):=af.zm λs hs=>hw s (List.mem_of_mem_take hs);rw[et];generalize af.j9 (w.take i)=R at hs hlen pl ⊢;obtain⟨b,k⟩:=a;have es1:bL (b,k)=.tup [.str (if b then "s" else "t"),.int k]:=rfl;rw[es1];kspl_open hQ;refine⟨rfl,hQ _ _ (aZ (gL ?_))⟩;clear hQ;refine bX ?_;intro cY hQ;exists bJ hs;refine⟨rfl,?_⟩;have YJ:∀d∈R.reverse.map bL,pU 1 d:=λd hd=>by
  obtain⟨x,_,rfl⟩:=ZL.mp hd;exact x5 0 x
 rw[YH (n:=1) (ds:=R.reverse.map bL) (es:=[]) (bJ (kg hs)) sM YJ (λd hd=>nomatch hd) ∅];have hs1:=kg (m:=[O.lst []]) hs;have Jr:Ex [] st (s ++ [O.lst []]):=kx.app _;generalize s ++ [O.lst []]=s1 at hs1 Jr ⊢;have Gx:∀(t:ff) (r:List ff),R=t :: r->R.reverse.map bL=r.reverse.map bL ++ [bL t]:=λt r e=>by rw[e,Zbb,ZS];rfl
 cases R with
 |nil =>
  refine⟨false,by simp,?_⟩;rw[if_neg ∅];refine hQ _ _ ⟨λz=>absurd z ∅,λ_=>iD ?_⟩;refine Mi (X:=af.bY [] (b,k)) hs1 Jr (by simp) ?_ λv3 s h1 h2=>⟨_,_,rfl,h1,h2⟩;exact QS (R:=[]) pa (by simp)
 |cons t r =>
  have e1:=Gx t r rfl;refine⟨true,by simp,?_⟩;rw[if_pos rfl,bJ hs1,e1];refine⟨_,rfl,bL t,Md,?_⟩;obtain⟨bt,kt⟩:=t;have Jp:bL (bt,kt)=.tup [.str (if bt then "s" else "t"),.int kt]:=rfl;rw[Jp];w_how;have eD:decide ((if bt=true then("s" : Str)else "t")=if b=true then("s" : Str)else "t")=decide (bt=b):=by cases bt<;>cases b<;>decide
  rw[eD];by_cases hb:bt=b;subst hb;refine hQ _ _ ⟨λ_=>bZ ?_,λz=>absurd z (by simp)⟩;clear hQ;rw[e1]at hs1;refine bX ?_;intro cY hQ;exists AR;refine⟨nu (by rw[bJ hs1];rfl),?_⟩;rw[AX (kJ hs1),Jp];w_how;refine hQ _ _ ?_;have hs2:(s1.set st.length (.lst (r.reverse.map bL)))[st.length]?=some (.lst (r.reverse.map bL)):=ZI (eu hs1);refine Mi (X:=af.bY ((bt,kt) :: r) (bt,k)) hs2 (Jr.loc (ZA _)) (by rw[Z2]at hlen;lk) ?_ λv3 s h1 h2=>⟨_,_,rfl,h1,h2⟩;rw[af.u5,if_pos rfl];unfold af.cx af.iH;cases bt<;>simp<;>split<;>rfl;refine hQ _ _ ⟨λz=>absurd (of_decide_eq_true z) hb,λ_=>iD ?_⟩;refine Mi (X:=af.bY ((bt,kt) :: r) (b,k)) hs1 Jr ⋯ ?_ λv3 s h1 h2=>⟨_,_,rfl,h1,h2⟩;exact QS (R:=(bt,kt) :: r) pa (λt r e=>by cases e;exact hb)
 rintro δ s ⟨v2,v3,rfl,hs,kx⟩;rw[Zx,ZaS]at hs;refine fG ?_;refine bX ?_;intro cY hQ;exists bJ hs;exact hQ _ _ ⟨rfl,kx⟩
def QT(p:List Int×List Int)(s:ff):iq p s=af.stM p s:=by
 have hq:∀j,nW p.1 p.2 j=af.nG j p:=λj=>by
  induction j with
  |zero=>rfl
  |succ j ih=>show _=_;unfold nW af.nG;rw[ih];rfl
 unfold iq af.stM;split;rfl;exact hq _
def Js{p q:af.aP}(h:aY p=aY q):p=q:=by
 have h:D.tup [.tup (p.1.map D.int),.tup (p.2.map D.int)]=D.tup [.tup (q.1.map D.int),.tup (q.2.map D.int)]:=h;injection h with h;injection h with h1 h2;injection h2 with h2 _;have inj:∀{x y:List Int},D.tup (x.map D.int)=D.tup (y.map D.int)->x=y:=λ{x y} e=>by
  injection e with e;have:=congrArg (List.map inD) e;rw[Z1,Z1]at this;exact(ZaT x).symm.trans (this.trans (ZaT y))
 exact Prod.ext (inj h1) (inj h2)
def tm{α:Type}{fs:List α}{g:α->D}{k:Nat}{p:α}(h:fs[k]?=some p):fB (fs.map g) (k:Int)=some (g p):=by have hk:k<fs.length:=(Zz.mp h).1;unfold fB;rw[BP (by rw[Zx];exact hk)];show(fs.map g)[k]?=_;rw[ZO,h];rfl
def QU{fs:List af.aP}{F:af.aP}{j:Nat}(nd:fs.Nodup)(hj:fs[j]?=some F):∀i e,i<j->(fs.map aY)[i]?=some e->e≠aY F:=λi e hij he z=>by
 rw[ZO]at he;obtain⟨q,hq,rfl⟩:=Z4.mp he;have:=Js z;subst this;obtain⟨g1,g2⟩:=Zz.mp hq;obtain⟨g3,g4⟩:=Zz.mp hj;exact ZaI.mp nd i j g1 g3 hij (by rw[g2,g4])
def dg{α:Type}{l:List α}{k:Nat}{d:α}(h:k<l.length):l[k]?=some (l.getD k d):=by rw[ZG,Zy h];rfl
abbrev wD(w:List ff):D:=.tup (w.map bL)
def QV{s:Store}{a b c r n k:Nat}{p:af.aP}{fs:List af.aP}{ws:List (List ff)}{rs:List Nat}{L:List Int}{s1:ff}{v0 v1 v7:Option D}{N B C:aj->Store->Prop}{R:D->Store->Prop}
  (n0:0<n) (hn:n<=20) (hs:s1=(true,1)\/s1=(false,1)) (ab:a≠b) (ac:a≠c) (bc:b≠c) (ar:a≠r) (br:b≠r) (cr:c≠r)
  (ha:s[a]?=some (.lst (fs.map aY))) (hb:s[b]?=some (.lst (ws.map wD))) (hc:s[c]?=some (.lst (rs.map D.ref))) (hr:s[r]?=some (.lst (L.map D.int))) (hrk:rs[k]?=some r)
  (g:af.GR n p fs ws) (vp:af.Vf n p) (hk:k<fs.length) (few:fs.length<=100) (hL:L.length<=5)
  (hN:∀(v:Option D) (s':Store),s'[a]?=some (.lst ((af.a7 n fs ws k s1).1.map aY))->s'[b]?=some (.lst ((af.a7 n fs ws k s1).2.1.map wD))->s'[c]?=some (.lst (rs.map D.ref))->s'[r]?=some (.lst ((L ++ [((af.a7 n fs ws k s1).2.2:Int)]).map D.int))->Ex [a,b,r] s s'->N [v0,v1,some (.ref a),some (.ref b),some (.ref c),some (.int (k:Int)),some (bL s1),v] s') :
  Ws ((ay (aH (aM uM (ae (aM vw (ae (aB bW (ag 2) (ag 5)) (ae (ag 6) ah))) ah)) (hName 7))
 (ay (dN (aA (aB (mI true) (ag 7) (ag 2))) (ay (cc (jK "list" aU (ag 2) (ae (ag 7) ah)))
 (cc (jK "list" aU (ag 3) (ae (aM Ck (ae (aB lH (aB bW (ag 3) (ag 5)) (bS (ae (ag 6) ah))) ah)) ah)))) aR)
 (cc (jK "list" aU (aB bW (ag 4) (ag 5)) (ae (jK "list" eA (ag 2) (ae (ag 7) ah)) ah))))) [v0,v1,some (.ref a),some (.ref b),some (.ref c),some (.int (k:Int)),some (bL s1),v7] s) N B C R:=by
 have ek:=dg (d:=(([],[]):af.aP)) hk;have hkw:k<ws.length:=by rw[g.wl];exact hk
 have ew:=dg (d:=([]:List ff)) hkw;have ps:af.gR s1:=by rcases hs with rfl|rfl<;>exact⟨λ_=>by decide,by decide⟩
 have gN:=af.vt n0 g vp hk hs;have lN:(af.a7 n fs ws k s1).1.length<=101:=by have:=gN.2.2.2.1;lk
 generalize hq:fs.getD k ([],[])=q at ek;generalize hw:ws.getD k []=w at ew;obtain⟨wq,oq⟩:=g.own q (ZF ek);obtain⟨pw,lw,nw,-⟩:=g.wd k w ew;have hat:fB (fs.map aY) (k:Int)=some (aY q):=tm ek;have Mj:fB (rs.map D.ref) (k:Int)=some (.ref r):=tm hrk;refine aZ (bZ ?_);refine bX ?_;intro cY hQ;exists bJ ha,hat;refine bg (QI (p:=q) (s:=s1) ⟨wq.v.1,wq.v.2⟩ ⋯ ps.1) ?_;rintro d t1 ⟨rfl,k1⟩;rw[QT];have E4:=wq.st n0 s1;have eS:aY (af.stM q s1)=bO (af.stM q s1).1 (af.stM q s1).2:=rfl;rw[eS];refine bg (Jq (wJ E4) n0 hn) ?_;rintro d t2 ⟨rfl,k2⟩;have eF:bO (af.bG n ((af.stM q s1).1,(af.stM q s1).2)).1 (af.bG n ((af.stM q s1).1,(af.stM q s1).2)).2=aY (af.bG n (af.stM q s1)):=rfl;rw[eF];have se:=k1.trans k2;have ha2:=se.keep _ _ ha (by simp);have hb2:=se.keep _ _ hb (by simp);have hc2:=se.keep _ _ hc (by simp);have hr2:=se.keep _ _ hr (by simp);have pf:∀q:af.aP,pU 2 (aY q):=λq=>AO 0 _ _;have rest:∀ {s3:Store},s3[a]?=some (.lst ((af.a7 n fs ws k s1).1.map aY))->s3[b]?=some (.lst ((af.a7 n fs ws k s1).2.1.map wD))->s3[c]?=some (.lst (rs.map D.ref))->s3[r]?=some (.lst (L.map D.int))->Ex [a,b,r] s s3->(af.a7 n fs ws k s1).1[(af.a7 n fs ws k s1).2.2]?=some (af.bG n (af.stM q s1)) ->
   Ws ((cc (jK "list" aU (aB bW (ag 4) (ag 5)) (ae (jK "list" eA (ag 2) (ae (ag 7) ah)) ah))) [v0,v1,some (.ref a),some (.ref b),some (.ref c),some (.int (k:Int)),some (bL s1),some (aY (af.bG n (af.stM q s1)))] s3) N B C R:=by
  intro s3 qW qX hc3 qf k3 hj;refine pL ?_;refine bX ?_;intro iy b5;exists bJ hc3,Mj;refine⟨nu (by rw[bJ qf];rfl),nu (by rw[bJ qW];rfl),?_⟩;rw[Ql (n:=2) (j:=(af.a7 n fs ws k s1).2.2) (pf _) (bJ qW) (λe he=>by obtain⟨q,_,rfl⟩:=ZL.mp he;exact pf q) ∅ (by rw[Zx];lk) (by rw[ZO,hj];rfl) (QU gN.1.nd hj)];exists kJ qf;refine⟨jV (by rw[Zx];lk),b5 _ _ (hN _ _ ?_ ?_ ?_ ?_ ?_)⟩;rw[ZJ (Ne.symm ar)];exact qW;rw[ZJ (Ne.symm br)];exact qX;rw[ZJ (Ne.symm cr)];exact hc3;rw[ZI (eu qf),ZS];rfl;exact k3.put (by simp)
 have hj:(af.a7 n fs ws k s1).1[(af.a7 n fs ws k s1).2.2]?=some (af.bG n (af.stM q s1)):=by
  obtain⟨q',h1,h2⟩:=gN.2.2.2.2;rw[ek]at h1;cases h1;exact h2
 refine hQ _ _ (aZ (gL ?_));clear hQ;kspl_open hQ;have Gw:cD t2 (.ref a)=some (fs.map aY):=bJ ha2;rw[E1 (n:=2) (es:=fs.map aY) (pf _) Gw (λe he=>by obtain⟨q,_,rfl⟩:=ZL.mp he;exact pf q) ∅];by_cases hm:af.bG n (af.stM q s1)∈fs;have hm':aY (af.bG n (af.stM q s1))∈fs.map aY:=ZL.mpr ⟨_,hm,rfl⟩;have eR:af.a7 n fs ws k s1=(fs,ws,fs.idxOf (af.bG n (af.stM q s1))):=by unfold af.a7;rw[hq,if_pos hm]
 refine⟨false,by simp[hm'],hQ _ _ ⟨λz=>(nomatch z),λ_=>iD (rest ?_ ?_ hc2 hr2 se.any hj)⟩⟩;rw[eR];exact ha2;rw[eR];exact hb2;have hm':aY (af.bG n (af.stM q s1)) ∉ fs.map aY:=λz=>by
  obtain⟨q',h1,h2⟩:=ZL.mp z;exact hm (Js h2 ▸ h1)
 have eR:af.a7 n fs ws k s1=(fs ++ [af.bG n (af.stM q s1)],ws ++ [(af.j9 (w ++ [s1])).reverse],fs.length):=by unfold af.a7;rw[hq,hw,if_neg hm]
 refine⟨true,by simp[hm'],hQ _ _ ⟨λ_=>?_,λz=>(nomatch z)⟩⟩;clear hQ;refine aZ (pL ?_);refine bX ?_;intro cY hQ;exists kJ ha2;refine⟨nu (by rw[bJ ha2];rfl),jV (by rw[Zx];lk),hQ _ _ (pL ?_)⟩;clear hQ;have em:fs.map aY ++ [aY (af.bG n (af.stM q s1))]=(af.a7 n fs ws k s1).1.map aY:=by rw[eR,ZS];rfl
 rw[em];have qW:(t2.set a (.lst ((af.a7 n fs ws k s1).1.map aY)))[a]?=some (.lst ((af.a7 n fs ws k s1).1.map aY)):=ZI (eu ha2);have qX:(t2.set a (.lst ((af.a7 n fs ws k s1).1.map aY)))[b]?=some (.lst (ws.map wD)):=by rw[ZJ ab];exact hb2
 have hc3:(t2.set a (.lst ((af.a7 n fs ws k s1).1.map aY)))[c]?=some (.lst (rs.map D.ref)):=by rw[ZJ ac];exact hc2
 have qf:(t2.set a (.lst ((af.a7 n fs ws k s1).1.map aY)))[r]?=some (.lst (L.map D.int)):=by rw[ZJ ar];exact hr2
 have k3:Ex [a,b,r] s (t2.set a (.lst ((af.a7 n fs ws k s1).1.map aY))):=(se.any).put (by simp);generalize t2.set a (.lst ((af.a7 n fs ws k s1).1.map aY))=s3 at qW qX hc3 qf k3 ⊢;have Br:fB (ws.map wD) (k:Int)=some (wD w):=tm ew;refine bX ?_;intro cY hQ;exists bJ qX,Br;refine⟨nu (by rw[bJ qX];rfl),rfl,?_⟩;have e1:w.map bL ++ [bL s1]=(w ++ [s1]).map bL:=by rw[ZS];rfl
 unfold wD;w_how;rw[e1];refine⟨jV (by rw[Zx];show _+1<=_;lk),?_⟩;have cy:∀x∈w ++ [s1],af.gR x:=λx hx=>by
  rcases Z6.mp hx with h|h
  exact af.Pl.pr pw x (ZaR.mpr h);rw[ZU.mp h];exact ps
 refine bg (YI (w:=w ++ [s1]) cy (by rw[ZH];show _+1<=_;lk)) ?_;rintro d s4 ⟨rfl,k4⟩;have Gy:=k4.keep _ _ qW (by simp);have Bs:=k4.keep _ _ qX (by simp);have hc4:=k4.keep _ _ hc3 (by simp);have YK:=k4.keep _ _ qf (by simp);exists kJ Bs;refine⟨jV (by rw[Zx,g.wl];lk),hQ _ _ (rest ?_ ?_ ?_ ?_ ((k3.trans k4.any).put (by simp)) hj)⟩;rw[ZJ (Ne.symm ab)];exact Gy;rw[ZI (eu Bs),eR,ZS];rfl;rw[ZJ bc];exact hc4;rw[ZJ br];exact YK
abbrev wK(p:af.aP)(w:List ff)(l:Nat×Nat):D:=.tup [aY p,wD w,.int (l.1:Int),.int (l.2:Int)]
abbrev qR(c:af.CS)(N:Nat):D:=.tup ((List.range N).map λk=>wK (c.1.getD k ([],[])) (c.2.1.getD k []) (c.2.2.getD k (0,0)))
structure wL(st s:Store)(ia ib ic:Nat)(fs:List af.aP)(ws:List (List ff))(ls:List (Nat×Nat))(rs:List Nat):Prop where
 a:s[ia]?=some (.lst (fs.map aY))
 b:s[ib]?=some (.lst (ws.map wD))
 c:s[ic]?=some (.lst (rs.map D.ref))
 l:ls.length<=rs.length
 r:∀(k r:Nat) (l:Nat×Nat),rs[k]?=some r->ls[k]?=some l->s[r]?=some (.lst [.int (l.1:Int),.int (l.2:Int)])
 h:∀r∈rs,ic<r/\r<s.length
 e:Ex [] st s
def Gz{x y:D}:fB [x,y] 0=some x:=rfl
def GA{x y:D}:fB [x,y] 1=some y:=rfl
def YL{st:Store}{p:af.aP}{n most:Nat}(w0:af.Wh n p)(n0:0<n)(hn:n<=20)(m1:1<=most)(Bt:most<=60):Wp (Ft [aY p,.int (most:Int)] st) λd st'=>Ex [] st st'/\((∃N,N<=most/\af.Full n p (af.ch n p N) N/\(∀j,j<N->j<(af.ch n p j).1.length)/\d=qR (af.ch n p N) N)\/(d=.non/\∃i,(∀j,j<i->j<(af.ch n p j).1.length)/\most<(af.ch n p i).1.length)):=by
 refine iK ?_;show Ws (Il [some (aY p),some (.int (most:Int)),none,none,none,none,none,none] st) _ _ _ _;unfold Il;refine aZ (bZ ?_);kspl_open hQ;refine bg (Jq (wJ w0) n0 hn) ?_;rintro d s1 ⟨rfl,k1⟩;refine⟨rfl,hQ _ _ (aZ (bZ ?_))⟩;clear hQ;kspl_open hQ;refine⟨rfl,rfl,hQ _ _ (aZ (bZ ?_))⟩;clear hQ;kspl_open hQ;refine⟨rfl,hQ _ _ ?_⟩;clear hQ;have eF:bO (af.bG n (p.1,p.2)).1 (af.bG n (p.1,p.2)).2=aY (af.bG n p):=rfl;rw[eF];obtain⟨a,b,c,s2,ea,eb,ec,es,ab,bc,la,I0⟩:∃(a b c:Nat) (s2:Store),s1.length=a/\(s1 ++ [O.lst [aY (af.bG n p)]]).length=b/\(s1 ++ [O.lst [aY (af.bG n p)]] ++ [O.lst [D.tup []]]).length=c/\s1 ++ [O.lst [aY (af.bG n p)]] ++ [O.lst [D.tup []]] ++ [O.lst []]=s2/\a<b/\b<c/\st.length<=a/\wL st s2 a b c (af.ch n p 0).1 (af.ch n p 0).2.1 (af.ch n p 0).2.2 [] :=
  ⟨_,_,_,_,rfl,rfl,rfl,rfl,by simp,by simp,k1.len,kg (kg iw),kg iw,iw,ZA _,(λk r l h=>nomatch h),(λr h=>nomatch h),((k1.app _).app _).app _⟩
 rw[ea,eb,ec,es];refine aZ (nt (aC 0 most) (λi δ s=>∃(v5 v6 v7:Option D) (j:Nat) (rs:List Nat),δ=[some (aY p),some (.int (most:Int)),some (.ref a),some (.ref b),some (.ref c),v5,v6,v7]/\j<=i/\(∀j',j' < j->j' < (af.ch n p j').1.length)/\(af.ch n p j).1.length<=most/\(j=i\/(af.ch n p j).1.length=j)/\rs.length=j/\wL st s a b c (af.ch n p j).1 (af.ch n p j).2.1 (af.ch n p j).2.2 rs) ?_ (by rw[gP];lk) ?_ ?_);kspl_open hQ;refine⟨by lk,hQ _ _ ⟨by rw[ZP],none,none,none,0,[],rfl,ZA _,(λj' h=>nomatch h),(show 1<=most from m1),.inl rfl,rfl,I0⟩⟩;rintro i d δ s hd ⟨v5,v6,v7,j,rs,rfl,hj,pr,few,jo,hrs,I⟩;have hi:i<most:=by have:=eu hd;rw[gP]at this;exact this
 rw[xT hi,ZaU]at hd;cases hd;have g:=af.E5 n0 w0 j pr;kspl_open hQ;refine hQ _ _ (gL ?_);clear hQ;refine bX ?_;intro cY hQ;exists bJ I.a;rw[Zx];refine hQ _ _ ⟨λz=>?_,λz=>iD ?_⟩;have z:i<(af.ch n p j).1.length:=by have:=of_decide_eq_true z;lk
 have ej:j=i:=by rcases jo with h|h<;>lk
 subst ej;clear hQ;have nH:=g.ll;have YM:=g.le;refine aZ (pL ?_);kspl_open hQ;have Ic:=kg (m:=[O.lst []]) I.c;refine⟨nu (by rw[bJ I.c];rfl),rfl,_,kJ Ic,jV (by rw[Zx];lk),hQ _ _ ?_⟩;clear hQ;have er:rs.map D.ref ++ [D.ref s.length]=(rs ++ [s.length]).map D.ref:=by rw[ZS];rfl
 rw[er];have lc:=eu I.c;have I1:wL st ((s ++ [O.lst []]).set c (.lst ((rs ++ [s.length]).map D.ref))) a b c (af.ch n p j).1 (af.ch n p j).2.1 (af.ch n p j).2.2 (rs ++ [s.length]):=by
  refine⟨?_,?_,ZI (eu Ic),by rw[ZH];have:=I.l;lk,λk r l h1 h2=>?_,λr hr=>?_,?_⟩;rw[ZJ ⋯];exact kg I.a;rw[ZJ ⋯];exact kg I.b;have hk:k<rs.length:=by have:=(Zz.mp h2).1;lk
  rw[ZQ hk]at h1;have hc:=I.h r (ZF h1);rw[ZJ ⋯];exact kg (I.r k r l h1 h2);rw[Zae,ZH];rcases Z6.mp hr with h|h
  have:=I.h r h;exact⟨this.1,Nat.lt_succ_of_lt this.2⟩
  rw[ZU.mp h];exact⟨lc,Zat _⟩;exact(I.e.app _).loc ⋯
 have hr1:((s ++ [O.lst []]).set c (.lst ((rs ++ [s.length]).map D.ref)))[s.length]?=some (.lst (([]:List Int).map D.int)):=by
  rw[ZJ ⋯];exact iw
 have hrk:(rs ++ [s.length])[j]?=some s.length:=by rw[ZW ⋯,hrs,ZaM];rfl
 have old:∀r∈rs,r≠s.length:=λr h=>by have:=I.h r h;lk
 have YN:c<s.length:=lc;generalize (s ++ [O.lst []]).set c (.lst ((rs ++ [s.length]).map D.ref))=s3 at I1 hr1;generalize s.length=r at I1 hr1 hrk old YN;have r1:=af.vt (s:=(true,1)) n0 g.r w0.v (k:=j) z (.inl rfl);have r2:=af.vt (s:=(false,1)) n0 r1.1 w0.v (k:=j) (by have:=r1.2.2.1;lk) (.inr rfl);have eS:af.kY n (af.ch n p j)=af.a7 n (af.ch n p j).1 (af.ch n p j).2.1 j (true,1):=by unfold af.kY;rw[nH]
 have eT:af.jW n (af.ch n p j)=af.a7 n (af.a7 n (af.ch n p j).1 (af.ch n p j).2.1 j (true,1)).1 (af.a7 n (af.ch n p j).1 (af.ch n p j).2.1 j (true,1)).2.1 j (false,1):=by unfold af.jW;rw[eS,nH]
 have mk:∀{fs fs':List af.aP} {ws B8:List (List ff)} {s s':Store},wL st s a b c fs ws (af.ch n p j).2.2 (rs ++ [r])->s'[a]?=some (.lst (fs'.map aY))->s'[b]?=some (.lst (B8.map wD))->s'[c]?=some (.lst ((rs ++ [r]).map D.ref))->Ex [a,b,r] s s'->wL st s' a b c fs' B8 (af.ch n p j).2.2 (rs ++ [r]):=by
  intro fs fs' ws B8 s s' J h1 h2 h3 k;refine⟨h1,h2,h3,J.l,λi r' l e1 e2=>?_,λr' hr=>?_,⟨Z3 J.e.len k.len,λi o e n=>k.keep i o (J.e.keep i o e n) (by have:=eu e;simp;lk)⟩⟩;have hk:i<rs.length:=by have:=(Zz.mp e2).1;lk
  have xu:=e1;rw[ZQ hk]at xu;have hm:=ZF xu;have hc:=J.h r' (ZF e1);have:=old r' hm;exact k.keep _ _ (J.r i r' l e1 e2) (by simp;lk);have hc:=J.h r' hr;exact⟨hc.1,Z5 hc.2 k.len⟩
 refine aZ (nt [bL (true,1),bL (false,1)] (λm δ s=>∃(v6 v7:Option D),δ=[some (aY p),some (.int (most:Int)),some (.ref a),some (.ref b),some (.ref c),some (.int (j:Int)),v6,v7]/\((m=0/\wL st s a b c (af.ch n p j).1 (af.ch n p j).2.1 (af.ch n p j).2.2 (rs ++ [r])/\s[r]?=some (.lst (([]:List Int).map D.int)))\/(m=1/\wL st s a b c (af.kY n (af.ch n p j)).1 (af.kY n (af.ch n p j)).2.1 (af.ch n p j).2.2 (rs ++ [r])/\s[r]?=some (.lst (([((af.kY n (af.ch n p j)).2.2:Int)]:List Int).map D.int)))\/(m=2/\wL st s a b c (af.jW n (af.ch n p j)).1 (af.jW n (af.ch n p j)).2.1 (af.ch n p j).2.2 (rs ++ [r])/\s[r]?=some (.lst (([((af.kY n (af.ch n p j)).2.2:Int),((af.jW n (af.ch n p j)).2.2:Int)]:List Int).map D.int))))) ?_ ∅ ?_ ?_);kspl_open hQ;exact⟨rfl,rfl,rfl,hQ _ _ ⟨rfl,v6,v7,rfl,.inl ⟨rfl,I1,hr1⟩⟩⟩;rintro m d δ s5 hd ⟨v6,v7,rfl,hm⟩;kspl_open hQ;refine hQ _ _ ?_;clear hQ;rcases hm with⟨rfl,J,hr⟩|⟨rfl,J,hr⟩|⟨rfl,J,hr⟩
 cases(show some (bL (true,1))=some d from hd);refine QV (s1:=(true,1)) n0 hn (.inl rfl) ⋯ ⋯ ⋯ ⋯ ⋯ ⋯ J.a J.b J.c hr hrk g.r w0.v z ⋯ (by simp) λv s' h1 h2 h3 h4 h5=>?_;refine⟨_,v,rfl,.inr (.inl ⟨rfl,?_,?_⟩)⟩;rw[eS];exact mk J h1 h2 h3 h5;rw[eS];exact h4;cases(show some (bL (false,1))=some d from hd);rw[eS]at J hr;refine QV (s1:=(false,1)) n0 hn (.inr rfl) ⋯ ⋯ ⋯ ⋯ ⋯ ⋯ J.a J.b J.c hr hrk r1.1 w0.v (by have:=r1.2.2.1;lk) (by have:=r1.2.2.2.1;lk) (by simp) λv s' h1 h2 h3 h4 h5=>?_;refine⟨_,v,rfl,.inr (.inr ⟨rfl,?_,?_⟩)⟩;rw[eT];exact mk J h1 h2 h3 h5;rw[eT,eS];exact h4;cases(show none=some d from hd);rintro δ s5 ⟨v6,v7,rfl,⟨h,_⟩|⟨h,_⟩|⟨_,J,hr⟩⟩;cases h;cases h;have QW:∀j',j' < j+1->j' < (af.ch n p j').1.length:=λj' h=>by
  rcases Zbd j' j with h'|h'
  exact pr j' h'
  have:j'=j:=by lk
  subst this;exact z
 have J2:wL st s5 a b c (af.ch n p (j+1)).1 (af.ch n p (j+1)).2.1 (af.ch n p (j+1)).2.2 (rs ++ [r]):=by
  refine⟨J.a,J.b,J.c,?_,λk r' l e1 e2=>?_,J.h,J.e⟩;show((af.ch n p j).2.2 ++ [_]).length<=_;rw[ZH,ZH,nH,hrs];exact ZA _;have e2:((af.ch n p j).2.2 ++ [((af.kY n (af.ch n p j)).2.2,(af.jW n (af.ch n p j)).2.2)])[k]?=some l:=e2;by_cases hk:k<(af.ch n p j).2.2.length;rw[ZQ hk]at e2;exact J.r k r' l e1 e2;have hk2:k=j:=by
   have:=(Zz.mp e2).1;rw[ZH]at this;have:k<(af.ch n p j).2.2.length+1:=this;lk
  subst hk2;rw[ZW ⋯,nH,ZaM]at e2;cases(show some _=some l from e2);rw[hrk]at e1;cases e1;exact hr
 refine gL ?_;refine bX ?_;intro cY hQ;exists bJ J2.a;rw[Zx];refine hQ _ _ ⟨λy=>fG ?_,λy=>iD ⟨_,_,_,j+1,_,rfl,ZA _,QW,?_,.inl rfl,?_,J2⟩⟩;clear hQ;kspl_open hQ;exact hQ _ _ ⟨J2.e,.inr ⟨rfl,j+1,QW,by have:=of_decide_eq_true y;lk⟩⟩
 have:=of_decide_eq_false y;lk
 rw[ZH,hrs];rfl;have z:¬i<(af.ch n p j).1.length:=by have:=of_decide_eq_false z;lk
 have:=g.le;exact⟨_,_,_,j,rs,rfl,by lk,pr,few,by lk,hrs,I⟩
 rintro δ s ⟨v5,v6,v7,j,rs,rfl,hj,pr,few,jo,hrs,I⟩;rw[gP]at hj jo;have g:=af.E5 n0 w0 j pr;have YM:=g.le;have Mk:(af.ch n p j).1.length=j:=by rcases jo with h|h<;>lk
 have yf:af.Full n p (af.ch n p j) j:={ toGC:=g,fl:=Mk };refine fG ?_;kspl_open hQ;generalize hC:af.ch n p j=C at I g Mk yf;refine sN (aC 0 j) (λd=>wK (C.1.getD (inD d).toNat ([],[])) (C.2.1.getD (inD d).toNat []) (C.2.2.getD (inD d).toNat (0,0))) ?_ (by rw[gP];lk) ?_ ?_;refine bX ?_;intro iy b5;exists bJ I.a;rw[Zx,Mk];exact⟨by lk,b5 _ _ ⟨by rw[ZP];exact sZ _ _,Ex.refl⟩⟩;intro d hd s5 k5;obtain⟨i,hi⟩:=Zay hd;have hil:=eu hi;rw[gP]at hil;rw[xT hil,ZaU]at hi;cases hi;have hwl:=g.r.wl;have nH:=g.ll;have ef:=dg (d:=(([],[]):af.aP)) (show i<C.1.length by lk);have ew:=dg (d:=([]:List ff)) (show i<C.2.1.length by lk);have el:=dg (d:=((0,0):Nat×Nat)) (show i<C.2.2.length by lk);have er:=dg (d:=0) (show i<rs.length by lk);have hR:=k5.keep _ _ (I.r i _ _ er el) (by simp);have a1:fB (C.1.map aY) (i:Int)=some (aY (C.1.getD i ([],[]))):=tm ef;have a2:fB (C.2.1.map wD) (i:Int)=some (wD (C.2.1.getD i [])):=tm ew;have a3:fB (rs.map D.ref) (i:Int)=some (.ref (rs.getD i 0)):=tm er;have Ml:=k5.keep _ _ I.a (by simp);have Mm:=k5.keep _ _ I.b (by simp);have hc5:=k5.keep _ _ I.c (by simp);generalize rs.getD i 0=r at hR a3;refine bX ?_;intro iy b5;exists ZT,Zag,Zab,Zac,bJ Ml,bJ Mm,bJ hc5,a1,a2,a3,bJ hR,Gz,GA;exact⟨rfl,b5 _ _ ⟨rfl,Ex.refl⟩⟩;intro s5 k5;refine⟨_,sM,hQ _ _ ⟨(I.e.trans k5).app _,.inl ⟨j,by lk,by rw[hC];exact yf,pr,?_⟩⟩⟩;rw[hC];unfold qR
 congr 1
 unfold aC;rw[Z1];refine Zaj λi _=>?_;show wK _ _ _=_;simp only[Function.comp,inD,ZaU,ZP]
def yg{n:Nat}{p:af.aP}(n0:0<n)(w:af.Wh n p):∀(N j:Nat),(∀i,i<N->i<(af.ch n p i).1.length)->j<=N->(af.ch n p j).1.length<=(af.ch n p N).1.length
 |0,j,_,hj=>by
  have:j=0:=by lk
  subst this;exact ZA _
 |N+1,j,pr,hj=>by
  by_cases e:j=N+1;subst e;exact ZA _;have h1:=yg n0 w N j (λi hi=>pr i ⋯) ⋯;have g:=af.E5 n0 w N λi hi=>pr i ⋯;have hN:=pr N ⋯;have nH:=g.ll;have r1:=af.vt (s:=(true,1)) n0 g.r w.v (k:=(af.ch n p N).2.2.length) ⋯ (.inl rfl);have r2:=af.vt (s:=(false,1)) n0 r1.1 w.v (k:=(af.ch n p N).2.2.length) (by have:=r1.2.2.1;lk) (.inr rfl);have a:=r1.2.2.1;have b:=r2.2.2.1;have:(af.ch n p N).1.length<=(af.ch n p (N+1)).1.length:=Z3 a b;lk
def QX{st:Store}{a b n k:Nat}{p:af.aP}{fs:List af.aP}{ws:List (List ff)}{s1:ff}(n0:0<n)(hn:n<=20)(hs:s1=(true,1)\/s1=(false,1))(ab:a≠b)(ha:st[a]?=some (.lst (fs.map aY)))(hb:st[b]?=some (.lst (ws.map wD)))(g:af.GR n p fs ws)(vp:af.Vf n p)(hk:k<fs.length)(few:fs.length<=100):
  Wp (Ba [.ref a,.ref b,.int (k:Int),bL s1] st) λd st'=>d=.int ((af.a7 n fs ws k s1).2.2:Int)/\st'[a]?=some (.lst ((af.a7 n fs ws k s1).1.map aY))/\st'[b]?=some (.lst ((af.a7 n fs ws k s1).2.1.map wD))/\Ex [a,b] st st':=by
 refine iK ?_;show Ws (Ja [some (.ref a),some (.ref b),some (.int (k:Int)),some (bL s1),none] st) _ _ _ _;unfold Ja;have ek:=dg (d:=(([],[]):af.aP)) hk;have hkw:k<ws.length:=by rw[g.wl];exact hk
 have ew:=dg (d:=([]:List ff)) hkw;have ps:af.gR s1:=by rcases hs with rfl|rfl<;>exact⟨λ_=>by decide,by decide⟩
 have gN:=af.vt n0 g vp hk hs;have lN:(af.a7 n fs ws k s1).1.length<=101:=by have:=gN.2.2.2.1;lk
 generalize hq:fs.getD k ([],[])=q at ek;generalize hw:ws.getD k []=w at ew;obtain⟨wq,oq⟩:=g.own q (ZF ek);obtain⟨pw,lw,nw,-⟩:=g.wd k w ew;have hat:fB (fs.map aY) (k:Int)=some (aY q):=tm ek;refine aZ (bZ ?_);refine bX ?_;intro cY hQ;exists bJ ha,hat;refine⟨rfl,?_⟩;have hw1:(D.tup [bL s1])=.tup ([s1].map bL):=rfl;rw[hw1];refine bg (QK (p:=q) (w:=[s1]) ⟨wq.v.1,wq.v.2⟩ ⋯ (λx hx=>by rw[ZU.mp hx];exact ps.1) (show 1<=1000 by decide)) ?_;rintro d t1 ⟨rfl,k1⟩;have e1:lb q [s1]=af.stM q s1:=QT q s1;rw[e1];have E4:=wq.st n0 s1;have eS:aY (af.stM q s1)=bO (af.stM q s1).1 (af.stM q s1).2:=rfl;rw[eS];refine bg (QR (wJ E4) n0 hn) ?_;rintro d t2 ⟨rfl,k2⟩;have eF:bO (af.bG n ((af.stM q s1).1,(af.stM q s1).2)).1 (af.bG n ((af.stM q s1).1,(af.stM q s1).2)).2=aY (af.bG n (af.stM q s1)):=rfl;rw[eF];have se:=k1.trans k2;have ha2:=se.keep _ _ ha (by simp);have hb2:=se.keep _ _ hb (by simp);have pf:∀q:af.aP,pU 2 (aY q):=λq=>AO 0 _ _;have hj:(af.a7 n fs ws k s1).1[(af.a7 n fs ws k s1).2.2]?=some (af.bG n (af.stM q s1)):=by
  obtain⟨q',h1,h2⟩:=gN.2.2.2.2;rw[ek]at h1;cases h1;exact h2
 have rest:∀ {s3:Store},s3[a]?=some (.lst ((af.a7 n fs ws k s1).1.map aY))->s3[b]?=some (.lst ((af.a7 n fs ws k s1).2.1.map wD))->Ex [a,b] st s3 ->
   Ws ((aX (jK "list" eA (ag 0) (ae (ag 4) ah))) [some (.ref a),some (.ref b),some (.int (k:Int)),some (bL s1),some (aY (af.bG n (af.stM q s1)))] s3) (λ_ st1=>D.non=D.int ((af.a7 n fs ws k s1).2.2:Int)/\st1[a]?=some (.lst ((af.a7 n fs ws k s1).1.map aY))/\st1[b]?=some (.lst ((af.a7 n fs ws k s1).2.1.map wD))/\Ex [a,b] st st1) (λ_ _=>False) (λ_ _=>False) (λd st1=>d=D.int ((af.a7 n fs ws k s1).2.2:Int)/\st1[a]?=some (.lst ((af.a7 n fs ws k s1).1.map aY))/\st1[b]?=some (.lst ((af.a7 n fs ws k s1).2.1.map wD))/\Ex [a,b] st st1):=by
  intro s3 qW qX k3;refine fG ?_;kspl_open b5;refine⟨nu (by rw[bJ qW];rfl),?_⟩;rw[Ql (n:=2) (j:=(af.a7 n fs ws k s1).2.2) (pf _) (bJ qW) (λe he=>by obtain⟨q,_,rfl⟩:=ZL.mp he;exact pf q) ∅ (by rw[Zx];lk) (by rw[ZO,hj];rfl) (QU gN.1.nd hj)];exact b5 _ _ ⟨rfl,qW,qX,k3⟩
 refine hQ _ _ (aZ (gL ?_));clear hQ;kspl_open hQ;have Gw:cD t2 (.ref a)=some (fs.map aY):=bJ ha2;rw[E1 (n:=2) (es:=fs.map aY) (pf _) Gw (λe he=>by obtain⟨q,_,rfl⟩:=ZL.mp he;exact pf q) ∅];by_cases hm:af.bG n (af.stM q s1)∈fs;have hm':aY (af.bG n (af.stM q s1))∈fs.map aY:=ZL.mpr ⟨_,hm,rfl⟩;have eR:af.a7 n fs ws k s1=(fs,ws,fs.idxOf (af.bG n (af.stM q s1))):=by unfold af.a7;rw[hq,if_pos hm]
 refine⟨false,by simp[hm'],hQ _ _ ⟨λz=>(nomatch z),λ_=>iD (rest ?_ ?_ se.any)⟩⟩;rw[eR];exact ha2;rw[eR];exact hb2;have hm':aY (af.bG n (af.stM q s1)) ∉ fs.map aY:=λz=>by
  obtain⟨q',h1,h2⟩:=ZL.mp z;exact hm (Js h2 ▸ h1)
 have eR:af.a7 n fs ws k s1=(fs ++ [af.bG n (af.stM q s1)],ws ++ [(af.j9 (w ++ [s1])).reverse],fs.length):=by unfold af.a7;rw[hq,hw,if_neg hm]
 refine⟨true,by simp[hm'],hQ _ _ ⟨λ_=>?_,λz=>(nomatch z)⟩⟩;clear hQ;refine aZ (pL ?_);refine bX ?_;intro cY hQ;exists kJ ha2;refine⟨nu (by rw[bJ ha2];rfl),jV (by rw[Zx];lk),hQ _ _ (pL ?_)⟩;clear hQ;have em:fs.map aY ++ [aY (af.bG n (af.stM q s1))]=(af.a7 n fs ws k s1).1.map aY:=by rw[eR,ZS];rfl
 rw[em];have qW:(t2.set a (.lst ((af.a7 n fs ws k s1).1.map aY)))[a]?=some (.lst ((af.a7 n fs ws k s1).1.map aY)):=ZI (eu ha2);have qX:(t2.set a (.lst ((af.a7 n fs ws k s1).1.map aY)))[b]?=some (.lst (ws.map wD)):=by rw[ZJ ab];exact hb2
 have k3:Ex [a,b] st (t2.set a (.lst ((af.a7 n fs ws k s1).1.map aY))):=(se.any).put (by simp);generalize t2.set a (.lst ((af.a7 n fs ws k s1).1.map aY))=s3 at qW qX k3 ⊢;have Br:fB (ws.map wD) (k:Int)=some (.tup (w.map bL)):=tm (g:=wD) ew;refine bX ?_;intro cY hQ;exists bJ qX,Br;refine⟨nu (by rw[bJ qX];rfl),rfl,?_⟩;rw[hw1];refine bg (Yw (v:=w) (w:=[s1]) (by show _+1<=_;lk)) ?_;rintro d s4 ⟨rfl,k4⟩;have Gy:=k4.keep _ _ qW (by simp);have Bs:=k4.keep _ _ qX (by simp);exists kJ Bs;refine⟨jV (by rw[Zx,g.wl];lk),hQ _ _ (rest ?_ ?_ ((k3.trans k4.any).put (by simp)))⟩;rw[ZJ (Ne.symm ab)];exact Gy;rw[ZI (eu Bs),eR,ZS];rfl
abbrev Bu(l:Nat×Nat):D:=.tup [.int (l.1:Int),.int (l.2:Int)]
def YO{st:Store}{p:af.aP}{n most:Nat}(w0:af.Wh n p)(n0:0<n)(hn:n<=20)(m1:1<=most)(Bt:most<=60):Wp (Cq [aY p,.int (most:Int)] st) λd st'=>Ex [] st st'/\((∃N,N<=most/\af.Full n p (af.ch n p N) N/\(∀j,j<N->j<(af.ch n p j).1.length)/\d=qR (af.ch n p N) N)\/∃(i e:Nat),(∀j,j<i->j<(af.ch n p j).1.length)/\most<(af.ch n p i).1.length/\d=.ref e/\st'[e]?=some (.exc "TooMany" [("most",.int (most:Int))])):=by
 refine iK ?_;show Ws (Jb [some (aY p),some (.int (most:Int)),none,none,none,none,none,none] st) _ _ _ _;unfold Jb;refine aZ (uI (bZ ?_));kspl_open hQ;refine bg (QR (wJ w0) n0 hn) ?_;rintro d s1 ⟨rfl,k1⟩;refine⟨rfl,hQ _ _ (aZ (uI (bZ ?_)))⟩;clear hQ;kspl_open hQ;refine⟨rfl,rfl,hQ _ _ (aZ (uI (bZ ?_)))⟩;clear hQ;kspl_open hQ;refine⟨rfl,hQ _ _ ?_⟩;clear hQ;have eF:bO (af.bG n (p.1,p.2)).1 (af.bG n (p.1,p.2)).2=aY (af.bG n p):=rfl;rw[eF];obtain⟨a,b,c,s2,ea,eb,ec,es,ab,bc,la,ha,hb,hc,kx⟩:∃(a b c:Nat) (s2:Store),s1.length=a/\(s1 ++ [O.lst [aY (af.bG n p)]]).length=b/\(s1 ++ [O.lst [aY (af.bG n p)]] ++ [O.lst [D.tup []]]).length=c/\s1 ++ [O.lst [aY (af.bG n p)]] ++ [O.lst [D.tup []]] ++ [O.lst []]=s2/\a<b/\b<c/\st.length<=a/\s2[a]?=some (.lst ((af.ch n p 0).1.map aY))/\s2[b]?=some (.lst ((af.ch n p 0).2.1.map wD))/\s2[c]?=some (.lst ((af.ch n p 0).2.2.map Bu))/\Ex [] st s2 :=
  ⟨_,_,_,_,rfl,rfl,rfl,rfl,by simp,by simp,k1.len,kg (kg iw),kg iw,iw,((k1.app _).app _).app _⟩
 rw[ea,eb,ec,es];refine aZ (B7 (λm δ s=>∃(v5 v6 v7:Option D) (j:Nat),δ=[some (aY p),some (.int (most:Int)),some (.ref a),some (.ref b),some (.ref c),v5,v6,v7]/\m+j=61/\j<=most/\(∀i,i<j->i<(af.ch n p i).1.length)/\s[a]?=some (.lst ((af.ch n p j).1.map aY))/\s[b]?=some (.lst ((af.ch n p j).2.1.map wD))/\s[c]?=some (.lst ((af.ch n p j).2.2.map Bu))/\Ex [] st s) 61 ∅ ⟨none,none,none,0,rfl,rfl,Zaa _,(λi hi=>absurd hi (Zaf i)),ha,hb,hc,kx⟩ ?_);rintro m δ s ⟨v5,v6,v7,j,rfl,hm,jm,pr,ha,hb,hc,k⟩;have g:=af.E5 n0 w0 j pr;have nH:=g.ll;have Zo:=g.le;refine bX ?_;intro cY hQ;exists bJ ha,bJ hc;rw[Zx,Zx,nH];refine hQ _ _ ⟨λz=>aZ (gL ?_),λz=>uI (fG ?_)⟩;have z:j<(af.ch n p j).1.length:=by have:=of_decide_eq_true z;lk
 clear hQ;refine bX ?_;intro cY hQ;exists bJ ha;rw[Zx];refine hQ _ _ ⟨λy=>WI ?_,λy=>uI (iD (aZ (uI (bZ ?_))))⟩;have y:most<(af.ch n p j).1.length:=by have:=of_decide_eq_true y;lk
 clear hQ;kspl_open hQ;exact hQ _ _ ⟨k.app _,.inr ⟨j,_,pr,y,rfl,iw⟩⟩;have y:(af.ch n p j).1.length<=most:=by have:=of_decide_eq_false y;lk
 clear hQ;refine bX ?_;intro cY hQ;exists bJ hc;rw[Zx,nH];refine hQ _ _ (aZ (uI (bZ ?_)));clear hQ;kspl_open hQ;have es1:D.tup [D.str (Str.ofString "s"),D.int 1]=bL (true,1):=rfl;have YQ:D.tup [D.str (Str.ofString "t"),D.int 1]=bL (false,1):=rfl;rw[es1];have r1:=af.vt (s:=(true,1)) n0 g.r w0.v (k:=j) z (.inl rfl);have r2:=af.vt (s:=(false,1)) n0 r1.1 w0.v (k:=j) (by have:=r1.2.2.1;lk) (.inr rfl);refine bg (QX (s1:=(true,1)) (k:=j) n0 hn (.inl rfl) ⋯ ha hb g.r w0.v z ⋯) ?_;rintro d s3 ⟨rfl,qW,qX,k3⟩;have hc3:=k3.keep _ _ hc (by simp;lk);refine hQ _ _ (aZ (uI (bZ ?_)));clear hQ;kspl_open hQ;rw[YQ];refine bg (QX (s1:=(false,1)) (k:=j) n0 hn (.inr rfl) ⋯ qW qX r1.1 w0.v (by have:=r1.2.2.1;lk) (by have:=r1.2.2.2.1;lk)) ?_;rintro d s4 ⟨rfl,Gy,Bs,k4⟩;have hc4:=k4.keep _ _ hc3 (by simp;lk);refine hQ _ _ (uI (pL ?_));clear hQ;refine bX ?_;intro cY hQ;exists kJ hc4;have eS:af.kY n (af.ch n p j)=af.a7 n (af.ch n p j).1 (af.ch n p j).2.1 j (true,1):=by unfold af.kY;rw[nH]
 have eT:af.jW n (af.ch n p j)=af.a7 n (af.a7 n (af.ch n p j).1 (af.ch n p j).2.1 j (true,1)).1 (af.a7 n (af.ch n p j).1 (af.ch n p j).2.1 j (true,1)).2.1 j (false,1):=by unfold af.jW;rw[eS,nH]
 have kd:∀{x y:Store},Ex [] st x->Ex [a,b] x y->Ex [] st y:=λ{x y} h g=>⟨Z3 h.len g.len,λi o e n=>g.keep i o (h.keep i o e n) (by have:=eu e;simp;lk)⟩;have k5:Ex [] st s4:=kd (kd k k3) k4;refine⟨nu (by rw[bJ hc4];rfl),rfl,jV (by rw[Zx];lk),hQ _ _ ⟨m-1,by lk,_,_,_,j+1,rfl,by lk,by lk,λi hi=>?_,?_,?_,?_,k5.loc ⋯⟩⟩;rcases Zbd i j with h|h
 exact pr i h
 have:i=j:=by lk
 subst this;exact z;rw[ZJ ⋯];show _=some (O.lst ((af.jW n (af.ch n p j)).1.map aY));rw[eT];exact Gy;rw[ZJ ⋯];show _=some (O.lst ((af.jW n (af.ch n p j)).2.1.map wD));rw[eT];exact Bs;rw[ZI (eu hc4)];show _=some (O.lst (((af.ch n p j).2.2 ++ [((af.kY n (af.ch n p j)).2.2,(af.jW n (af.ch n p j)).2.2)]).map Bu));rw[ZS,eT,eS];rfl;have z:¬j<(af.ch n p j).1.length:=by have:=of_decide_eq_false z;lk
 have hfl:(af.ch n p j).1.length=j:=by lk
 have F:af.Full n p (af.ch n p j) j:={ toGC:=g,fl:=hfl };clear hQ;kspl_open hQ;generalize hC:af.ch n p j=C at ha hb hc g hfl nH;refine sN (aC 0 j) (λd=>wK (C.1.getD (inD d).toNat ([],[])) (C.2.1.getD (inD d).toNat []) (C.2.2.getD (inD d).toNat (0,0))) ?_ (by rw[gP];lk) ?_ ?_;refine bX ?_;intro iy b5;exists bJ ha;rw[Zx,hfl];exact⟨by lk,b5 _ _ ⟨by rw[ZP];exact sZ _ _,Ex.refl⟩⟩;intro d hd s5 k5;obtain⟨i,hi⟩:=Zay hd;have hil:=eu hi;rw[gP]at hil;rw[xT hil,ZaU]at hi;cases hi;have hwl:=g.r.wl;have ef:=dg (d:=(([],[]):af.aP)) (show i<C.1.length by lk);have ew:=dg (d:=([]:List ff)) (show i<C.2.1.length by lk);have el:=dg (d:=((0,0):Nat×Nat)) (show i<C.2.2.length by lk);have a1:fB (C.1.map aY) (i:Int)=some (aY (C.1.getD i ([],[]))):=tm ef;have a2:fB (C.2.1.map wD) (i:Int)=some (wD (C.2.1.getD i [])):=tm ew;have a3:fB (C.2.2.map Bu) (i:Int)=some (Bu (C.2.2.getD i (0,0))):=tm el;have g0:∀{l:Nat×Nat} {s:Store} {Q:D->Store->Prop},Wp (aN (Bu l) (.int 0) s) Q↔Q (.int (l.1:Int)) s:=bu;have g1:∀{l:Nat×Nat} {s:Store} {Q:D->Store->Prop},Wp (aN (Bu l) (.int 1) s) Q↔Q (.int (l.2:Int)) s:=bu;have Ml:=k5.keep _ _ ha (by simp);have Mm:=k5.keep _ _ hb (by simp);have hc5:=k5.keep _ _ hc (by simp);refine bX ?_;intro iy b5;exists ZT,Zag,Zab,Zac,bJ Ml,bJ Mm,bJ hc5,a1,a2,a3,g0,g1;exact⟨rfl,b5 _ _ ⟨rfl,Ex.refl⟩⟩;intro s5 k5;refine⟨_,sM,hQ _ _ ⟨rfl,(k.trans k5).app _,.inl ⟨j,jm,F,pr,?_⟩⟩⟩;rw[hC];unfold qR
 congr 1
 unfold aC;rw[Z1];refine Zaj λi _=>?_;show wK _ _ _=_;simp only[Function.comp,inD,ZaU,ZP]
abbrev wM(n:Nat)(p:af.aP)(N m:Nat):Prop:=N<=m/\af.Full n p (af.ch n p N) N/\∀j,j<N->j<(af.ch n p j).1.length
abbrev Bv(n:Nat)(p:af.aP)(m:Nat):Prop:=∃i,(∀j,j<i->j<(af.ch n p j).1.length)/\m<(af.ch n p i).1.length
def YR{n N N' m m':Nat}{p:af.aP}(a:wM n p N m)(b:wM n p N' m'):N=N':=by
 have key:∀{N N' m m':Nat},wM n p N m->wM n p N' m'->¬N<N':=λ{N N' m m'} a b h=>by
  have:=b.2.2 N h;have:=a.2.1.fl;lk
 have h1:=key a b;have h2:=key b a;lk
def QY{n N m m':Nat}{p:af.aP}(n0:0<n)(w:af.Wh n p)(a:wM n p N m)(b:Bv n p m'):m' < N:=by
 obtain⟨i,pr,hi⟩:=b;have YS:i<=N:=by
  rcases Zbd N i with h|h
  have:=pr N h
  have:=a.2.1.fl;lk
  exact h
 have:=yg n0 w N i a.2.2 YS;have:=a.2.1.fl;lk
def GB{n m:Nat}{p:af.aP}{st:Store}(w0:af.Wh n p)(n0:0<n)(hn:n<=20)(m1:1<=m)(Bt:m<=60):Wp (Cq [aY p,.int (m:Int)] st) λd st'=>Ex [] st st'/\((aV d st'=false/\∃N,wM n p N m/\d=qR (af.ch n p N) N)\/(aV d st'=true/\Bv n p m/\∃e,d=.ref e/\st'[e]?=some (.exc "TooMany" [("most",.int (m:Int))]))):=by refine bg (YO w0 n0 hn m1 Bt) ?_;rintro d s1 ⟨k1,⟨N,h1,h2,h3,rfl⟩|⟨i,e,h1,h2,rfl,h3⟩⟩;exact⟨k1,.inl ⟨rfl,N,⟨h1,h2,h3⟩,rfl⟩⟩;exact⟨k1,.inr ⟨by simp[aV,h3],⟨i,h1,h2⟩,e,rfl,h3⟩⟩
abbrev kP:D->Option Nat
 |.non=>some 60
 |.int k=>if 1<=k/\k<=60 then some k.toNat else none
 |_=>none
abbrev Due(n:Nat)(p:af.aP)(dd:D)(many:Nat):Prop:=(∃N,wM n p N 60/\dd=qR (af.ch n p N) N/\many=N)\/(Bv n p 60/\dd=.non/\many=61)
def YT{st:Store}{f:Nat}(hf:bw st f):Wp (Fv [.ref f] st) λd st'=>∃(n:Nat) (p:af.aP) (dd:D) (many r:Nat) (ms:List D),d=.tup [aY p,dd,.int (many:Int),.ref r]/\af.Wh n p/\0<n/\n<=6/\Due n p dd many/\st'[r]?=some (.lst ms)/\(∀x∈ms,∃m,kP x=some m)/\ms.length<=4/\st.length<=r/\0<ms.length/\bw st' f/\Ex [f] st st':=by
 refine iK ?_;show Ws (Im [some (.ref f),none,none,none,none,none] st) _ _ _ _;unfold Im;refine aZ (bZ ?_);kspl_open hQ;refine bg (sO (n:=5) hf ∅ ∅) ?_;rintro d t1 ⟨k1,rfl,Zp,Zq,f1,e1⟩;w_how;refine⟨rfl,?_⟩;have f2:bw (t1 ++ [O.lst [D.int (1+k1),D.int 6]]) f:=f1.keep (Ex.cj _);have i2:(t1 ++ [O.lst [D.int (1+k1),D.int 6]])[t1.length]?=some (.lst [D.int (1+k1),D.int 6]):=iw;have e2:Ex [f] st (t1 ++ [O.lst [D.int (1+k1),D.int 6]]):=e1.app _;have lf:=f1.lt;have hne:t1.length≠f:=by lk
 generalize t1 ++ [O.lst [D.int (1+k1),D.int 6]]=t2 at f2 i2 e2 ⊢;generalize t1.length=r at i2 hne ⊢;refine bg (sO (n:=8) f2 ∅ ∅) ?_;rintro d t3 ⟨k2,rfl,Zr,Zs,f3,e3⟩;have i3:items t3 r=some [D.int (1+k1),D.int 6]:=bJ (e3.keep _ _ i2 (by simp;exact hne));exists i3;obtain⟨n,x,hx,ex,n0,n6⟩:∃(n:Nat) (x:D),fB [D.int (1+k1),D.int 6] (k2 / 7)=some x/\x=.int (n:Int)/\0<n/\n<=6:=by
  rcases(show k2 / 7=0\/k2 / 7=1 by lk)with h|h
  rw[h];exact⟨(1+k1).toNat,_,rfl,by rw[Z0 ⋯],by lk,by lk⟩;rw[h];exact⟨6,_,rfl,rfl,by decide,by decide⟩
 refine⟨by decide,x,hx,hQ _ _ (aZ (bZ ?_))⟩;rw[ex];clear hx ex hQ;kspl_open hQ;refine bg (Qx (n:=n) f3 ⋯ ⋯) ?_;rintro d t4 ⟨xs,ys,rfl,fl,f4,e4⟩;have w4:=Bj fl;refine hQ _ _ (aZ (bZ ?_));clear hQ;kspl_open hQ;rw[show(D.int 60)=.int ((60:Nat):Int)from rfl];refine bg (YL (p:=(xs,ys)) (most:=60) w4 n0 ⋯ ∅ ∅) ?_;rintro d t5 ⟨e5,hc⟩;have f5:=f4.keep e5;have YU:Ex [f] st t5:=((e2.trans e3).trans e4).trans e5.any;refine hQ _ _ (aZ (bZ ?_));clear hQ;kspl_open hQ;refine hQ _ _ ?_;clear hQ;have ep:bO xs ys=aY (xs,ys):=rfl;rw[ep];generalize ((xs,ys):af.aP)=p at w4 hc ⊢;refine aZ (xW (N:=λδ s=>∃many:Nat,δ=[some (.ref f),some (.int (n:Int)),some (aY p),some d,some (.int (many:Int)),none]/\many<=61/\Due n p d many/\s=t5) (gL ?_) ?_);kspl_open hQ;rcases hc with⟨N,h1,h2,h3,rfl⟩|⟨rfl,i,h1,h2⟩
 obtain⟨ds,YV⟩:∃ds,qR (af.ch n p N) N=.tup ds:=⟨_,rfl⟩;rw[YV,PN];refine⟨_,rfl,hQ _ _ ⟨λ_=>bZ ?_,λz=>(nomatch z)⟩⟩;clear hQ;kspl_open hQ;refine⟨_,rfl,?_⟩;rw[Zx,ZaN];exact hQ _ _ ⟨N,rfl,by lk,.inl ⟨N,⟨h1,h2,h3⟩,rfl,rfl⟩,rfl⟩;rw[Lx];exact⟨_,rfl,hQ _ _ ⟨λz=>(nomatch z),λ_=>iD ⟨61,rfl,by lk,.inr ⟨⟨i,h1,h2⟩,rfl,rfl⟩,rfl⟩⟩⟩;rintro δ s ⟨many,rfl,Zt,due,rfl⟩;have many1:1<=many:=by
  rcases due with⟨N,hW,_,rfl⟩|⟨_,_,rfl⟩
  have:=hW.2.1.fl
  have:=(Zz.mp hW.2.1.r.hd).1;lk
  decide
 refine aZ (bZ ?_);kspl_open hQ;refine bg (sO (n:=60) f5 ∅ ∅) ?_;rintro d t6 ⟨k6,rfl,YW,YX,f6,e6⟩;w_how;refine⟨rfl,hQ _ _ (fG ?_)⟩;clear hQ;obtain⟨r6,t7,er,et,l7,e7⟩:∃(r6:Nat) (t7:Store),t6.length=r6/\t6 ++ [O.lst [D.non,D.int (if(many:Int)<60 then(many:Int)else 60),D.int (if(many:Int)-1 > 1 then(many:Int)-1 else 1),D.int (1+k6)]]=t7/\t7[r6]?=some (.lst [D.non,D.int (if(many:Int)<60 then(many:Int)else 60),D.int (if(many:Int)-1 > 1 then(many:Int)-1 else 1),D.int (1+k6)])/\Ex [f] st t7:=⟨_,_,rfl,rfl,iw,(YU.trans e6).app _⟩;have f7:bw t7 f:=et ▸ f6.keep (Ex.cj _);rw[er,et];have good:∀x∈[D.non,D.int (if(many:Int)<60 then(many:Int)else 60),D.int (if(many:Int)-1 > 1 then(many:Int)-1 else 1),D.int (1+k6)],∃m,kP x=some m:=by
  have gi:∀k:Int,1<=k->k<=60->∃m,kP (.int k)=some m:=λk h1 h2=>⟨k.toNat,by show(if 1<=k/\k<=60 then some k.toNat else none)=_;rw[if_pos ⟨h1,h2⟩]⟩;intro x hx;simp only[ZY,Za2,or_false]at hx;rcases hx with rfl|rfl|rfl|rfl
  exact⟨60,rfl⟩;refine gi _ ?_ ?_<;>split<;>lk;refine gi _ ?_ ?_<;>split<;>lk;exact gi _ ⋯ ⋯
 have Ll:[D.non,D.int (if(many:Int)<60 then(many:Int)else 60),D.int (if(many:Int)-1 > 1 then(many:Int)-1 else 1),D.int (1+k6)].length=4:=rfl;generalize [D.non,D.int (if(many:Int)<60 then(many:Int)else 60),D.int (if(many:Int)-1 > 1 then(many:Int)-1 else 1),D.int (1+k6)]=L at l7 good Ll;kspl_open hQ;obtain⟨c,hc,c0⟩:∃c:Nat,fB [D.int 4,D.int 3] (if decide (20<(many:Int))=true then 1 else 0)=some (.int (c:Int))/\c<=4/\1<=c:=by
  split;exact⟨3,rfl,by decide,by decide⟩;exact⟨4,rfl,by decide,by decide⟩
 refine⟨rfl,_,hc,_,rfl,L,bJ (kg l7),rfl,hQ _ _ ⟨n,p,d,many,_,_,rfl,w4,n0,n6,due,iw,λx hx=>good x (Wf hx),?_,?_,?_,(f7.keep (Ex.cj _)).keep (Ex.cj _),(e7.app _).app _⟩⟩;rw[Lu,Zar];lk
 have:=(e7.app [O.lst [D.int 4,D.int 3]]).len
 exact this;rw[Lu,Zar];lk
def GD(C:af.CS)(N:Nat):pU 5 (qR C N):=λd hd=>by
 obtain⟨k,_,rfl⟩:=ZL.mp hd;show∀d∈[aY (C.1.getD k ([],[])),wD (C.2.1.getD k []),D.int ((C.2.2.getD k (0,0)).1:Int),D.int ((C.2.2.getD k (0,0)).2:Int)],pU 3 d;intro d hd;simp only[ZY,Za2,or_false]at hd;rcases hd with rfl|rfl|rfl|rfl
 exact AO 1 _ _;exactλd hd=>by obtain⟨x,_,rfl⟩:=ZL.mp hd;exact x5 1 x
 exact True.intro;exact True.intro
abbrev Met(n m:Nat)(p q:af.aP)(N:Nat)(d:D):Prop:=(∃(w:List ff) (g:List Int),d=.tup [.str "led",wD w,tD g]/\(∀s∈w,af.gR s)/\(∀s∈w,s.2.natAbs<=100)/\w.length<=60/\n=m/\af.Cg n (af.gh p w) q g/\af.Rel n p q)\/(d=.tup [.str "apart",qR (af.ch n p N) N]/\¬(n=m/\af.Rel n p q))
def Bw{st:Store}{Q:D->Store->Prop}{p:af.aP}{w:List ff}{l:Nat×Nat}:Wp (aN (wK p w l) (.int 1) st) Q↔Q (wD w) st:=bu
def Bx{n m:Nat}{p q:af.aP}(wp:af.Wh n p)(wq:af.Wh m q)(n0:0<n)(e:af.rP p q n m=[]):¬(n=m/\af.bG n p=af.bG n q):=by rintro⟨rfl,h⟩;exact(af.AY wp wq n0).mp e h
def YY{n m:Nat}{p q:af.aP}{g:List Int}(wp:af.Wh n p)(wq:af.Wh m q)(n0:0<n)(h:g∈af.rP p q n m):n=m/\af.Cg n p q g:=by by_cases e:n=m;subst e;exact⟨rfl,(af.LN wp wq n0).mp h⟩;rw[af.zw wp wq n0 e]at h;cases h
def QZ{st:Store}{n m mm:Nat}{p q:af.aP}(wp:af.Wh n p)(wq:af.Wh m q)(n0:0<n)(hn:n<=20)(hm:m<=20)(m1:1<=mm)(Bt:mm<=60):Wp (Bc [aY p,aY q,.int (mm:Int)] st) λd st'=>Ex [] st st'/\((aV d st'=false/\∃N,wM n p N mm/\Met n m p q N d)\/(aV d st'=true/\Bv n p mm/\∃e,d=.ref e/\st'[e]?=some (.exc "TooMany" [("most",.int (mm:Int))]))):=by
 refine iK ?_;show Ws (Jd [some (aY p),some (aY q),some (.int (mm:Int)),none,none,none,none] st) _ _ _ _;unfold Jd;refine aZ (WE ?_);refine⟨_,_,rfl,?_⟩;refine bg (GB wp n0 hn m1 Bt) ?_;rintro d s1 ⟨k1,⟨hr,N,hW,rfl⟩|⟨hr,hg,e,rfl,he⟩⟩
 rotate_left
 ·refine⟨λ_=>⟨k1,.inr ⟨hr,hg,e,rfl,he⟩⟩,λz=>?_⟩
  rw[hr]at z;cases z
 refine⟨λz=>?_,λ_=>?_⟩
 ·rw[hr]at z;cases z
 have F:=hW.2.1;have hN:N<=60:=Z3 hW.1 Bt;generalize hC:af.ch n p N=C at F ⊢;refine aZ (uI (nt ((List.range N).map λk=>wK (C.1.getD k ([],[])) (C.2.1.getD k []) (C.2.2.getD k (0,0))) (λi δ s=>∃(v4 v5 v6:Option D),δ=[some (aY p),some (aY q),some (.int (mm:Int)),some (qR C N),v4,v5,v6]/\(∀k,k<i->¬(n=m/\af.bG n (af.gh p (C.2.1.getD k []))=af.bG n q))/\Ex [] st s) ?_ (by rw[Zx,ZaN];lk) ?_ ?_))
 ·kspl_open hQ
  exact⟨_,rfl,hQ _ _ ⟨rfl,_,_,_,rfl,λk hk=>absurd hk (Zaf k),k1⟩⟩
 ·rintro i d δ s hd ⟨v4,v5,v6,rfl,no,k⟩
  have hi:i<N:=by have:=eu hd;rw[Zx,ZaN]at this;exact this
  rw[ZO,Za3 hi]at hd;cases hd;dsimp only;obtain⟨pw,lw,_⟩:=af.LO n0 wp F hi;have ew:=dg (d:=([]:List ff)) (show i<C.2.1.length by rw[F.r.wl,F.fl];exact hi);have nw:∀s∈C.2.1.getD i [],s.2.natAbs<=100:=λs hs=>by have:=(F.r.wd i _ ew).2.2.1 s hs;lk
  clear ew;kspl_open hQ;refine hQ _ _ (aZ (bZ ?_));clear hQ;kspl_open hQ;rw[Bw];refine hQ _ _ (aZ (bZ ?_));clear hQ;generalize hw:C.2.1.getD i []=w at pw lw nw ⊢;kspl_open hQ;unfold wD;refine bg (QK (p:=p) (w:=w) ⟨wp.v.1,wp.v.2⟩ ⋯ (Mg pw) ⋯) ?_;rintro d s2 ⟨rfl,k2⟩;rw[Mh];have wl:=wp.ld n0 (w:=w);refine bg (YC (xs:=(af.gh p w).1) (ys:=(af.gh p w).2) (us:=q.1) (vs:=q.2) (wJ wl) (wJ wq) n0 hn hm) ?_;rintro d s3 ⟨r,rfl,hr,lr,k3⟩;have Q0:=(k.trans k2).trans k3;refine hQ _ _ (gL ?_);clear hQ;obtain⟨M,eM,lM,hM⟩:=YA (af.rP (af.gh p w) q n m);have YZ:sP (af.rP ((af.gh p w).1,(af.gh p w).2) (q.1,q.2) n m)=M.map tD:=eM;rw[YZ]at hr;refine bX ?_;intro cY hQ;exists bJ hr;rw[Zx];cases M with
  |nil =>
   have e0:af.rP (af.gh p w) q n m=[]:=List.length_eq_zero_iff.mp lM.symm;have ne:=Bx wl wq n0 e0;refine hQ _ _ ⟨λz=>absurd (of_decide_eq_true z) (by simp),λ_=>iD ⟨_,_,_,rfl,λj hj=>?_,Q0⟩⟩;rcases Zbd j i with h|h
   ·exact no j h
   ·have:j=i:=by lk
    subst this;rw[hw];exact ne
  |cons g M =>
   refine hQ _ _ ⟨λ_=>fG ?_,λz=>absurd (of_decide_eq_false z) (by simp)⟩;clear hQ;refine bX ?_;intro cY hQ;exists bJ hr;obtain⟨Eo,cg⟩:=YY wl wq n0 (hM g ZK);refine⟨_,tm (g:=tD) (k:=0) (p:=g) rfl,rfl,hQ _ _ ⟨rfl,Q0,.inl ⟨rfl,N,hW,.inl ⟨w,g,rfl,pw,nw,by lk,Eo,cg,w,pw,af.u9 n0 wl.v ⟨g,cg⟩⟩⟩⟩⟩
 ·rintro δ s ⟨v4,v5,v6,rfl,no,k⟩
  rw[Zx,ZaN]at no;refine uI (fG ?_);kspl_open hQ;refine⟨rfl,hQ _ _ ⟨rfl,k,.inl ⟨rfl,N,hW,.inr ⟨by rw[hC],λh=>?_⟩⟩⟩⟩;obtain⟨Eo,h⟩:=h;have hm:=af.Qo n0 wp F h;obtain⟨j,hj⟩:=Zay hm;have Cu:j<N:=by rw[<- F.fl];exact(Zz.mp hj).1
  obtain⟨_,_,e,_⟩:=af.LO n0 wp F Cu;refine no j Cu ⟨Eo,?_⟩;rw[e];have:=dg (d:=(([],[]):af.aP)) (show j<C.1.length by rw[F.fl];exact Cu);rw[hj]at this;exact(ZN this).symm
abbrev GF(n m:Nat)(p q:af.aP)(mm:Nat)(d:D):Prop:=(∃N,wM n p N mm/\∃x,Met n m p q N x/\d=.tup [.str "told",x])\/(Bv n p mm/\d=.tup [.str "refused",.int (mm:Int)])
def uO{dm:D}{m:Nat}(hm:kP dm=some m):1<=m/\m<=60:=by cases dm<;>simp only[kP]at hm<;>first|(cases hm;decide)|(split at hm<;>cases hm<;>lk)|cases hm
def Q5{n m mm:Nat}{p q:af.aP}{dm:D}{st:Store}(wp:af.Wh n p)(wq:af.Wh m q)(n0:0<n)(hn:n<=20)(qY:m<=20)(hm:kP dm=some mm):Wp (Bd [aY p,aY q,dm] st) λd st'=>Ex [] st st'/\GF n m p q mm d:=by
 refine iK ?_;show Ws (Je [some (aY p),some (aY q),some dm,none,none] st) _ _ _ _;unfold Je;refine aZ (bZ ?_);kspl_open hQ;refine hQ _ _ (aZ (AV (gL ?_)));clear hQ;have m1:=uO hm;have hand:∀ (s1:Store) (e:Nat),Ex [] st s1->Bv n p mm->s1[e]?=some (.exc "TooMany" [("most",.int (mm:Int))]) ->
   Ws ((aH (bS (ae (fC (.str "refused")) (ae (p9 (o7 "TooMany") "most" (ag 4)) ah))) (hName 3)) [some (aY p),some (aY q),some dm,some .non,some (.ref e)] s1) (λδ2 s2=>Ws (aX (ag 3) (δ2.set 4 none) s2) (λ_ st1=>Ex [] st st1/\GF n m p q mm .non) (λ_ _=>False) (λ_ _=>False) (λd st'=>Ex [] st st'/\GF n m p q mm d)) (λ_ _=>False) (λ_ _=>False) (λd st'=>Ex [] st st'/\GF n m p q mm d):=by
  intro s1 e k1 hg he;refine bZ ?_;kspl_open hQ;refine WJ ?_;w_how;refine E3 he rfl ⟨rfl,hQ _ _ (fG ?_)⟩;clear hQ;kspl_open hQ;exact hQ _ _ ⟨k1,.inr ⟨hg,rfl⟩⟩
 kspl_open hQ;cases dm with
 |non =>
  cases hm;rw[Lx];refine⟨_,rfl,hQ _ _ ⟨λ_=>?_,λz=>(nomatch z)⟩⟩;clear hQ;refine Qp ?_;refine⟨_,_,rfl,?_⟩;refine bg (QZ wp wq n0 hn qY m1.1 m1.2) ?_;rintro d s1 ⟨k1,⟨hr,N,hW,hM⟩|⟨hr,hg,e,rfl,he⟩⟩;refine⟨λz=>?_,λ_=>?_⟩;rw[hr]at z;cases z;refine fG ?_;kspl_open b5;exact b5 _ _ ⟨k1,.inl ⟨N,hW,d,hM,rfl⟩⟩;refine⟨λ_=>⟨λz=>?_,λ_=>⟨?_,hand s1 e k1 hg he⟩⟩,λz=>?_⟩;rw[hr]at z;cases z;simp[catches,he,o7];rw[hr]at z;cases z
 |int k =>
  have hk:(mm:Int)=k:=by
   simp only[kP]at hm;split at hm;cases hm;lk;cases hm
  subst hk;rw[Wn];refine⟨_,rfl,hQ _ _ ⟨λz=>(nomatch z),λ_=>?_⟩⟩;clear hQ;refine Qp ?_;refine⟨_,_,rfl,?_⟩;refine bg (QZ wp wq n0 hn qY m1.1 m1.2) ?_;rintro d s1 ⟨k1,⟨hr,N,hW,hM⟩|⟨hr,hg,e,rfl,he⟩⟩;refine⟨λz=>?_,λ_=>?_⟩;rw[hr]at z;cases z;refine fG ?_;kspl_open b5;exact b5 _ _ ⟨k1,.inl ⟨N,hW,d,hM,rfl⟩⟩;refine⟨λ_=>⟨λz=>?_,λ_=>⟨?_,hand s1 e k1 hg he⟩⟩,λz=>?_⟩;rw[hr]at z;cases z;simp[catches,he,o7];rw[hr]at z;cases z
 |bl _=>cases hm
 |str _=>cases hm
 |tup _=>cases hm
 |ref _=>cases hm
 |ty _=>cases hm
def Cv{st:Store}{Q:D->Store->Prop}{ds:List D}:Wp (i6 [.tup ds,.ty "tuple"] st) Q↔Q (.bl true) st:=Ly (T:="tuple") (cs:=["tuple"]) (b:=true) rfl rfl rfl
def Q6{st:Store}{Q:D->Store->Prop}{i:Int}:Wp (i6 [.int i,.ty "bool"] st) Q↔Q (.bl false) st:=Ly (T:="int") (cs:=["bool"]) (b:=false) rfl rfl rfl
def Y0{st:Store}{Q:D->Store->Prop}{i:Int}:Wp (i6 [.int i,.ty "int"] st) Q↔Q (.bl true) st:=Ly (T:="int") (cs:=["int"]) (b:=true) rfl rfl rfl
def By{st:Store}{Q:D->Store->Prop}{s:ff}:Wp (aN (bL s) (.int 0) st) Q↔Q (.str (if s.1=true then "s" else "t")) st:=bu
def wN{st:Store}{Q:D->Store->Prop}{s:ff}:Wp (aN (bL s) (.int 1) st) Q↔Q (.int s.2) st:=bu
def yh{st:Store}{Q:D->Store->Prop}(b:Bool):Wp (mI true (.str (if b=true then "s" else "t")) (.tup [.str "s",.str "t"]) st) Q↔Q (.bl false) st:=by
 have h:∀b:Bool,pU 1 (.str (if b=true then "s" else "t")):=λb=>by
  cases b;exact(by w_fin:PyData.canLay0 (.str (Str.ofString "t"))=true);exact(by w_fin:PyData.canLay0 (.str (Str.ofString "s"))=true)
 rw[E1 (n:=1) (es:=[.str "s",.str "t"]) (h b) rfl (λe he=>by
  simp only[ZY,Za2,or_false]at he;rcases he with rfl|rfl
  exact h true
  exact h false) ∅]
 cases b<;>simp
def Y1{st:Store}{w:List ff}(pw:∀s∈w,af.gR s)(nw:∀s∈w,s.2.natAbs<=100)(wl:w.length<=60):Wp (Cn [wD w] st) λd st'=>d=.bl true/\Ex [] st st':=by
 refine iK ?_;show Ws (Iu [some (wD w),none] st) _ _ _ _;unfold Iu wD;refine aZ (gL ?_);refine bX ?_;intro cY hQ;exists Cv;refine hQ _ _ ⟨λz=>absurd z (by simp),λ_=>iD ?_⟩;clear hQ;refine aZ (nt (w.map bL) (λi δ s=>∃v1:Option D,δ=[some (.tup (w.map bL)),v1]/\s=st) ?_ (by rw[Zx];lk) ?_ ?_);refine bX ?_;intro cY hQ;w_how;exact hQ _ _ ⟨rfl,_,rfl,rfl⟩;rintro i d δ s hd ⟨v1,rfl,rfl⟩;obtain⟨x,hx,rfl⟩:=ZL.mp (ZF hd);have px:=pw x hx;have nx:=nw x hx;refine bX ?_;intro cY hQ;w_how;refine hQ _ _ (aZ (gL ?_));clear hQ;have tup:∀{s:Store} {Q:D->Store->Prop},Wp (i6 [bL x,.ty "tuple"] s) Q↔Q (.bl true) s:=Cv;have len:∀{s:Store},cD s (bL x)=some [.str (if x.1=true then "s" else "t"),.int x.2]:=rfl;refine bX ?_;intro cY hQ;exists By,wN,Q6,Y0,tup;refine⟨_,rfl,?_⟩;show(if(!decide (((2:Nat):Int)=2))=true then cY true s else cY false s);rw[if_neg ∅];refine hQ _ _ ⟨λz=>(nomatch z),λ_=>iD (aZ (gL ?_))⟩;clear hQ;obtain⟨b,k⟩:=x;have k0:k≠0:=px.2;have nk:k.natAbs<=100:=nx;have fin:∀{B C:aj->Store->Prop} {R:D->Store->Prop},Ws (dN (aA (aB sE (aM ot (ae (aB aN (ag 1) (fC (.int 1))) (ae (aB mz (fC (.int 0)) (aB aN (ag 1) (fC (.int 1)))) ah))) (fC (.int 9999)))) (aX (fC (.bl false))) aR [some (.tup (w.map bL)),some (bL (b,k))] s) (λδ s_1=>∃v1,δ=[some (D.tup (w.map bL)),v1]/\s_1=s) B C R:=λ{B C R}=>by
  refine gL ?_;refine bX ?_;intro cY hQ;exists wN;refine hQ _ _ ⟨λz=>?_,λ_=>iD ⟨_,rfl,rfl⟩⟩;have:=of_decide_eq_true z;split at this<;>lk
 cases b;have h3:1<=k/\k<=3:=px.1 rfl;refine bX ?_;intro cY hQ;exists By,wN,Qj;refine⟨rfl,(yh false).mpr ⟨_,rfl,?_⟩⟩;rw[if_neg ZC,if_neg (by simp[k0]),if_pos (by simp)];exact .inl ⟨decide_eq_true ⋯,hQ _ _ ⟨λz=>absurd z (by simp;lk),λ_=>iD fin⟩⟩;refine bX ?_;intro cY hQ;exists By,wN,Qj;refine⟨rfl,(yh true).mpr ⟨_,rfl,?_⟩⟩;rw[if_neg ZC,if_neg (by simp[k0]),if_neg ∅];exact hQ _ _ ⟨λz=>(nomatch z),λ_=>iD fin⟩;rintro δ s ⟨v1,rfl,rfl⟩;refine fG ?_;refine bX ?_;intro cY hQ;w_how;exact hQ _ _ ⟨rfl,Ex.refl⟩
def Bz{st:Store}{Q:D->Store->Prop}{p:af.aP}{w:List ff}{l:Nat×Nat}:Wp (aN (wK p w l) (.int 0) st) Q↔Q (aY p) st:=bu
def uP{st:Store}{C:af.CS}{N:Nat}{δ:aj}{Q:D->Store->Prop}(hN:N<=60)(hc:δ[2]?=some (some (qR C N)))(h:∀s,Ex [] st s->Q (.ref s.length) (s ++ [O.lst ((List.range N).map λk=>aY (C.1.getD k ([],[])))])):Wp (cS (cZ (ag 2)) 1 [] (hName 0) dz (aB aN (ag 0) (fC (.int 0))) δ st) Q:=by refine sN ((List.range N).map λk=>wK (C.1.getD k ([],[])) (C.2.1.getD k []) (C.2.2.getD k (0,0))) (λd=>match d with|.tup (a :: _)=>a|_=>.non) ?_ (by rw[Zx,ZaN];lk) ?_ ?_;kspl_open hQ;exact⟨_,hc,_,rfl,hQ _ _ ⟨sZ _ _,Ex.refl⟩⟩;intro d hd s1 k1;obtain⟨k,_,rfl⟩:=ZL.mp hd;refine bX ?_;intro cY hQ;exists Bz;exact hQ _ _ ⟨rfl,Ex.refl⟩;intro s1 k1;rw[Z1];exact h _ k1
def Y2{n m N:Nat}{p q:af.aP}{C:af.CS}(wp:af.Wh n p)(wq:af.Wh m q)(n0:0<n)(m0:0<m)(F:af.Full n p C N):aY (af.bG m q)∈((List.range N).map λk=>aY (C.1.getD k ([],[])))↔(n=m/\af.Rel n p q):=by
 constructor;intro h;obtain⟨k,hk,e⟩:=ZL.mp h;have hk:=Zai.mp hk;have e:=Js e;have ef:=dg (d:=(([],[]):af.aP)) (show k<C.1.length by rw[F.fl];exact hk);have wk:=(F.r.own _ (ZF ef)).1;have l1:=wk.v.1.length;rw[e,Bp wq m0]at l1;subst l1;obtain⟨pw,_,ek,_⟩:=af.LO n0 wp F hk;exact⟨rfl,_,pw,by rw[ek,e]⟩;rintro⟨rfl,h⟩;obtain⟨j,hj⟩:=Zay (af.Qo n0 wp F h);have Cu:j<N:=by rw[<- F.fl];exact(Zz.mp hj).1
 refine ZL.mpr ⟨j,Zai.mpr Cu,?_⟩;have:=dg (d:=(([],[]):af.aP)) (show j<C.1.length by rw[F.fl];exact Cu);rw[hj]at this;rw[ZN this]
def dT{p:Prop}{i:Decidable p}(h:p):D.bl (if true=true then !decide p else decide p)=D.bl false:=by simp[h]
def dF{p:Prop}{i:Decidable p}(h:¬p):D.bl (if true=true then !decide p else decide p)=D.bl true:=by simp[h]
def Y3{st:Store}{n m N mm:Nat}{p q:af.aP}{x:D}(wp:af.Wh n p)(wq:af.Wh m q)(n0:0<n)(hn:n<=20)(m0:0<m)(qY:m<=20)(F:af.Full n p (af.ch n p N) N)(hN:N<=60)(hM:Met n m p q N x){Nx B C:aj->Store->Prop}:Ws ((ay (dN (aA (aB (kI true) (aB aN (ag 4) (fC (.int 0))) (fC (.str "told")))) (aX (fC (.bl false))) aR)
 (ay (aH (aB aN (ag 4) (fC (.int 1))) (hName 4))
 (ay (dN (pT (kU (aA (aM i6 (ae (ag 4) (ae (fC (.ty "tuple")) ah))))) (aA (aB (mI true) (aM uM (ae (ag 1) ah)) (cS (cZ (ag 2)) 1 [] (hName 0) dz (aB aN (ag 0) (fC (.int 0))))))) (aX (aB (gO false) (ag 4) (bS (ae (fC (.str "apart")) (ae (ag 2) ah))))) aR)
 (ay (dN (pT (aA (aB (kI true) (aM b7 (ae (ag 4) ah)) (fC (.int 3)))) (pT (aA (aB (kI true) (aB aN (ag 4) (fC (.int 0))) (fC (.str "led")))) (pT (kU (aA (aM Cn (ae (aB aN (ag 4) (fC (.int 1))) ah)))) (kU (aA (aM i6 (ae (aB aN (ag 4) (fC (.int 2))) (ae (fC (.ty "tuple")) ah)))))))) (aX (fC (.bl false))) aR)
 (ay (dN (aA (aB (gO true) (aM kc (ae (aB aN (ag 4) (fC (.int 2))) ah)) (aM dc (ae (aM fJ (ae (aM b7 (ae (aB aN (ag 1) (fC (.int 0))) ah)) ah)) ah)))) (aX (fC (.bl false))) aR)
 (aX (aB (gO false) (aM yd (ae (aM yc (ae (ag 0) (ae (aB aN (ag 4) (fC (.int 1))) ah))) (ae (aB aN (ag 4) (fC (.int 2))) ah))) (ag 1)))))))) [some (aY p),some (aY q),some (qR (af.ch n p N) N),some (.int (mm:Int)),some (.tup [.str "told",x])] st) Nx B C (λd st'=>d=.bl true/\Ex [] st st'):=by
 have mr:=Y2 wp wq n0 m0 F;have Q7:=GD (af.ch n p N) N;unfold Met at hM;generalize af.ch n p N=C0 at F hM mr Q7 ⊢;refine aZ (gL ?_);kspl_open hQ;refine hQ _ _ ⟨λz=>absurd z (by simp),λ_=>iD (aZ (bZ ?_))⟩;clear hQ;kspl_open hQ;refine hQ _ _ (aZ (gL ?_));clear hQ;rcases hM with⟨w,g,rfl,pw,nw,wl,rfl,cg,rl⟩|⟨rfl,Y4⟩
 refine bX ?_;intro cY hQ;exists Cv;refine bg (Jq (xs:=q.1) (ys:=q.2) (wJ wq) m0 qY) ?_;rintro d s1 ⟨rfl,k1⟩;refine uP hN rfl λs2 k2=>?_;rw[E1 (n:=2) (AO 0 _ _) (Li.trans sM) (λe he=>by obtain⟨k,_,rfl⟩:=ZL.mp he;exact AO 0 (C0.1.getD k ([],[])).1 (C0.1.getD k ([],[])).2) ∅];have hin:=mr.mpr ⟨rfl,rl⟩;refine⟨false,dT hin,hQ _ _ ⟨λz=>(nomatch z),λ_=>iD (aZ (gL ?_))⟩⟩;clear hQ hin;have se:=(k1.trans k2).app [O.lst ((List.range N).map λk=>aY (C0.1.getD k ([],[])))];generalize s2 ++ [O.lst ((List.range N).map λk=>aY (C0.1.getD k ([],[])))]=s3 at se ⊢;refine bX ?_;intro cY hQ;exists Cv;show(if(!decide (((3:Nat):Int)=3))=true then _ else _);rw[if_neg ∅,if_neg (by simp)];refine bg (Y1 pw nw wl) ?_;rintro d s4 ⟨rfl,k4⟩;refine⟨_,rfl,?_⟩;rw[if_neg ∅];refine⟨_,rfl,Cv.mpr ⟨_,rfl,hQ _ _ ⟨λz=>(nomatch z),λ_=>iD (aZ (gL ?_))⟩⟩⟩;clear hQ;have lg:=cg.1.length;have lq:=wq.v.1.length;have Y5:=se.trans k4;have es:sortI g=af.upto n:=by
  have:=(YF lg).mpr cg.1;rw[lg]at this;exact this
 kspl_open hQ;refine⟨_,rfl,?_⟩;unfold tD aY bO;rw[YG (ns:=g) ⋯];w_how;rw[Zx,lq,show((n:Int)-0).toNat=n by lk,qA];refine⟨vm ⋯,?_⟩;rw[Lp (L:=sortI g) (M:=af.upto n) (Lv (Lv sM (Ex.cj _)) (Ex.cj _)) sM,es];refine⟨false,by simp,hQ _ _ ⟨λz=>(nomatch z),λ_=>iD (fG ?_)⟩⟩;clear hQ;have k5:=((Y5.app [O.lst ((af.upto n).map D.int)]).app [O.iE 0 (n:Int)]).app [O.lst ((af.upto n).map D.int)];generalize s4 ++ [O.lst ((af.upto n).map D.int)] ++ [O.iE 0 (n:Int)] ++ [O.lst ((af.upto n).map D.int)]=s5 at k5 ⊢;have wd:=wp.ld n0 (w:=w);have eq:bO (af.anew (af.gh p w).1 g) (af.anew (af.gh p w).2 g)=bO q.1 q.2:=by rw[cg.2]
 kspl_open hQ;unfold wD;refine bg (QJ (p:=p) (w:=w) ⟨wp.v.1,wp.v.2⟩ ⋯ (Mg pw) ⋯) ?_;rintro d s6 ⟨rfl,k6⟩;refine⟨_,rfl,?_⟩;rw[Mh];refine bg (QF (xs:=(af.gh p w).1) (ys:=(af.gh p w).2) (p:=g) wd.v.1 wd.v.2 cg.1 ⋯) ?_;rintro d s7 ⟨rfl,k7⟩;rw[eq];unfold aY;rw[PD];exact hQ _ _ ⟨by simp,(k5.trans k6).trans k7⟩;refine bX ?_;intro cY hQ;exists Cv;refine bg (Jq (xs:=q.1) (ys:=q.2) (wJ wq) m0 qY) ?_;rintro d s1 ⟨rfl,k1⟩;refine uP hN rfl λs2 k2=>?_;rw[E1 (n:=2) (AO 0 _ _) (Li.trans sM) (λe he=>by obtain⟨k,_,rfl⟩:=ZL.mp he;exact AO 0 (C0.1.getD k ([],[])).1 (C0.1.getD k ([],[])).2) ∅];have Y6:=mt mr.mp Y4;refine⟨true,dF Y6,hQ _ _ ⟨λ_=>fG ?_,λz=>(nomatch z)⟩⟩;clear hQ;have pu:pU 6 (.tup [.str "apart",qR C0 N]):=λd hd=>by
  simp only[ZY,Za2,or_false]at hd;rcases hd with rfl|rfl
  exact(by w_fin:PyData.canLay0 (.str (Str.ofString "apart"))=true);exact Q7
 kspl_open hQ;refine⟨rfl,?_⟩;rw[P5 (n:=6) pu pu ∅];exact hQ _ _ ⟨by simp,(k1.trans k2).app _⟩
def Q8{st:Store}{n m mm many:Nat}{p q:af.aP}{dd x fd:D}(wp:af.Wh n p)(wq:af.Wh m q)(n0:0<n)(hn:n<=20)(m0:0<m)(qY:m<=20)(due:Due n p dd many)(hm:kP x=some mm)(hf:GF n m p q mm fd):Wp (A5 [aY p,aY q,dd,x,fd] st) λd st'=>d=.bl true/\Ex [] st st':=by
 refine iK ?_;show Ws (Iv [some (aY p),some (aY q),some dd,some x,some fd] st) _ _ _ _;unfold Iv;have Bt:=uO hm;refine aZ (bZ ?_);refine bX ?_;intro cY hQ;refine A1 ⟨x,st,rfl,?_⟩;have sx:(x=.non/\mm=60)\/x=.int (mm:Int):=by
  cases x with
  |non=>cases hm;exact .inl ⟨rfl,rfl⟩
  |int k =>
   simp only[kP]at hm;split at hm;cases hm;exact .inr (by rw[Z0 ⋯]);cases hm
  |bl _=>cases hm
  |str _=>cases hm
  |tup _=>cases hm
  |ref _=>cases hm
  |ty _=>cases hm
 have go:cY (.int (mm:Int)) st:=by
  refine hQ _ _ ?_;clear hQ;have ref:∀{s:Store} {Q:aj->Store->Prop} {B C:aj->Store->Prop},Ex [] st s->Bv n p mm->fd=.tup [.str "refused",.int (mm:Int)]->Ws (aX (pV (aB (gO false) (ag 4) (bS (ae (fC (.str "refused")) (ae (ag 3) ah)))) (pW (aM i6 (ae (aB aN (ag 4) (fC (.int 1))) (ae (fC (.ty "bool")) ah))))) [some (aY p),some (aY q),some dd,some (.int (mm:Int)),some fd] s) Q B C (λd st'=>d=.bl true/\Ex [] st st'):=by
   intro s Q B C ks hg e;subst e;refine fG ?_;refine bX ?_;intro cY hQ;w_how;have pu:pU 1 (.tup [.str "refused",.int (mm:Int)]):=λd hd=>by
    simp only[ZY,Za2,or_false]at hd;rcases hd with rfl|rfl
    exact(by w_fin:PyData.canLay0 (.str (Str.ofString "refused"))=true);exact True.intro
   rw[P5 (n:=1) pu pu ∅];refine⟨rfl,true,by simp,?_⟩;rw[if_pos rfl,Q6];exact⟨_,rfl,hQ _ _ ⟨rfl,ks⟩⟩
  refine aZ (gL ?_);rcases due with⟨N,hW,rfl,rfl⟩|⟨hg,rfl,rfl⟩
  refine bX ?_;intro cY hQ;w_how;refine PN.mpr ⟨_,rfl,?_⟩;rw[if_neg ZC];refine⟨_,rfl,?_⟩;rw[Zx,ZaN];rcases hf with⟨N',hW',x',hM,rfl⟩|⟨hg,rfl⟩
  have e:=YR hW' hW;subst e;refine hQ _ _ ⟨λz=>absurd (of_decide_eq_true z) (by have:=hW'.1;lk),λ_=>iD ?_⟩;exact Y3 wp wq n0 hn m0 qY hW.2.1 hW.1 hM
  have:=QY n0 wp hW hg
  exact hQ _ _ ⟨λ_=>ref Ex.refl hg rfl,λz=>absurd (of_decide_eq_false z) ⋯⟩;refine bX ?_;intro cY hQ;w_how;refine Lx.mpr ⟨_,rfl,?_⟩;rw[if_pos (show(!false)=true from rfl)];rcases hf with⟨N',hW',x',hM,rfl⟩|⟨hg,rfl⟩
  have:=QY n0 wp hW' hg
  have:=hW'.1;lk
  exact hQ _ _ ⟨λ_=>ref Ex.refl hg rfl,λz=>(nomatch z)⟩
 rcases sx with⟨rfl,rfl⟩|rfl
 exact .inl ⟨rfl,_,_,rfl,go⟩;exact .inr ⟨_,rfl,by lk,go⟩
def Mp(ns:List Int):∃m:Nat,(2:Int)+((cutD (ns.map D.int) (some 1) (some 2)).length:Int)=(m:Int)+1/\1<=m/\m<=10:=by
 have h:(cutD (ns.map D.int) (some 1) (some 2)).length<=1:=by
  unfold cutD;rw[Zar,List.length_drop];have a:HT.cF (ns.map D.int).length 0 (some 1)=min 1 (ns.map D.int).length:=HT.JK _ _ 1;have b:HT.cF (ns.map D.int).length (ns.map D.int).length (some 2)=min 2 (ns.map D.int).length:=HT.JK _ _ 2;rw[a,b];lk
 exact⟨(cutD (ns.map D.int) (some 1) (some 2)).length+1,by lk,by lk,by lk⟩
def Q9{st:Store}{Q:D->Store->Prop}{p:af.aP}:Wp (aN (aY p) (.int 0) st) Q↔Q (.tup (p.1.map D.int)) st:=bu
structure Bn where
 n:Nat
 m:Nat
 p:af.aP
 q:af.aP
 dd:D
 many:Nat
 r:Nat
 ms:List D
abbrev Cw(e:Bn):D:=.tup [aY e.p,aY e.q,e.dd,.ref e.r]
structure qg(s:Store)(g:Nat)(e:Bn):Prop where
 w:af.Wh e.n e.p
 n0:0<e.n
 n6:e.n<=6
 v:af.Wh e.m e.q
 m0:0<e.m
 m6:e.m<=6
 due:Due e.n e.p e.dd e.many
 l:s[e.r]?=some (.lst e.ms)
 ms:∀x∈e.ms,∃m,kP x=some m
 few:e.ms.length<=4
 one:0<e.ms.length
 gr:g<e.r
def qg.keep{s s':Store}{g:Nat}{e:Bn}(h:qg s g e)(k:Ex [] s s'):qg s' g e:=⟨h.w,h.n0,h.n6,h.v,h.m0,h.m6,h.due,k.keep _ _ h.l (by simp),h.ms,h.few,h.one,h.gr⟩
def uQ(ns:List Int)(hns:ns.length<=63):Wp (LW [.ref 0] [.pH (ns.map D.int)]) λd _=>d=.bl true:=by
 refine iK ?_;show Ws (Jf [some (.ref 0),none,none,none,none,none,none,none,none,none,none] [.pH (ns.map D.int)]) _ _ _ _;unfold Jf;have Jt:([O.pH (ns.map D.int)]:Store)[0]?=some (.pH (ns.map D.int)):=rfl;generalize ([O.pH (ns.map D.int)]:Store)=lB at Jt;refine aZ (bZ ?_);kspl_open hQ;refine⟨rfl,hQ _ _ ?_⟩;clear hQ;obtain⟨g,s0,eg,es,hg,h01,g0⟩:∃(g:Nat) (s0:Store),lB.length=g/\lB ++ [O.lst []]=s0/\s0[g]?=some (.lst (([]:List Bn).map Cw))/\s0[0]?=some (.pH (ns.map D.int))/\0<g:=⟨_,_,rfl,rfl,iw,kg Jt,eu Jt⟩;rw[eg,es];clear eg es Jt;obtain⟨m,hm,m1,Y7⟩:=Mp ns;refine aZ (nt (aC 1 m) (λi δ s=>∃(v2 v3 v4 v5 v6 v7 v8 v9:Option D) (es:List Bn),δ=[some (.ref 0),some (.ref g),v2,v3,v4,v5,v6,v7,v8,v9,none]/\s[0]?=some (.pH (ns.map D.int))/\s[g]?=some (.lst (es.map Cw))/\es.length=i/\∀e∈es,qg s g e) ?_ (by rw[gP];lk) ?_ ?_);refine bX ?_;intro cY hQ;exists Pn h01;rw[hm];exact⟨1,(m:Int)+1,⟨rfl,rfl⟩,⟨⟨by decide,by decide⟩,by lk,by lk⟩,hQ _ _ ⟨by rw[show((m:Int)+1-1).toNat=m by lk],_,_,_,_,_,_,_,_,[],rfl,kg h01,kg hg,rfl,(λe he=>nomatch he)⟩⟩;rintro i d δ s hd ⟨v2,v3,v4,v5,v6,v7,v8,v9,es,rfl,h0,hg,le,hes⟩;have hil:=eu hd;rw[gP]at hil;rw[xT hil]at hd;cases hd;kspl_open hQ;refine hQ _ _ (aZ (bZ ?_));clear hQ;kspl_open hQ;rw[show(1:Int)+(i:Int)=((1+i:Nat):Int) by lk];refine bg (X1 (a:=0) (ns:=ns) (k:=1+i) (Pn h0) ⋯) ?_;rintro d s1 ⟨rfl,f1,k1⟩;have h01:=k1.keep _ _ h0 (by simp);have GG:=k1.keep _ _ hg (by simp);have sQ:∀e∈es,qg s1 g e:=λe he=>(hes e he).keep k1;have hgf:g<s.length:=eu hg;have frs:∀e∈es,e.r≠s.length:=λe he=>by have:=eu (hes e he).l;lk
 generalize s.length=f at f1 hgf frs ⊢;refine hQ _ _ (aZ (bZ ?_));clear hQ k1 hes h0 hg;kspl_open hQ;refine bg (sO (n:=4) f1 ∅ ∅) ?_;rintro d s2 ⟨kf,rfl,Zu,Zv,f2,k2⟩;refine hQ _ _ (aZ (vk ?_));clear hQ;kspl_open hQ;refine bg (YT f2) ?_;rintro d s3 ⟨n,p,dd,many,r,ms,rfl,w0,n0,n6,due,lr,hms,few,Zw,one,f3,k3⟩;have fr:f<r:=by have:=f2.lt;lk
 refine hQ _ _ ?_;clear hQ;kspl_open hQ;refine⟨rfl,hQ _ _ (aZ (bZ ?_))⟩;clear hQ;kspl_open hQ;refine bg (Yp (most:=6) (great:=5) f3 ∅ ∅ ∅ ∅) ?_;rintro d s4 ⟨w,rfl,hw,wl,f4,k4⟩;have pw:∀s∈w,af.gR s:=λs hs=>Bq (hw s hs);refine bg (QJ (p:=p) (w:=w) ⟨w0.v.1,w0.v.2⟩ ⋯ (Mg pw) ⋯) ?_;rintro d s5 ⟨rfl,k5⟩;rw[Mh];refine hQ _ _ (aZ (bZ ?_));clear hQ;have f5:=f4.keep k5;refine bX ?_;intro cY hQ;exists Q9;rw[Zx,w0.v.1.length];refine bg (LX (n:=n) f5 ⋯) ?_;rintro d s6 ⟨tg,rfl,ht,f6,k6⟩;have Mq:=w0.ld n0 (w:=w);refine bg (QF (xs:=(af.gh p w).1) (ys:=(af.gh p w).2) (p:=tg) Mq.v.1 Mq.v.2 ht ⋯) ?_;rintro d s7 ⟨rfl,k7⟩;have Ra:=QP Mq n0 (q:=(af.anew (af.gh p w).1 tg,af.anew (af.gh p w).2 tg)) ⟨tg,ht,rfl⟩;have f7:=f6.keep k7;have Mr:Ex [f] s3 s7:=((k4.trans k5.any).trans k6).trans k7.any;have Ju:Ex [f] s1 s7:=(k2.trans k3).trans Mr;have Y8:=Ju.keep _ _ h01 (by simp;lk);have Y9:=Ju.keep _ _ GG (by simp;lk);have Za:=Mr.keep _ _ lr (by simp;lk);have Ms:∀e∈es,qg s7 g e:=λe he=>by
  have o:=sQ e he;exact⟨o.w,o.n0,o.n6,o.v,o.m0,o.m6,o.due,Ju.keep _ _ o.l (by simp;exact frs e he),o.ms,o.few,o.one,o.gr⟩
 clear k2 k3 k4 k5 k6 k7 Mr Ju h01 GG sQ lr f1 f2 f3 f4 f5 f6;refine hQ _ _ (aZ ?_);clear hQ;have eB:bO (af.anew (af.gh p w).1 tg) (af.anew (af.gh p w).2 tg)=aY (af.anew (af.gh p w).1 tg,af.anew (af.gh p w).2 tg):=rfl;rw[eB];generalize ((af.anew (af.gh p w).1 tg,af.anew (af.gh p w).2 tg):af.aP)=q0 at Ra ⊢;have main:∀(v2:Option D) (m:Nat) (q:af.aP) (s8:Store) (B C:aj->Store->Prop) (R:D->Store->Prop),af.Wh m q->0<m->m<=6->Ex [f] s7 s8->Ws (cc (jK "list" aU (ag 1) (ae (bS (ae (ag 5) (ae (ag 9) (ae (ag 6) (ae (ag 8) ah))))) ah)) [some (.ref 0),some (.ref g),v2,some (.ref f),some (.int kf),some (aY p),some dd,some (.int (many:Int)),some (.ref r),some (aY q),none] s8) (λδ s=>∃(v2 v3 v4 v5 v6 v7 v8 v9:Option D) (es:List Bn),δ=[some (.ref 0),some (.ref g),v2,v3,v4,v5,v6,v7,v8,v9,none]/\s[0]?=some (.pH (ns.map D.int))/\s[g]?=some (.lst (es.map Cw))/\es.length=i+1/\∀e∈es,qg s g e) B C R:=by
  intro v2 m q s8 B C R wq m0 m6 k8;have Zb:=k8.keep _ _ Y8 (by simp;lk);have Mt:=k8.keep _ _ Y9 (by simp;lk);have Zc:=k8.keep _ _ Za (by simp;lk);refine pL ?_;refine bX ?_;intro cY hQ;exists kJ Mt;refine⟨nu (by rw[bJ Mt];rfl),rfl,jV (by rw[Zx];lk),hQ _ _ ⟨_,_,_,_,_,_,_,_,es ++ [⟨n,m,p,q,dd,many,r,ms⟩],rfl,?_,?_,by rw[ZH,le];rfl,λe he=>?_⟩⟩;rw[ZJ ⋯];exact Zb;rw[ZI (eu Mt),ZS];rfl;rcases Z6.mp he with h|h
  have o:=Ms e h;have l2:=k8.keep _ _ o.l (by simp;exact frs e h);exact⟨o.w,o.n0,o.n6,o.v,o.m0,o.m6,o.due,by rw[ZJ (by have:=o.gr;lk)];exact l2,o.ms,o.few,o.one,o.gr⟩;rw[ZU.mp h];exact⟨w0,n0,n6,wq,m0,m6,due,by rw[ZJ (show g≠r by lk)];exact Zc,hms,few,one,by show g<r;lk⟩
 refine gL ?_;kspl_open hQ;by_cases h1:1<kf;refine hQ _ _ ⟨λ_=>bZ ?_,λz=>absurd (of_decide_eq_false z) ⋯⟩;clear hQ;refine bX ?_;intro cY hQ;exists Q9;rw[Zx,w0.v.1.length];refine bg (sO (n:=6) f7 ∅ ∅) ?_;rintro d s8 ⟨k6,rfl,YW,YX,f8,e8⟩;exists sM;obtain⟨m,x,hx,ex,m0,m6⟩:∃(m:Nat) (x:D),fB [D.int (n:Int),D.int (1+k6)] (kf-2)=some x/\x=.int (m:Int)/\0<m/\m<=6:=by
  rcases(show kf-2=0\/kf-2=1 by lk)with h|h
  rw[h];exact⟨n,_,rfl,rfl,n0,n6⟩;rw[h];exact⟨(1+k6).toNat,_,rfl,by rw[Z0 ⋯],by lk,by lk⟩
 refine⟨rfl,x,hx,?_⟩;rw[ex];refine bg (Qx (n:=m) (f8.keep (Ex.cj [O.lst [D.int (n:Int),D.int (1+k6)]])) ⋯ ⋯) ?_;rintro d s9 ⟨us,vs,rfl,fm,f9,k9⟩;exact hQ _ _ (main _ m (us,vs) s9 _ _ _ (Bj fm) m0 m6 ((e8.app _).trans k9));exact hQ _ _ ⟨λz=>absurd (of_decide_eq_true z) ⋯,λ_=>iD (main _ n q0 s7 _ _ _ Ra n0 n6 Ex.refl.any)⟩;rintro δ s ⟨v2,v3,v4,v5,v6,v7,v8,v9,es,rfl,h0,hg,le,hes⟩;rw[gP]at le;refine aZ (HG (es.map Cw) g (λi δ s'=>∃(v5 v6 v8 v9 v10:Option D),δ=[some (.ref 0),some (.ref g),v2,v3,v4,v5,v6,v7,v8,v9,v10]/\s'[g]?=some (.lst (es.map Cw))/\∀e∈es,qg s' g e) ?_ (by rw[Zx];lk) ?_ ?_ ?_);kspl_open hQ;exact⟨_,bJ hg,hQ _ _ ⟨rfl,_,_,_,_,_,rfl,hg,hes⟩⟩;rintro i δ s' ⟨v5,v6,v8,v9,v10,rfl,h,_⟩;exact bJ h;rintro i d δ s1 hd ⟨v5,v6,v8,v9,v10,rfl,GG,sQ⟩;obtain⟨e,he,rfl⟩:=ZL.mp (ZF hd);have o:=sQ e he;have n6:=o.n6;have m6:=o.m6;unfold Cw;kspl_open hQ;refine⟨rfl,hQ _ _ ?_⟩;clear hQ;refine aZ (HG e.ms e.r (λi δ s'=>∃v10:Option D,δ=[some (.ref 0),some (.ref g),v2,v3,v4,some (aY e.p),some e.dd,v7,some (.ref e.r),some (aY e.q),v10]/\s'[e.r]?=some (.lst e.ms)/\Ex [] s1 s') ?_ (by have:=o.few;lk) ?_ ?_ ?_);kspl_open hQ;exact⟨_,bJ o.l,hQ _ _ ⟨rfl,_,rfl,o.l,Ex.refl⟩⟩;rintro i δ s' ⟨v10,rfl,h,_⟩;exact bJ h;rintro i x δ s2 hx ⟨v10,rfl,l2,k2⟩;obtain⟨m,hm⟩:=o.ms x (ZF hx);kspl_open hQ;refine hQ _ _ (gL ?_);clear hQ;kspl_open hQ;refine bg (Q5 o.w o.v o.n0 ⋯ ⋯ hm) ?_;rintro d s3 ⟨k3,hF⟩;refine bg (Q8 o.w o.v o.n0 ⋯ o.m0 ⋯ o.due hm hF) ?_;rintro d s4 ⟨rfl,k4⟩;exact⟨_,rfl,hQ _ _ ⟨λz=>absurd z (by simp),λ_=>iD ⟨_,rfl,(k3.trans k4).keep _ _ l2 (by simp),k2.trans (k3.trans k4)⟩⟩⟩;rintro δ s2 ⟨v10,rfl,l2,k2⟩;obtain⟨x,ms',Rb⟩:∃x ms',e.ms=x :: ms':=by
  have:=o.one;cases h:e.ms with
  |nil=>rw[h]at this;cases this
  |cons x ms'=>exact⟨x,ms',rfl⟩
 obtain⟨m,hm⟩:=o.ms x (by rw[Rb];exact ZK);refine gL ?_;rw[Rb]at l2;refine bX ?_;intro cY hQ;exists bJ l2;refine bg (Q5 o.w o.w o.n0 ⋯ ⋯ hm) ?_;rintro d s3 ⟨k3,hF⟩;refine bg (Q8 o.w o.w o.n0 ⋯ o.n0 ⋯ o.due hm hF) ?_;rintro d s4 ⟨rfl,k4⟩;exact⟨_,rfl,hQ _ _ ⟨λz=>absurd z (by simp),λ_=>iD ⟨_,_,_,_,_,rfl,((k2.trans k3).trans k4).keep _ _ GG (by simp),λe he=>(sQ e he).keep ((k2.trans k3).trans k4)⟩⟩⟩;rintro δ s1 ⟨v5,v6,v8,v9,v10,rfl,GG,sQ⟩;refine fG ?_;kspl_open hQ;exact hQ _ _ rfl
def BA{P:Program}{w:World}{K:Zfr}{mg:Str->Option Value}{base:Heap}(T:Txt mg){aG cI:Addr}(Z:XF K mg aG cI){nC:V}(lS:uV K mg "QUARTER" nC (.tup [(.str "t"),(.int 1)])){qU:V}(ph:uV K mg "SHEAR" qU (.tup [(.str "s"),(.int 1)])){i7:Addr}{i9:FuncData}(gu:Def K mg "_law_feed" Fb ["_law_script","_law_k"] i7 i9){jb:Addr}{jc:FuncData}(aI:Def K mg "_law_take" Fc ["_law_feed_here","_law_many"] jb jc){eC:Addr}{eE:FuncData}(bA:Def K mg "_law_turning" Fe ["_law_feed_here","_law_n"] eC eE){ki:Addr}{kj:FuncData}(fW:Def K mg "_law_met" Ff ["_law_floor_here"] ki kj){gU:Addr}{gW:FuncData}(cq:Def K mg "_law_floor" Fh ["_law_feed_here","_law_n"] gU gW){dB:Addr}{dC:FuncData}(cL:Def K mg "_law_numbered" Fj ["_law_floor_here","_law_s"] dB dC){jd:Addr}{je:FuncData}(cw:Def K mg "_law_form" Fm ["_law_floor_here"] jd je){fL:Addr}{fM:FuncData}(dE:Def K mg "_law_behind" Fp ["_law_turning_here","_law_s","_law_k"] fL fM){eG:Addr}{eI:FuncData}(bQ:Def K mg "_law_stepped" Fq ["_law_floor_here","_law_step"] eG eI){gX:Addr}{gY:FuncData}(fj:Def K mg "_law_plain" Fs ["_law_word_here"] gX gY){g7:Addr}{g8:FuncData}(fq:Def K mg "_law_chart" Fu ["_law_floor_here","_law_most"] g7 g8){eJ:Addr}{eK:FuncData}(c4:Def K mg "_law_bounded" Fw ["_law_feed_here"] eJ eK){kl:Addr}{km:FuncData}(di:Def K mg "_law_led" Fx ["_law_floor_here","_law_word_here"] kl km){jf:Addr}{jg:FuncData}(cN:Def K mg "_law_anew" Fy ["_law_floor_here","_law_p"] jf jg){jh:Addr}{ji:FuncData}(gw:Def K mg "_law_word" FA ["_law_feed_here","_law_most","_law_great"] jh ji){eO:Addr}{eQ:FuncData}(c5:Def K mg "_law_is_word" FC ["_law_word_here"] eO eQ){hJ:Addr}{hU:FuncData}(dj:Def K mg "_law_right" FD ["_law_one","_law_other","_law_due","_law_most","_law_found"] hJ hU){fO:Addr}{fP:FuncData}(bh:Def K mg "turned_back" FE ["turning"] fO fP){kn:Addr}{ko:FuncData}(bI:Def K mg "followed" FF ["one","other"] kn ko){fQ:Addr}{fR:FuncData}(dG:Def K mg "called_anew" FH ["floor","p"] fQ fR){eV:Addr}{eW:FuncData}(bR:Def K mg "squares_from" FI ["floor","s"] eV eW){c7:Addr}{c9:FuncData}(bq:Def K mg "numbering_from" FJ ["floor","s"] c7 c9){dH:Addr}{dJ:FuncData}(bj:Def K mg "numbered_from" FK ["floor","s"] dH dJ){lK:Addr}{lL:FuncData}(fu:Def K mg "form_of" FL ["floor"] lK lL){jl:Addr}{jn:FuncData}(gy:Def K mg "ring_from" FO ["turning","first"] jl jn){kq:Addr}{kr:FuncData}(iO:Def K mg "rings_of" FQ ["turning"] kq kr){pb:Addr}{pd:FuncData}(nB:Def K mg "often" FT ["turning","k"] pb pd){lO:Addr}{lP:FuncData}(jX:Def K mg "sheared" FW ["floor","k"] lO lP){jr:Addr}{jt:FuncData}(gA:Def K mg "quartered" FY ["floor"] jr jt){fT:Addr}{fU:FuncData}(dM:Def K mg "led_by_step" F0 ["floor","step"] fT fU){mS:Addr}{mT:FuncData}(hV:Def K mg "led_by" F3 ["floor","word"] mS mT){mU:Addr}{mV:FuncData}(lR:Def K mg "joined" F5 ["one","other"] mU mV){h7:Addr}{h8:FuncData}(fw:Def K mg "made_plain" F7 ["word"] h7 h8){eX:Addr}{eY:FuncData}(c6:Def K mg "put_together" Ga ["one","other"] eX eY){ie:Addr}{ig:FuncData}(dk:Def K mg "row_led_to" Gb ["forms","words","place","step"] ie ig){ky:Addr}{kz:FuncData}(d6:oU K mg "chart_of" Gd ["floor","most"] [V.int 60] ky kz){kC:Addr}{kD:FuncData}(iP:Def K mg "callings" Gf ["one","other"] kC kD){r9:Addr}{sd:FuncData}(kO:oU K mg "meet" Gh ["one","other","most"] [V.int 60] r9 sd){jw:Addr}{jx:FuncData}(d7:Def K mg "_law_told" Gj ["_law_one","_law_other","_law_most"] jw jx){GH:Addr}{GJ:FuncData}(Mu:Def K mg "law" Jg ["_law_script"] GH GJ):aJ P w K mg base b6 11 GH GJ ["_law_script"] (cu K 1 LW):=by obtain⟨dI,I,BI⟩:=Z.I;have GI:=W4 (P:=P) (w:=w) (mg:=mg) (base:=base) I;have ja:=W5 (P:=P) (w:=w) (base:=base) gu T;have aL:=W6 (P:=P) (w:=w) (base:=base) aI T;have bP:=W7 (P:=P) (w:=w) (base:=base) aI aL bA T;have iN:=W8 (P:=P) (w:=w) (base:=base) fW T;have cK:=W9 (P:=P) (w:=w) (base:=base) aI aL bA bP fW iN cq T;have dD:=Xa (P:=P) (w:=w) (base:=base) cL T;have cM:=Xc (P:=P) (w:=w) (base:=base) cL dD cw T;have fN:=Xe (P:=P) (w:=w) (base:=base) dE T;have b9:=Xf (P:=P) (w:=w) (base:=base) dE fN bQ T;have gZ:=Xg (P:=P) (w:=w) (base:=base) fj T;have g9:=Xh (P:=P) (w:=w) (base:=base) cw cM bQ b9 fj gZ fq T;have eN:=Xi (P:=P) (w:=w) (base:=base) aI aL cq cK fq g9 c4 T;have d5:=Xj (P:=P) (w:=w) (base:=base) bQ b9 di T;have df:=Xl (P:=P) (w:=w) (base:=base) cN T;have jk:=Xm (P:=P) (w:=w) (base:=base) aI aL gw T;have eU:=Xn (P:=P) (w:=w) (base:=base) c5 T;have ft:=Xo (P:=P) (w:=w) (base:=base) cw cM di d5 cN df c5 eU dj T;have bB:=Xp (P:=P) (w:=w) (base:=base) bh T;have bT:=Xr (P:=P) (w:=w) (base:=base) bI T;have fS:=Xs (P:=P) (w:=w) (base:=base) bh bB bI bT dG T;have cb:=Xt (P:=P) (w:=w) (base:=base) bR T;have bK:=Xv (P:=P) (w:=w) (base:=base) bh bB bR cb bq T;have bF:=Xx (P:=P) (w:=w) (base:=base) dG fS bq bK bj T;have gx:=Xz (P:=P) (w:=w) (base:=base) bj bF fu T;have jq:=XA (P:=P) (w:=w) (base:=base) gy T;have ku:=XB (P:=P) (w:=w) (base:=base) gy jq iO T;have pe:=XC (P:=P) (w:=w) (base:=base) iO ku nB T;have lQ:=XE (P:=P) (w:=w) (base:=base) bI bT nB pe jX T;have ju:=XH (P:=P) (w:=w) (base:=base) bh bB gA T;have fV:=XI (P:=P) (w:=w) (base:=base) jX lQ gA ju dM T;have jv:=XJ (P:=P) (w:=w) (base:=base) dM fV hV T;have mW:=XM (P:=P) (w:=w) (base:=base) lR T;have h9:=XQ (P:=P) (w:=w) (base:=base) lR mW fw T;have eZ:=XU (P:=P) (w:=w) (base:=base) fw h9 c6 T;have fz:=XW (P:=P) (w:=w) (base:=base) fu gx hV jv c6 eZ dk T;have kA:=XX (P:=P) (w:=w) (base:=base) fu gx dk fz d6 T lS ph Z GI BI;have kE:=XY (P:=P) (w:=w) (base:=base) bI bT bR cb bq bK bj bF iP T;have qd:=XZ (P:=P) (w:=w) (base:=base) hV jv d6 kA iP kE kO T;have gB:=X0 (P:=P) (w:=w) (base:=base) kO qd d7 T Z;have Mv:=Be (P:=P) (w:=w) (base:=base) gu ja aI aL bA bP cq cK c4 eN di d5 cN df gw jk dj ft d7 gB Mu T;exact Mv
end My
open PySem PySem.W PyProof.Rows L2
namespace PySem.W.Fast
abbrev tw15267703252360194384:=0
abbrev tw8083924024195663759:=0
abbrev tw16862580946441593539:=0
abbrev tw6313417431674342965:=0
abbrev tw13039328934040202152:=0
abbrev tw119030191133820448:=0
abbrev tw5621242908470858596:=0
abbrev tw10516913163705370363:=0
abbrev tw9934411726728133181:=0
abbrev tw14199175435810001196:=0
abbrev tw11534783668338762781:=0
abbrev tw13830540839017541771:=0
abbrev tw7519744565853215244:=0
abbrev tw12900252701293900774:=0
abbrev tw7666144646434903772:=0
abbrev tw10881011603324479155:=0
abbrev tw7578875168338815017:=0
abbrev tw456318644662943847:=0
abbrev tw4193883291466184870:=0
abbrev tw6375919991404814182:=0
abbrev tw8148870258623909711:=0
abbrev tw3896604197212448362:=0
abbrev tw1125407497592279007:=0
abbrev tw15421096264091967105:=0
abbrev tw9076219631624566310:=0
abbrev tw13628570857799319495:=0
abbrev tw8661571910815254499:=0
abbrev tw8754978122620397616:=0
abbrev tw803435193051076200:=0
abbrev tw15323800793356237455:=0
abbrev tw3772736418236953685:=0
abbrev tw11879652095865818771:=0
abbrev tw12254387560824742941:=0
abbrev tw11809429564487976542:=0
abbrev tw7019865674731991172:=0
abbrev tw11750585005723852233:=0
abbrev tw5361227083966485583:=0
abbrev tw5070650444370272120:=0
abbrev tw11159724985361509689:=0
abbrev tw13926321983780418918:=0
abbrev tw16747057936602227840:=0
abbrev tw15872202847475485527:=0
abbrev tw14663690120058978756:=0
abbrev tw369978544397652871:=0
abbrev tw1886535108104451306:=0
abbrev tw17922890239761173430:=0
abbrev tw14262961638964281136:=0
abbrev tw16686861571083258517:=0
abbrev tw4929575129193412862:=0
abbrev tw17061409949290064569:=0
abbrev tw9445245106033065515:=0
abbrev tw3641869521356633262:=0
abbrev tw15974782931843053422:=0
abbrev tw1741028134820175391:=0
abbrev tw334332823756047797:=0
abbrev tw8347615139658917229:=0
abbrev tw2262558153664414983:=0
abbrev tw5563057035471843173:=0
abbrev tw6678191575149327168:=0
abbrev tw15340775663119674750:=0
abbrev tw11110401764992209268:=0
abbrev tw16620158606508889557:=0
abbrev tw14567698077117498108:=0
abbrev tw18398190460780860033:=0
abbrev tw11169240675486609427:=0
abbrev tw7675126090256666256:=0
abbrev tw14710870536691204894:=0
abbrev tw8329549038553984832:=0
abbrev tw5162842922053433895:=0
abbrev tw9036428811786176784:=0
abbrev tw6379571535179211991:=0
abbrev tw16530099843357784856:=0
abbrev tw15820090213409102702:=0
abbrev tw9612273733666301539:=0
abbrev tw10662610878631334765:=0
abbrev tw1205906919250520027:=0
abbrev tw15362215763554116970:=0
abbrev tw8809571629867274786:=0
abbrev tw11261777707114178300:=0
end PySem.W.Fast
end
open PySem PySem.W PyProof.Rows L2
local macro_rules|`(tactic|x_fa $a $b $c)=>`(tactic|(dsimp only [L2.KOf];refine' jG $a $b (fun _ _ _ _ _ _=>$c (by intros;rfl)) ?a ?l ?c ?k;(case a=>k_is);(case l=>k_is);(case c=>k_is);(case k=>k_is)))
set_option maxRecDepth 100000 in
set_option maxHeartbeats 0 in
theorem PySem.Challenge.cw_shearfloor_k29_floors_that_meet_holds : PySem.Challenge.rw_shearfloor_k29_floors_that_meet.Holds := by
 w_on;o_law;k_head;(case hw=>w_witness2)
 k_fill
 refine L2.Sq (l:=PySem.Challenge.rw_shearfloor_k29_floors_that_meet) (n:=63) (k:=11) (x:="_law_script") (CX:=b6) (sp:=L4.xU) rfl (by decide) rfl ⟨rfl,by decide,by decide,rfl⟩ (fun w h Y=>PySem.W.kIn_of Y) ?F ?S ?C
 case F =>
  intro w mg fa h KX G hmg;have T:My.Txt mg:=by
   refine' ⟨tT KX G ?z0,tT KX G ?z1,tT KX G ?z2,tT KX G ?z3,tT KX G ?z4,tT KX G ?z5,tT KX G ?z6,tT KX G ?z7,tT KX G ?z8,tT KX G ?z9,tT KX G ?Zd⟩
   (case z0=>k_is);(case z1=>k_is);(case z2=>k_is);(case z3=>k_is);(case z4=>k_is);(case z5=>k_is);(case z6=>k_is);(case z7=>k_is);(case z8=>k_is);(case z9=>k_is);(case Zd=>k_is)
  have Z:∃aG cI,My.XF (L2.KOf KX) mg aG cI:=by
   dsimp only [L2.KOf];refine' ⟨_,_,My.E8 KX G ?dh ?o9 ?iM ?dZ ?gk ?gn ?gp ?gq ?nz ?nA ⟨?qh,?qi,?qj,?qk,?ql,?qm,?qo,?qq⟩ ⟨?pj,?pk,?pq⟩ (T7 (fun _ _ _ _ _ _=>My.ny fun _ _=>rfl) ?il ?ic ?ik)⟩
   (case dh=>k_is);(case o9=>k_is)
   (case il=>k_is);(case ic=>k_is);(case ik=>k_is)
   (case iM=>first|rfl|k_is|kernel_rfl);(case dZ=>first|rfl|k_is|kernel_rfl);(case gk=>first|rfl|k_is|kernel_rfl);(case gn=>first|rfl|k_is|kernel_rfl);(case gp=>first|rfl|k_is|kernel_rfl);(case gq=>first|rfl|k_is|kernel_rfl);(case nz=>first|rfl|k_is|kernel_rfl);(case nA=>first|rfl|k_is|kernel_rfl);(case qh=>first|rfl|k_is|kernel_rfl);(case qi=>first|rfl|k_is|kernel_rfl);(case qj=>first|rfl|k_is|kernel_rfl);(case qk=>first|rfl|k_is|kernel_rfl);(case ql=>first|rfl|k_is|kernel_rfl);(case qm=>first|rfl|k_is|kernel_rfl);(case qo=>first|rfl|k_is|kernel_rfl);(case qq=>first|rfl|k_is|kernel_rfl);(case pj=>first|rfl|k_is|kernel_rfl);(case pk=>first|rfl|k_is|kernel_rfl);(case pq=>first|rfl|k_is|kernel_rfl)
  obtain ⟨_,_,Z⟩:=Z;have mf:∃v,L4.uV (L2.KOf KX) mg "QUARTER" v (.tup [(.str "t"),(.int 1)]):=by
   dsimp only [L2.KOf];refine' L4.P4 (vs:=[V.str "t",V.int 1]) KX G ?a ?l ?o ?z ?v ?d
   (case a=>k_is);(case l=>k_is);(case o=>rfl);(case z=>decide);(case v=>exact (.cons ⟨_,rfl⟩ (.cons ⟨_,rfl⟩ .nil)));(case d=>exact fun ρ H=>(.cons (.str _) (.cons (.int _) .nil)))
  obtain ⟨_,mf⟩:=mf;have pz:∃v,L4.uV (L2.KOf KX) mg "SHEAR" v (.tup [(.str "s"),(.int 1)]):=by
   dsimp only [L2.KOf];refine' L4.P4 (vs:=[V.str "s",V.int 1]) KX G ?a ?l ?o ?z ?v ?d
   (case a=>k_is);(case l=>k_is);(case o=>rfl);(case z=>decide);(case v=>exact (.cons ⟨_,rfl⟩ (.cons ⟨_,rfl⟩ .nil)));(case d=>exact fun ρ H=>(.cons (.str _) (.cons (.int _) .nil)))
  obtain ⟨_,pz⟩:=pz;obtain⟨_,_,jY⟩:∃f fd,Def (L2.KOf KX) mg "_law_feed" My.Fb ["_law_script","_law_k"] f fd:=by x_fa KX G My.ny
  obtain⟨_,_,jZ⟩:∃f fd,Def (L2.KOf KX) mg "_law_take" My.Fc ["_law_feed_here","_law_many"] f fd:=by x_fa KX G My.ny
  obtain⟨_,_,gD⟩:∃f fd,Def (L2.KOf KX) mg "_law_turning" My.Fe ["_law_feed_here","_law_n"] f fd:=by x_fa KX G My.ny
  obtain⟨_,_,lh⟩:∃f fd,Def (L2.KOf KX) mg "_law_met" My.Ff ["_law_floor_here"] f fd:=by x_fa KX G My.uJ
  obtain⟨_,_,jy⟩:∃f fd,Def (L2.KOf KX) mg "_law_floor" My.Fh ["_law_feed_here","_law_n"] f fd:=by x_fa KX G My.ny
  obtain⟨_,_,fE⟩:∃f fd,Def (L2.KOf KX) mg "_law_numbered" My.Fj ["_law_floor_here","_law_s"] f fd:=by x_fa KX G My.ny
  obtain⟨_,_,j3⟩:∃f fd,Def (L2.KOf KX) mg "_law_form" My.Fm ["_law_floor_here"] f fd:=by x_fa KX G My.uJ
  obtain⟨_,_,iz⟩:∃f fd,Def (L2.KOf KX) mg "_law_behind" My.Fp ["_law_turning_here","_law_s","_law_k"] f fd:=by x_fa KX G My.LQ
  obtain⟨_,_,gG⟩:∃f fd,Def (L2.KOf KX) mg "_law_stepped" My.Fq ["_law_floor_here","_law_step"] f fd:=by x_fa KX G My.ny
  obtain⟨_,_,jz⟩:∃f fd,Def (L2.KOf KX) mg "_law_plain" My.Fs ["_law_word_here"] f fd:=by x_fa KX G My.uJ
  obtain⟨_,_,jA⟩:∃f fd,Def (L2.KOf KX) mg "_law_chart" My.Fu ["_law_floor_here","_law_most"] f fd:=by x_fa KX G My.ny
  obtain⟨_,_,gH⟩:∃f fd,Def (L2.KOf KX) mg "_law_bounded" My.Fw ["_law_feed_here"] f fd:=by x_fa KX G My.uJ
  obtain⟨_,_,lj⟩:∃f fd,Def (L2.KOf KX) mg "_law_led" My.Fx ["_law_floor_here","_law_word_here"] f fd:=by x_fa KX G My.ny
  obtain⟨_,_,j4⟩:∃f fd,Def (L2.KOf KX) mg "_law_anew" My.Fy ["_law_floor_here","_law_p"] f fd:=by x_fa KX G My.ny
  obtain⟨_,_,j5⟩:∃f fd,Def (L2.KOf KX) mg "_law_word" My.FA ["_law_feed_here","_law_most","_law_great"] f fd:=by x_fa KX G My.LQ
  obtain⟨_,_,gI⟩:∃f fd,Def (L2.KOf KX) mg "_law_is_word" My.FC ["_law_word_here"] f fd:=by x_fa KX G My.uJ
  obtain⟨_,_,jB⟩:∃f fd,Def (L2.KOf KX) mg "_law_right" My.FD ["_law_one","_law_other","_law_due","_law_most","_law_found"] f fd:=by x_fa KX G My.W2
  obtain⟨_,_,iA⟩:∃f fd,Def (L2.KOf KX) mg "turned_back" My.FE ["turning"] f fd:=by x_fa KX G My.uJ
  obtain⟨_,_,lp⟩:∃f fd,Def (L2.KOf KX) mg "followed" My.FF ["one","other"] f fd:=by x_fa KX G My.ny
  obtain⟨_,_,iB⟩:∃f fd,Def (L2.KOf KX) mg "called_anew" My.FH ["floor","p"] f fd:=by x_fa KX G My.ny
  obtain⟨_,_,gJ⟩:∃f fd,Def (L2.KOf KX) mg "squares_from" My.FI ["floor","s"] f fd:=by x_fa KX G My.ny
  obtain⟨_,_,d8⟩:∃f fd,Def (L2.KOf KX) mg "numbering_from" My.FJ ["floor","s"] f fd:=by x_fa KX G My.ny
  obtain⟨_,_,fF⟩:∃f fd,Def (L2.KOf KX) mg "numbered_from" My.FK ["floor","s"] f fd:=by x_fa KX G My.ny
  obtain⟨_,_,mh⟩:∃f fd,Def (L2.KOf KX) mg "form_of" My.FL ["floor"] f fd:=by x_fa KX G My.uJ
  obtain⟨_,_,j6⟩:∃f fd,Def (L2.KOf KX) mg "ring_from" My.FO ["turning","first"] f fd:=by x_fa KX G My.ny
  obtain⟨_,_,lu⟩:∃f fd,Def (L2.KOf KX) mg "rings_of" My.FQ ["turning"] f fd:=by x_fa KX G My.uJ
  obtain⟨_,_,pA⟩:∃f fd,Def (L2.KOf KX) mg "often" My.FT ["turning","k"] f fd:=by x_fa KX G My.ny
  obtain⟨_,_,mj⟩:∃f fd,Def (L2.KOf KX) mg "sheared" My.FW ["floor","k"] f fd:=by x_fa KX G My.ny
  obtain⟨_,_,j7⟩:∃f fd,Def (L2.KOf KX) mg "quartered" My.FY ["floor"] f fd:=by x_fa KX G My.uJ
  obtain⟨_,_,iC⟩:∃f fd,Def (L2.KOf KX) mg "led_by_step" My.F0 ["floor","step"] f fd:=by x_fa KX G My.ny
  obtain⟨_,_,nD⟩:∃f fd,Def (L2.KOf KX) mg "led_by" My.F3 ["floor","word"] f fd:=by x_fa KX G My.ny
  obtain⟨_,_,nE⟩:∃f fd,Def (L2.KOf KX) mg "joined" My.F5 ["one","other"] f fd:=by x_fa KX G My.ny
  obtain⟨_,_,jC⟩:∃f fd,Def (L2.KOf KX) mg "made_plain" My.F7 ["word"] f fd:=by x_fa KX G My.uJ
  obtain⟨_,_,gK⟩:∃f fd,Def (L2.KOf KX) mg "put_together" My.Ga ["one","other"] f fd:=by x_fa KX G My.ny
  obtain⟨_,_,jD⟩:∃f fd,Def (L2.KOf KX) mg "row_led_to" My.Gb ["forms","words","place","step"] f fd:=by x_fa KX G My.W0
  have lx:∃f fd,oU (L2.KOf KX) mg "chart_of" My.Gd ["floor","most"] [V.int 60] f fd:=by
   dsimp only [L2.KOf];refine' Ov (d:=1) KX G (by decide) (fun _ _ _ _ _ _ _ us ds hl hd=>match us,ds,hl,hd with|[_],[_],_,_=>⟨_,rfl,rfl⟩) (fun _ _ _ _ _ _ _ us ds hl hd=>match us,ds,hl,hd with|[_,_],[_],_,_=>⟨_,rfl,rfl⟩) ?a ?l ?lT ?e ?v ?c ?k
   (case a=>k_is);(case l=>k_is);(case lT=>k_is);(case e=>rfl);(case v=>exact .cons ⟨_,rfl⟩ (.nil));(case c=>k_is);(case k=>k_is)
  obtain ⟨_,_,lx⟩:=lx;obtain⟨_,_,lz⟩:∃f fd,Def (L2.KOf KX) mg "callings" My.Gf ["one","other"] f fd:=by x_fa KX G My.ny
  have qZ:∃f fd,oU (L2.KOf KX) mg "meet" My.Gh ["one","other","most"] [V.int 60] f fd:=by
   dsimp only [L2.KOf];refine' Ov (d:=1) KX G (by decide) (fun _ _ _ _ _ _ _ us ds hl hd=>match us,ds,hl,hd with|[_,_],[_],_,_=>⟨_,rfl,rfl⟩) (fun _ _ _ _ _ _ _ us ds hl hd=>match us,ds,hl,hd with|[_,_,_],[_],_,_=>⟨_,rfl,rfl⟩) ?a ?l ?lT ?e ?v ?c ?k
   (case a=>k_is);(case l=>k_is);(case lT=>k_is);(case e=>rfl);(case v=>exact .cons ⟨_,rfl⟩ (.nil));(case c=>k_is);(case k=>k_is)
  obtain ⟨_,_,qZ⟩:=qZ;obtain⟨_,_,j8⟩:∃f fd,Def (L2.KOf KX) mg "_law_told" My.Gj ["_law_one","_law_other","_law_most"] f fd:=by x_fa KX G My.LQ
  obtain⟨_,_,qr⟩:∃f fd,Def (L2.KOf KX) mg "law" My.Jg ["_law_script"] f fd:=by x_fa KX G My.uJ
  have e0:=hmg.symm.trans qr.m;cases e0;exact ⟨_,qr.vL,fun base _ _=>L4.zP (My.BA T Z mf pz jY jZ gD lh jy fE j3 iz gG jz jA gH lj j4 j5 gI jB iA lp iB gJ d8 fF mh j6 lu pA mj j7 iC nD nE jC gK jD lx lz qZ j8 qr) fun ns hn=>let ⟨_,st,e,h⟩:=My.uQ ns hn;⟨st,h ▸ e⟩⟩
 case S=>exact fun K H a ns hl hO hS=>⟨a,ns,rfl,hS.script hO,hl,fun _=>rfl⟩
 case C=>exact fun _ _ _ _ z=>z
