import PyProof.Rows.All
import Wide.All
import OpenK.AllK
import Wide.FinOn
import Lean
import PyProof.EqAt
import PyProof.EqKinds
import PyProof.TupleCall
import PyProof.DictIter
import PyProof.EnumMake
import KE.KSortTup
import KE.KDictLaws
import KE.KDictSum
import KE.KIsAll
import PyProof.ExcInit
import PyProof.NsDelKeeps
import PyProof.ExcBaseAll.ValueError
import OpenK.KOwn
import PyProof.ExcAttrAll.ValueError
import PyProof.StrLawsTight
import KE.KIntText
import PyProof.MinMaxWalk
import PyProof.WalkInts
import PyProof.InstStoreFacts
import PySem.Challenge.RW_shearfloor_k19_texts_of_no_word
set_option Elab.async false
set_option linter.all false
set_option compiler.extract_closed false
set_option maxRecDepth 100000
set_option maxHeartbeats 4000000
set_option genSizeOf false
set_option bootstrap.genMatcherCode false
noncomputable section
section
local macro_rules|`(command|def $n:declId $s:optDeclSig $v:declVal)=>`(theorem $n:declId $(⟨Lean.mkNode ``Lean.Parser.Command.declSig #[s.raw[0],s.raw[1][0]]⟩):declSig $v:declVal)
local macro_rules|`(command|abbrev $n:declId $s:optDeclSig $v:declVal)=>`(noncomputable def $n:declId $s:optDeclSig $v:declVal)
local macro_rules|`(⋯)=>`(by lk)
local macro_rules|`(∅)=>`(by decide)
local macro_rules|`(tactic|lk)=>`(tactic|first|lia|omega)
abbrev LA:=@PySem.Heap.get?_push_of_some
abbrev LC:=@Bool.false_ne_true
abbrev LD:=@PySem.Heap.lt_size
abbrev LG:=@List.length_map
abbrev LH:=@Option.some.inj
abbrev LI:=@Nat.le_refl
abbrev LJ:=@PySem.Heap.get?_push_size
abbrev LK:=@List.mem_append_right
abbrev LL:=@List.mem_cons_self
abbrev LN:=@List.getElem?_eq_some_iff
abbrev LO:=@List.mem_cons
abbrev LP:=@List.length_append
abbrev LQ:=@List.mem_cons_of_mem
abbrev LR:=@Nat.lt_of_lt_of_le
abbrev LS:=@Array.getElem?_eq_some_iff
abbrev LU:=@List.size_toArray
abbrev LV:=@List.getElem?_append_right
abbrev LW:=@List.length_take
abbrev LX:=@List.mem_map
abbrev LY:=@PySem.Heap.get?_update_other
abbrev LZ:=@List.length_cons
abbrev L0:=@List.getElem?_append_left
abbrev L3:=@List.getElem?_map
abbrev L5:=@Nat.le_trans
abbrev L6:=@List.mem_of_getElem?
abbrev L7:=@Nat.ne_of_lt
abbrev L8:=@List.getElem?_set_self
abbrev L9:=@List.getElem?_eq_getElem
abbrev Ma:=@PySem.Heap.get?_update_self
abbrev Mb:=@List.not_mem_nil
abbrev Mc:=@Option.map_eq_some_iff
abbrev Md:=@List.map_append
abbrev Me:=@List.length_drop
abbrev Mf:=@Bool.and_eq_true
abbrev Mg:=@List.getElem?_set_ne
abbrev Mh:=@List.getElem?_eq_none_iff
abbrev Mi:=@List.mem_append
abbrev Mj:=@Option.isSome_iff_exists
abbrev Mk:=@List.length_replicate
abbrev Ml:=@PySem.Heap.size_push
abbrev Mm:=@List.mem_append_left
abbrev Mp:=@List.append_nil
abbrev Mq:=@List.length_set
abbrev Mr:=@List.lookup_cons
abbrev Ms:=@List.getElem?_replicate
abbrev Mt:=@List.map_cons
abbrev Mu:=@Nat.lt_succ_self
abbrev Mv:=@Array.append_empty
abbrev Mw:=@Nat.toDigits_of_lt_base
abbrev Mx:=@Nat.zero_le
abbrev Mz:=@List.map_map
abbrev MA:=@List.getD_eq_getElem?_getD
abbrev MB:=@List.take_succ_eq_append_getElem
abbrev MC:=@List.mem_singleton
abbrev MD:=@Bool.eq_iff_iff
abbrev ME:=@Option.bind_eq_some_iff
abbrev MF:=@Int.toNat_natCast
abbrev MG:=@Nat.le_of_lt
abbrev MH:=@Nat.ne_of_gt
abbrev MI:=@Nat.le_add_right
abbrev MJ:=@Option.bind_some
abbrev MK:=@Nat.lt_irrefl
abbrev ML:=@Bool.false_eq_true
abbrev MN:=@Int.emod_lt_of_pos
abbrev MO:=@List.drop_eq_nil_of_le
abbrev MP:=@List.eq_nil_of_length_eq_zero
abbrev MQ:=@List.reverse_cons
abbrev MR:=@List.length_singleton
abbrev MS:=@List.mem_of_mem_take
abbrev MT:=@List.length_reverse
abbrev MU:=@List.nodup_cons
abbrev MV:=@Int.emod_nonneg
abbrev MW:=@PySem.Heap.size_after_update
abbrev MX:=@List.take_of_length_le
abbrev MY:=@Nat.le_of_not_lt
abbrev MZ:=@List.take_length
abbrev M0:=@Nat.ble_eq_true_of_le
abbrev M1:=@PySem.Heap.get?_none_of_le
abbrev M3:=@List.of_mem_zip
abbrev M4:=@List.forIn_cons
abbrev M5:=@List.length_nil
abbrev M6:=@Nat.min_eq_left
abbrev M7:=@List.filterMap_cons
abbrev M8:=@List.map_congr_left
abbrev M9:=@List.mem_map_of_mem
abbrev Na:=@Bool.false_and
abbrev Nb:=@List.forIn_nil
abbrev Nc:=@Nat.lt_of_le_of_lt
abbrev Nd:=@List.cons.inj
abbrev Nf:=@List.map_take
abbrev Nj:=@List.getElem_mem
abbrev Nk:=@List.any_eq_true
abbrev Nl:=@Nat.sub_self
abbrev Nm:=@List.all_eq_true
@[reducible]def Zfr:=PySem.W.Frag
namespace L2
open PySem PySem.Spec PyProof.Rows
@[reducible]def Key:=Sum Int Str
abbrev pA:Key->Value->Bool
 |.inl k,v=>Value.isInt k v
 |.inr x,v=>Value.isStrOf x v
abbrev zW(w:World):Key->Int
 |.inl k=>hashInt k
 |.inr x=>hashStr w x
def oB:∀{k:Key} {v:Value},pA k v=true->(∃i t,k=Sum.inl i/\v=Value.int i t)\/(∃x t,k=Sum.inr x/\v=Value.str x t)
 |.inl i,v,h=>by
  obtain⟨t,e⟩:=Value.isInt_shape (k:=i) (v:=v) h;exact .inl ⟨i,t,rfl,e⟩
 |.inr x,v,h=>by
  obtain⟨t,e⟩:=Value.isStrOf_shape (x:=x) (v:=v) h;exact .inr ⟨x,t,rfl,e⟩
def qB(a b:Int):decide ((Sum.inl a:Key)=Sum.inl b)=(a == b):=by by_cases e:a=b;subst e;simp;have h:¬(Sum.inl a:Key)=Sum.inl b:=λq=>e (Sum.inl.inj q);rw[decide_eq_false h];exact(beq_eq_false_iff_ne.mpr e).symm
def qC(a b:Str):decide ((Sum.inr a:Key)=Sum.inr b)=decide (a=b):=by by_cases e:a=b;subst e;simp;have h:¬(Sum.inr a:Key)=Sum.inr b:=λq=>e (Sum.inr.inj q);rw[decide_eq_false h,decide_eq_false e]
def qD(a:Int)(b:Str):decide ((Sum.inl a:Key)=Sum.inr b)=false:=decide_eq_false (λq=>nomatch q)
def qE(a:Str)(b:Int):decide ((Sum.inr a:Key)=Sum.inl b)=false:=decide_eq_false (λq=>nomatch q)
abbrev la(prog:Program)(w:World):PySem.KeyKind prog w Key where
 is:=pA
 hash:=zW w
 inj:=λv a b ha hb=>by
  rcases oB ha with⟨i,t,rfl,rfl⟩|⟨x,t,rfl,rfl⟩
  rcases oB hb with⟨j,u,rfl,e⟩|⟨y,u,rfl,e⟩
  injection e with e1 _;rw[e1];exact nomatch e;rcases oB hb with⟨j,u,rfl,e⟩|⟨y,u,rfl,e⟩
  exact nomatch e;injection e with e1 _;rw[e1]
 byValue:=λk v h=>by
  rcases oB h with⟨i,t,rfl,rfl⟩|⟨x,t,rfl,rfl⟩<;>rfl
 pyHash:=λhv h=>by
  rcases oB hv with⟨i,t,rfl,rfl⟩|⟨x,t,rfl,rfl⟩
  exact wpAny_pyHash_int h;exact wpAny_pyHash_str h
 eqBool:=λhu hv h=>by
  rcases oB hu with⟨i,t,rfl,rfl⟩|⟨x,t,rfl,rfl⟩
  rcases oB hv with⟨j,u,rfl,rfl⟩|⟨y,u,rfl,rfl⟩
  rw[qB]at h;exact wpAny_eqBool_int h;rw[qD]at h;exact SeqAt.EqAt.int_str i t y u _ _ _ _ h;rcases oB hv with⟨j,u,rfl,rfl⟩|⟨y,u,rfl,rfl⟩
  rw[qE]at h;exact SeqAt.EqAt.str_int x t j u _ _ _ _ h;rw[qC]at h;exact wpAny_eqBool_str h
 «strs»:=λk x t v h=>by
  rcases oB h with⟨i,u,rfl,e⟩|⟨y,u,rfl,e⟩
  exact nomatch e;injection e with e1 _;subst e1;cases v<;>rfl
inductive V where
 |non|bl (b:Bool)|int (i:Int)|str (x:Str)|mB (b:Array UInt8)|qF (b:UInt64)|ref (a:Addr)|ty (n:String)
 deriving DecidableEq
abbrev RelV:V->Value->Prop
 |.non,u=>u=Value.none
 |.bl b,u=>u=Value.bool b
 |.int i,u=>∃t,u=Value.int i t
 |.str x,u=>∃t,u=Value.str x t
 |.mB b,u=>∃t,u=Value.bytes b t
 |.qF b,u=>∃t,u=Value.float b t
 |.ref a,u=>u=Value.ref a
 |.ty n,u=>u=Value.type n
@[reducible]def Vals:List V->List Value->Prop:=Paired RelV
def Vals.length{xs:List V}{us:List Value}(r:Vals xs us):xs.length=us.length:=Paired.length r
def Vals.get:∀{xs:List V} {us:List Value} {i:Nat} {x:V},Vals xs us->xs[i]?=some x->∃u,us[i]?=some u/\RelV x u
 |_,_,_,_,.nil,e=>by simp at e
 |_,_,0,_,.cons r _,e=>by simp at e;subst e;exact⟨_,rfl,r⟩
 |_,_,i+1,x,.cons _ t,e=>by
  obtain⟨u,h1,h2⟩:=Vals.get (i:=i) (x:=x) t (by simpa using e);exact⟨u,by simpa using h1,h2⟩
def Vals.set{x:V}{u:Value}(r:RelV x u):∀{xs:List V} {us:List Value} (i:Nat),Vals xs us->Vals (xs.set i x) (us.set i u)
 |_,_,_,.nil=>.nil
 |_,_,0,.cons _ t=>.cons r t
 |_,_,i+1,.cons q t=>.cons q (Vals.set r i t)
def Vals.append:∀{xs ys:List V} {us ws:List Value},Vals xs us->Vals ys ws->Vals (xs ++ ys) (us ++ ws)
 |_,_,_,_,.nil,s=>s
 |_,_,_,_,.cons r t,s=>.cons r (Vals.append t s)
def Vals.take:∀{xs:List V} {us:List Value} (n:Nat),Vals xs us->Vals (xs.take n) (us.take n)
 |_,_,0,_=>.nil
 |_,_,_+1,.nil=>.nil
 |_,_,n+1,.cons r t=>.cons r (Vals.take n t)
def Vals.drop:∀{xs:List V} {us:List Value} (n:Nat),Vals xs us->Vals (xs.drop n) (us.drop n)
 |_,_,0,r=>r
 |_,_,_+1,.nil=>.nil
 |_,_,n+1,.cons _ t=>Vals.drop n t
abbrev ko:Option V->Option Value->Prop
 |some v,some u=>RelV v u
 |none,none=>True
 |_,_=>False
abbrev KV{G:Type}:List (G×V)->List (G×Value)->Prop:=Paired λ(p:G×V) (q:G×Value)=>p.1=q.1/\RelV p.2 q.2
abbrev kV:Key->V
 |.inl i=>.int i
 |.inr x=>.str x
set_option genInjectivity false in
inductive HO where
 /-- a list -/
 |lst (xs:List V)
 /-- a tuple (never changes) -/
 |tup (xs:List V)
 /-- a dict whose keys are ints and texts;one whose keys are tuples of ints and texts (the empty one is both) -/
 |dK (kvs:List (Key×V))|dT (kvs:List (List Key×V))
 /-- a set of ints: its members,its size -/
 |set (S:Int->Bool) (n:Nat)
 /-- an instance of the class at C,its dict at dx,its attributes -/
 |ins (C dx:Addr) (fs:List (Str×V))
 /-- the dict of the instance at x -/
 |own (x:Addr)
 /-- the dict of an exception -/
 |xd (fs:List (Str×V))
 /-- a bound method,f of x -/
 |met (f x:Addr)
 /-- a range object lo,lo+1,.. below hi -/
 |jE (lo hi:Int)
 /-- a thing that is known to the object (the script;a dict while a loop walks it): read,never written while it is so -/
 |gR (o:Obj) (u:HO)
 /-- a code uT table -/
 |pB (ps:Array Value)
 /-- any other thing,by what is true of its one object (a def of CD own: FR a S n:=HO.ext λh=>..) -/
 |ext (Y:Heap->Prop)
@[reducible]def Hp:=Addr->Option HO
abbrev upd(H:Hp)(a:Addr)(o:HO):Hp:=λb=>if b=a then some o else H b
def gw{H:Hp}{a:Addr}{o:HO}:upd H a o a=some o:=by unfold upd;rw[if_pos rfl]
def bg{H:Hp}{a b:Addr}{o:HO}(h:b≠a):upd H a o b=H b:=by unfold upd;rw[if_neg h]
def CF{H:Hp}{a:Addr}{o u:HO}:upd (upd H a o) a u=upd H a u:=by funext b;unfold upd;split<;>rfl
def pC{H:Hp}{a b:Addr}{o u:HO}(h:H a=some o)(h':H b=some u)(d:o≠u):a≠b:=by intro e;subst e;rw[h]at h';exact d (LH h')
def qG{H:Hp}{a b:Addr}{o:HO}(h:H a=some o)(h':H b=none):a≠b:=by intro e;subst e;rw[h]at h';cases h'
abbrev kq(h:Heap)(a:Addr)(its:Array Value):Prop:=∃o,h.get? a=some o/\o.cls=.type "tuple" /\ o.dict=none/\∃n,o.data=.seq its n
def kq.tup{h:Heap}{a:Addr}{its:Array Value}(x:kq h a its):IsTup h a its:=let ⟨o,e,c,_,n,d⟩:=x;⟨o,e,c,n,d⟩
def kq.new(h:Heap)(its:Array Value):kq (h.push { cls:=.type "tuple",data:=.seq its }) h.objs.size its:=⟨_,LJ _ rfl,rfl,rfl,_,rfl⟩
section
variable (P:Program)(w:World)
abbrev aT(H:Hp)(h:Heap)(a:Addr):HO->Prop
 |.lst xs=>xs.length<=sizeLine/\∃(its:List Value) (n:Nat),Vals xs its/\h.get? a=some { cls:=.type "list",data:=.seq its.toArray n }
 |.tup xs=>xs.length<=sizeLine/\∃its:List Value,Vals xs its/\kq h a its.toArray
 |.dK kvs=>kvs.length<=sizeLine/\(a == sysModules)=false/\∃vs,KV kvs vs/\h.DictOf (la P w) a vs
 | .dT kvs=>kvs.length<=sizeLine/\(a == sysModules)=false/\∃ xs:List (List Key×Addr×Value),
   Paired (λ(p:List Key×V) (q:List Key×Addr×Value)=>p.1=q.1/\H q.2.1=some (.tup (p.1.map kV))/\RelV p.2 q.2.2) kvs xs /\
   ∃o es ep,h.get? a=some o/\o.ExactDict/\o.data=.dict es ep/\es.toList=xs.map (entryOfKey (tupleKind (la P w)))/\(xs.map (·.1)).Nodup
 |.set S n=>h.SetOf (intKind P w) a S n
 | .ins C dx fs=>H dx=some (.own a)/\fs.length<=1000/\dx≠a/\h.get? a=some (PySem.W.instObj C dx) /\
   ∃mA,h.Ns1 dx mA/\(∀f,ko (fs.lookup f) (mA f))/\PySem.Within mA (fs.map (·.1))
 |.own _=>∃o,h.get? a=some o
 |.xd fs=>∃mA,h.Ns1 a mA/\∀f,ko (fs.lookup f) (mA f)
 |.jE lo hi=>∃t u v,h.get? a=some { cls:=.type "range",data:=.fields #[.int lo t,.int hi u,.int 1 v] }
 |.gR o u=>h.get? a=some o/\aT H h a u
 |.pB ps=>h.get? a=some { cls:=.none,data:=.fields ps }
 |.met f x=>h.get? a=some (PySem.W.methodObj (.ref f) (.ref x))
 |.ext Y=>Y h/\(∃o,h.get? a=some o)/\∀h1 h2:Heap,Y h1->(∀o,h1.get? a=some o->h2.get? a=some o)->Y h2
abbrev ey(H:Hp)(h:Heap):Prop:=∀a o,H a=some o->aT P w H h a o
end
section
variable {P:Program}{w:World}{H H':Hp}{h h':Heap}{a:Addr}{o:HO}
def aT.lt(x:aT P w H h a o):a<h.objs.size:=by
 cases o with
 |lst xs=>obtain⟨_,_,_,_,e⟩:=x;exact LD e
 |tup xs=>obtain⟨_,_,_,_,e,_⟩:=x;exact LD e
 |dK kvs=>obtain⟨_,_,_,_,o,_,_,e,_⟩:=x;exact LD e
 |dT kvs=>obtain⟨_,_,_,_,o,_,_,e,_⟩:=x;exact LD e
 |set S n=>obtain⟨o,_,_,_,e,_⟩:=x;exact LD e
 |ins C dx fs=>obtain⟨_,_,_,e,_⟩:=x;exact LD e
 |own y=>obtain⟨_,e⟩:=x;exact LD e
 |xd fs=>obtain⟨_,⟨_,_,_,e,_⟩,_⟩:=x;exact LD e
 |jE lo hi=>obtain⟨_,_,_,e⟩:=x;exact LD e
 |gR ob u=>obtain⟨e,_⟩:=x;exact LD e
 |pB ps=>exact LD (show h.get? a=some _ from x)
 |met f y=>exact LD (show h.get? a=some _ from x)
 |ext Y=>obtain⟨_,⟨_,e⟩,_⟩:=x;exact LD e
def Paired.uU{J S:Type}{F G:J->S->Prop}:∀{l₁:List J} {l₂:List S},Paired F l₁ l₂->(∀a b,F a b->G a b)->Paired G l₁ l₂
 |_,_,.nil,_=>.nil
 |_,_,.cons r t,f=>.cons (f _ _ r) (Paired.uU t f)
def aT.stay(x:aT P w H h a o)(k:∀b u,(b=a\/H b=some (.own a))->h.get? b=some u->h'.get? b=some u)
  (ho:∀b,H b=some (.own a)->H' b=some (.own a)) (ht:∀b xs,H b=some (.tup xs)->H' b=some (.tup xs)):aT P w H' h' a o:=by
 induction o with
 |lst xs=>obtain⟨z,its,n,r,e⟩:=x;exact⟨z,its,n,r,k _ _ (.inl rfl) e⟩
 |tup xs=>obtain⟨z,its,r,ob,e,c⟩:=x;exact⟨z,its,r,ob,k _ _ (.inl rfl) e,c⟩
 |dK kvs=>obtain⟨z,y,vs,r,ob,es,ep,e,c⟩:=x;exact⟨z,y,vs,r,ob,es,ep,k _ _ (.inl rfl) e,c⟩
 |dT kvs =>
  obtain⟨z,y,xs,r,ob,es,ep,e,c⟩:=x;exact⟨z,y,xs,Paired.uU r λp q z=>⟨z.1,ht _ _ z.2.1,z.2.2⟩,ob,es,ep,k _ _ (.inl rfl) e,c⟩
 |set S n=>obtain⟨ob,es,ep,t,e,c⟩:=x;exact⟨ob,es,ep,t,k _ _ (.inl rfl) e,c⟩
 |ins C dx fs =>
  obtain⟨d,z,ne,e,mA,⟨od,es,ep,e2,c⟩,r⟩:=x;exact⟨ho _ d,z,ne,k _ _ (.inl rfl) e,mA,⟨od,es,ep,k _ _ (.inr d) e2,c⟩,r⟩
 |own y=>obtain⟨ob,e⟩:=x;exact⟨ob,k _ _ (.inl rfl) e⟩
 |xd fs=>obtain⟨mA,⟨od,es,ep,e,c⟩,r⟩:=x;exact⟨mA,⟨od,es,ep,k _ _ (.inl rfl) e,c⟩,r⟩
 |jE lo hi=>obtain⟨t,u,v,e⟩:=x;exact⟨t,u,v,k _ _ (.inl rfl) e⟩
 |gR ob u ih=>obtain⟨e,q⟩:=x;exact⟨k _ _ (.inl rfl) e,ih q⟩
 |pB ps =>
  have e:h.get? a=some { cls:=.none,data:=.fields ps }:=x;show h'.get? a=some { cls:=.none,data:=.fields ps };exact k a _ (.inl rfl) e
 |met f y =>
  have e:h.get? a=some (PySem.W.methodObj (.ref f) (.ref y)):=x;show h'.get? a=some (PySem.W.methodObj (.ref f) (.ref y));exact k a _ (.inl rfl) e
 |ext Y=>obtain⟨p,⟨o,e⟩,st⟩:=x;exact⟨st _ _ p λo q=>k _ _ (.inl rfl) q,⟨o,k _ _ (.inl rfl) e⟩,st⟩
def ey.lt(x:ey P w H h)(e:H a=some o):a<h.objs.size:=(x a o e).lt
def ey.fresh(x:ey P w H h)(e:h.objs.size<=a):H a=none:=by
 cases q:H a with
 |none=>rfl
 |some u=>exact absurd (LR (x.lt q) e) (MK _)
def ey.kept(x:ey P w H h)(k:∀b u,h.get? b=some u->h'.get? b=some u):ey P w H h':=λa o e =>
 (x a o e).stay (λb u _ q=>k b u q) (λ_ q=>q) λ_ _ q=>q
def ey.laid(x:ey P w H h)(k:∀b u,h.get? b=some u->h'.get? b=some u)(hp:h.objs.size<=a)(new:aT P w (upd H a o) h' a o):ey P w (upd H a o) h':=λb u e=>by
 have hn:=x.fresh hp;by_cases hb:b=a;subst hb;rw[gw]at e;cases e;exact new;rw[bg hb]at e;exact(x b u e).stay (λc v _ q=>k c v q) (λc q=>by rw[bg (qG q hn)];exact q) λc xs q=>by rw[bg (qG q hn)];exact q
end
abbrev Rd(H:Hp)(a:Addr)(u:HO):Prop:=H a=some u\/∃o,H a=some (.gR o u)
def Rd.ok{P:Program}{w:World}{H:Hp}{h:Heap}{a:Addr}{u:HO}(r:Rd H a u)(x:ey P w H h):aT P w H h a u:=by
 rcases r with r|⟨o,r⟩
 exact x a u r;obtain⟨_,q⟩:=x a _ r;exact q
abbrev yr:Option HO->Prop
 |some (.lst _)=>True
 |some (.dK _)=>True
 |some (.dT _)=>True
 |some (.set _ _)=>True
 |some (.ins _ _ _)=>True
 |some (.ext _)=>True
 |_=>False
section
variable {P:Program}{w:World}{H:Hp}{h h':Heap}{x e:Addr}{o':HO}
def ey.write(ok:ey P w H h)(mu:yr (H x))(he:e=x\/H e=some (.own x))(k:∀b u,b≠e->h.get? b=some u->h'.get? b=some u)(t9:∃u,h'.get? e=some u)
  (new:aT P w (upd H x o') h' x o'):ey P w (upd H x o') h':=λb u q=>by
 have uV:∀c y,H c=some (.own y)->c≠x:=λc y r z=>by subst z;rw[r]at mu;exact mu
 have zX:∀c xs,H c=some (.tup xs)->c≠x:=λc xs r z=>by subst z;rw[r]at mu;exact mu
 by_cases hb:b=x;subst hb;rw[gw]at q;cases q;exact new;rw[bg hb]at q;by_cases qH:b=e;have q':H b=some (.own x):=by
  rcases he with z|z
  exact absurd (qH.trans z) hb;rw[qH];exact z
 rw[q]at q';cases q';obtain⟨v,hv⟩:=t9;exact⟨v,by rw[qH];exact hv⟩;refine(ok b u q).stay (λc v hc r=>k c v ?_ r) (λc r=>by rw[bg (uV c b r)];exact r) λc xs r=>by rw[bg (zX c xs r)];exact r
 rcases hc with rfl|hc
 exact qH;rintro rfl;rcases he with z|z
 exact uV c b hc z;rw[hc]at z;cases z;exact hb rfl
end
structure Un(fs ex:List Addr)(H H':Hp)(h h':Heap):Prop where
 keep:∀b o,h.get? b=some o->H b=none->b ∉ fs->b ∉ ex->h'.get? b=some o
 slot:∀b o,h.get? b=some o->H b=none->b∈fs->b ∉ ex->∃sl,h'.get? b=some { o with slots:=sl }
 free:∀b o,h.get? b=some o->H b=none->b ∉ ex->H' b=none
 there:∀b o,h.get? b=some o->b ∉ ex->∃o',h'.get? b=some o'
 tups:∀b xs,H b=some (.tup xs)->H' b=some (.tup xs)
 iN:∀b o u,H b=some (.gR o u)->H' b=some (.gR o u)
 jc:∀b ps,H b=some (.pB ps)->∃more,H' b=some (.pB (ps ++ more))
section
variable {fs fs' ex ex':List Addr}{H H1 H2:Hp}{h h1 h2 h':Heap}{a x e:Addr}{o:HO}
def Un.any(u:Un fs ex H H1 h h1){b:Addr}{ob:Obj}(q:h.get? b=some ob)(n:H b=none)(hx:b ∉ ex):∃sl,h1.get? b=some { ob with slots:=sl }:=by by_cases hb:b∈fs;exact u.slot b ob q n hb hx;exact⟨ob.slots,u.keep b ob q n hb hx⟩
def Un.kept(k:∀b u,h.get? b=some u->h'.get? b=some u):Un fs ex H H h h' :=
 ⟨λb ob q _ _ _=>k b ob q,λb ob q _ _ _=>⟨ob.slots,k b ob q⟩,λ_ _ _ n _=>n,λb ob q _=>⟨ob,k b ob q⟩,λ_ _ q=>q,λ_ _ _ q=>q,λ_ ps q=>⟨#[],by rw[q];simp⟩⟩
def Un.refl:Un fs ex H H h h:=Un.kept λ_ _ q=>q
def Un.laid(k:∀b u,h.get? b=some u->h'.get? b=some u)(hp:h.objs.size<=a)(hn:H a=none):Un fs ex H (upd H a o) h h' where
 keep:=λb u q _ _ _=>k b u q
 slot:=λb u q _ _ _=>⟨u.slots,k b u q⟩
 free:=λb u q n _=>by rw[bg (L7 (LR (LD q) hp))];exact n
 there:=λb u q _=>⟨u,k b u q⟩
 tups:=λb xs q=>by rw[bg (qG q hn)];exact q
 iN:=λb u xs q=>by rw[bg (qG q hn)];exact q
 jc:=λb ps q=>⟨#[],by rw[bg (qG q hn),q];simp⟩
def Un.write(mu:yr (H x))(he:e=x\/H e=some (.own x))(k:∀b u,b≠e->h.get? b=some u->h'.get? b=some u)(t9:∃u,h'.get? e=some u):Un fs ex H (upd H x o) h h':=by
 have hx:∀b,H b=none->b≠x:=λb n z=>by subst z;rw[n]at mu;exact mu
 have hb:∀b,H b=none->b≠e:=λb n z=>by
  subst z;rcases he with r|r
  exact hx b n r;rw[n]at r;cases r
 have hm:∀b u,H b=some u->¬yr (some u)->b≠x:=λb u q nm z=>by subst z;rw[q]at mu;exact nm mu
 refine⟨λb u q n _ _=>k b u (hb b n) q,λb u q n _ _=>⟨u.slots,k b u (hb b n) q⟩,λb u q n _=>by rw[bg (hx b n)];exact n,λb u q _=>?_,
  λb xs q=>by rw[bg (hm b _ q λz=>z)];exact q,λb u xs q=>by rw[bg (hm b _ q λz=>z)];exact q,λb ps q=>⟨#[],by rw[bg (hm b _ q λz=>z),q];simp⟩⟩
 by_cases qH:b=e;subst qH;exact t9;exact⟨u,k b u qH q⟩
end
abbrev yt(h:Heap)(H:Hp):List Addr:=(List.range h.objs.size).filter λa=>(H a).isSome
abbrev jd(h:Heap)(H:Hp):Heap:=PySem.W.hideAll h (yt h H)
def FT(h:Heap)(H:Hp):(jd h H).objs.size=h.objs.size:=PySem.W.hideAll_size _ _
def FU{h:Heap}{H:Hp}{b:Addr}{o:Obj}(e:h.get? b=some o)(n:H b=none):(jd h H).get? b=some o :=
 PySem.W.hideAll_get _ e λhm=>by
  have q:(H b).isSome=true:=(List.mem_filter.mp hm).2;rw[n]at q;simp at q
def FV{h:Heap}{H:Hp}{b:Addr}{o:Obj}(e:(jd h H).get? b=some o):h.get? b=some o/\H b=none:=by
 have e':h.get? b=some o:=PySem.W.of_hideAll (yt h H) e;refine⟨e',?_⟩;cases q:H b with
 |none=>rfl
 |some x =>
  have hm:b∈yt h H:=List.mem_filter.mpr ⟨List.mem_range.mpr (LD e'),by simp[q]⟩;have z:(jd h H).get? b=none:=PySem.W.hideAll_none (yt h H) hm;rw[z]at e;cases e
abbrev oE(g h:Heap)(L:Addr):List (Addr×Obj):=(List.range h.objs.size).filterMap λa=>if a=L\/(g.get? a).isSome=true then none else(h.get? a).map λo=>(a,o)
abbrev rest(g h:Heap)(L d:Addr):List (Addr×Obj):=(oE g h L).filter λp=>decide (p.1≠d)
structure Mod(K:Zfr)(mg:Str->Option Value)(base:Heap):Prop where
 oF:K.In base
 glob:base.Ns mainGlobals mg
 blt:∃mb,base.Ns builtinsNs mb/\∀x:Str,x≠"__name__" -> mb x=bootBuiltins x
 nolimit:base.NoLimit
set_option genInjectivity false in
structure Cx where
 prog:Program
 w:World
 K:Zfr
 mg:Str->Option Value
 base:Heap
 A:Around
 N:List Str
 s₀:Shared
 H₀:Hp
 env:Env
 outer:List Env
 stack:List Env
 ex:List Addr
 fn:Str->Bool
 calm:Bool
 pn:List (Addr×Obj)
 xe:Value->Shared->Prop
abbrev frs(l:List Env):List Addr:=l.filterMap (·.frame)
@[reducible]def Cx.fs(X:Cx):List Addr:=frs X.outer
abbrev zY(sc:Scope)(x:Str):Prop:=sc.names.lookup x=some .local\/sc.names.lookup x=some .cell\/sc.names.lookup x=some .free
abbrev Loc(sc:Scope)(x:Str):Prop:=sc.names.lookup x=some .local\/sc.names.lookup x=some .cell
abbrev Look(env:Env)(h:Heap)(m:Str->Option Value)(x:Str)(u:Value):Prop :=
 (env.kindOf x=some .local/\m x=some u)\/((env.kindOf x=some .cell\/env.kindOf x=some .free)/\∃c,env.cells.lookup x=some c/\h.IsCell c (some u))
structure Cx.Ok(X:Cx):Prop where
 mod:Mod X.K X.mg X.base
 kind:X.env.scope.kind=.function
 glob:X.env.globals=mainGlobals
 blt:X.env.builtins=builtinsNs
 above:X.s₀.heap.objs.size<=X.env.locals
 inj:∀x y c,X.env.cells.lookup x=some c->X.env.cells.lookup y=some c->x=y
 has:∀x,(X.env.kindOf x=some .cell\/X.env.kindOf x=some .free)->∃c,X.env.cells.lookup x=some c
 pD:∀x c,X.fn x=true->X.env.cells.lookup x=some c->X.s₀.heap.objs.size<=c
 hd:X.calm=true->X.A.handled=none
 frames:X.A.frames=some X.stack
 stk:X.stack=X.outer\/(X.stack=X.env :: X.outer/\X.env.frame=some X.env.locals)
 uW:∀b∈X.ex,b≠X.env.locals/\∀x c,X.env.cells.lookup x=some c->c≠b
 bs:∀b o,X.base.get? b=some o->X.s₀.heap.get? b=some o/\X.H₀ b=none
 je:X.base.objs.size<=X.s₀.heap.objs.size
 gI:∀b o,X.base.get? b=some o->b ∉ X.ex
 kr:∀b∈X.ex,b ∉ X.fs
 eX:X.s₀.heap.FunFrames X.base X.outer
 mR:∀b∈X.fs,X.H₀ b=none
structure Inv(X:Cx)(pins:List (Addr×Obj))(U:List (Option V))(H:Hp)(s:Shared):Prop where
 ok:X.Ok
 os:s.os=X.s₀.os
 bare:AllBare s.gens
 base:Un X.fs X.ex X.H₀ H X.s₀.heap s.heap
 loc:∃m,s.heap.Ns X.env.locals m/\∀(i:Nat) (x:Str) (v:V),X.N[i]?=some x->U[i]?=some (some v)->zY X.env.scope x->∃u,RelV v u/\Look X.env s.heap m x u
 cell:∀x c,X.env.cells.lookup x=some c->∃v,s.heap.IsCell c v
 free:H X.env.locals=none
 b6:∀x c,X.env.cells.lookup x=some c->H c=none
 pin:∀p∈X.pn ++ pins,s.heap.get? p.1=some p.2/\H p.1=none/\p.1≠X.env.locals/\p.1 ∉ X.fs/\∀v,p.2.data≠.cell v
 hok:ey X.prog X.w H s.heap
 len:U.length=X.N.length
section
variable {X:Cx}{pins:List (Addr×Obj)}{U:List (Option V)}{H H':Hp}{s:Shared}{h':Heap}
def Cx.Ok.zZ(ok:X.Ok){b:Addr}{o:Obj}(e:X.base.get? b=some o):b ∉ X.fs:=λhb=>by
 have:=(ok.eX.mem hb).1;rw[e]at this;cases this
def Inv.bs(I:Inv X pins U H s):∀b o,X.base.get? b=some o->s.heap.get? b=some o/\H b=none:=λb o e =>
 ⟨I.base.keep b o (I.ok.bs b o e).1 (I.ok.bs b o e).2 (I.ok.zZ e) (I.ok.gI b o e),I.base.free b o (I.ok.bs b o e).1 (I.ok.bs b o e).2 (I.ok.gI b o e)⟩
def Inv.bk(I:Inv X pins U H s):∀b o,X.base.get? b=some o->s.heap.get? b=some o:=λb o e=>(I.bs b o e).1
def Inv.mod(I:Inv X pins U H s):Mod X.K X.mg X.base:=I.ok.mod
def Inv.iG(I:Inv X pins U H s):X.K.In s.heap:=I.ok.mod.oF.keeps I.bk
def Inv.lt(I:Inv X pins U H s):X.env.locals<s.heap.objs.size:=let ⟨_,hn,_⟩:=I.loc;hn.lt
def Inv.sz(I:Inv X pins U H s):X.s₀.heap.objs.size<=s.heap.objs.size:=L5 I.ok.above (MG I.lt)
def Inv.oG(I:Inv X pins U H s){a:Addr}(h:s.heap.objs.size<=a):a ∉ X.fs:=λhb=>by
 obtain⟨_,o,ho,_⟩:=I.ok.eX.mem hb;exact absurd (LR (LD ho) (L5 I.sz h)) (MK _)
def Inv.mS(I:Inv X pins U H s):∀x c,X.env.cells.lookup x=some c->c≠X.env.locals:=λx c e z=>by
 obtain⟨v,o,ho,hd⟩:=I.cell x c e;obtain⟨m,⟨o',es,ep,ho',hd',_⟩,_⟩:=I.loc;rw[z,ho']at ho;cases ho;rw[hd']at hd;cases hd
def Inv.eX(I:Inv X pins U H s):s.heap.FunFrames X.base X.outer:=by
 have all:∀(l:List Env),(∀b∈frs l,b∈X.fs)->X.s₀.heap.FunFrames X.base l->s.heap.FunFrames X.base l:=by
  intro l
  induction l with
  |nil=>intro _ _;trivial
  |cons env r ih =>
   intro hs hl;obtain⟨hk,⟨L,o,hf,hn,ho,hd⟩,hr⟩:=hl;have hL:L∈X.fs:=hs L (by unfold frs;rw[M7,hf];exact LL);obtain⟨sl,e⟩:=I.base.slot L o ho (I.ok.mR L hL) hL λz=>I.ok.kr L z hL;exact⟨hk,⟨L,_,hf,hn,e,hd⟩,ih (λb hb=>hs b (by unfold frs;rw[M7,hf];exact LQ _ hb)) hr⟩
 exact all X.outer (λ_ hb=>hb) I.ok.eX
def Inv.stack(I:Inv X pins U H s):s.heap.FunFrames X.base X.stack:=by
 rcases I.ok.stk with e|⟨e,hf⟩
 rw[e];exact I.eX;rw[e];obtain⟨m,hn,_⟩:=I.loc;refine .cons (by rw[I.ok.kind];decide) hf hn ?_ I.eX;exact M1 (L5 I.ok.je I.ok.above)
def Inv.cj(I:Inv X pins U H s):∀b∈frs X.stack,b∈X.env.locals :: X.fs:=λb hb=>by
 rcases I.ok.stk with e|⟨e,hf⟩
 rw[e]at hb;exact LQ _ hb;rw[e]at hb;unfold frs at hb;rw[M7,hf]at hb;exact hb
def Inv.dn(I:Inv X pins U H s):∀b∈frs X.stack,H b=none:=λb hb=>by
 rcases LO.mp (I.cj b hb)with e|hb
 rw[e];exact I.free;obtain⟨_,o,ho,_⟩:=I.ok.eX.mem hb;exact I.base.free b o ho (I.ok.mR b hb) λz=>I.ok.kr b z hb
def Inv.step{g':Array GenState}{t':Nat}{d':Drawn}{ch:List Addr}(I:Inv X pins U H s)
  (hch:∀b∈ch,(b∈X.ex\/X.s₀.heap.objs.size<=b)/\b≠X.env.locals/\(∀x c,X.env.cells.lookup x=some c->c≠b)/\∀p∈X.pn ++ pins,p.1≠b)
  (keep:∀b o,b≠X.env.locals->b ∉ X.fs->b ∉ ch->s.heap.get? b=some o->H b=none->h'.get? b=some o)
  (slot:∀b o,b≠X.env.locals->b∈X.fs->b ∉ ch->s.heap.get? b=some o->H b=none->∃sl,h'.get? b=some { o with slots:=sl }) (free:∀b o,b ∉ ch->s.heap.get? b=some o->H b=none->H' b=none)
  (there:∀b o,b ∉ ch->s.heap.get? b=some o->∃o',h'.get? b=some o')
  (tups:∀b xs,H b=some (.tup xs)->H' b=some (.tup xs)) (iN:∀b o u,H b=some (.gR o u)->H' b=some (.gR o u)) (jc:∀b ps,H b=some (.pB ps)->∃more,H' b=some (.pB (ps ++ more)))
  (ns:∀m,s.heap.Ns X.env.locals m->h'.Ns X.env.locals m) (hok:ey X.prog X.w H' h') (hg:AllBare g') :
  Inv X pins U H' { s with heap:=h',gens:=g',drawn:=d',toks:=t' }:=by
 have ku:∀b o,X.s₀.heap.get? b=some o->b≠X.env.locals:=λb o e=>L7 (LR (LD e) I.ok.above);have yu:∀b o,X.s₀.heap.get? b=some o->b ∉ X.ex->b ∉ ch:=λb o e hx hb=>by
  rcases(hch b hb).1 with z|z
  exact hx z;exact absurd (LR (LD e) z) (MK _)
 have cellK:∀x c,X.env.cells.lookup x=some c->∀v,s.heap.IsCell c v->h'.IsCell c v:=λx c e v ⟨o,ho,hd⟩=>by
  have uX:c ∉ ch:=λz=>(hch c z).2.2.1 x c e rfl;by_cases hc:c∈X.fs;obtain⟨sl,q⟩:=slot c o (I.mS x c e) hc uX ho (I.b6 x c e);exact⟨_,q,hd⟩;exact⟨o,keep c o (I.mS x c e) hc uX ho (I.b6 x c e),hd⟩
 refine⟨I.ok,I.os,hg,⟨λb o e n hb hx=>?_,λb o e n hb hx=>?_,λb o e n hx=>?_,λb o e hx=>?_,λb xs e=>tups b xs (I.base.tups b xs e),λb o xs e=>iN b o xs (I.base.iN b o xs e),λb ps e=>?_⟩,?_,λx c e=>?_,?_,λx c e=>?_,λp hp=>?_,hok,I.len⟩;exact keep b o (ku b o e) hb (yu b o e hx) (I.base.keep b o e n hb hx) (I.base.free b o e n hx);obtain⟨sl,e1⟩:=I.base.slot b o e n hb hx;obtain⟨Aa,e2⟩:=slot b _ (ku b o e) hb (yu b o e hx) e1 (I.base.free b o e n hx);exact⟨Aa,e2⟩;obtain⟨o',e1⟩:=I.base.there b o e hx;exact free b o' (yu b o e hx) e1 (I.base.free b o e n hx);obtain⟨o',e1⟩:=I.base.there b o e hx;exact there b o' (yu b o e hx) e1;obtain⟨m1,e1⟩:=I.base.jc b ps e;obtain⟨m2,e2⟩:=jc b _ e1;exact⟨m1 ++ m2,by rw[e2,Array.append_assoc]⟩;obtain⟨m,hn,hl⟩:=I.loc;refine⟨m,ns m hn,λi x v e1 e2 e3=>?_⟩;obtain⟨u,r,l⟩:=hl i x v e1 e2 e3;refine⟨u,r,?_⟩;rcases l with l|⟨k,c,e,z⟩
 exact .inl l;exact .inr ⟨k,c,e,cellK x c e _ z⟩;obtain⟨v,z⟩:=I.cell x c e;exact⟨v,cellK x c e v z⟩;obtain⟨m,⟨o,_,_,ho,_⟩,_⟩:=I.loc;exact free _ o (λz=>(hch _ z).2.1 rfl) ho I.free;obtain⟨v,o,ho,hd⟩:=I.cell x c e;exact free c o (λz=>(hch c z).2.2.1 x c e rfl) ho (I.b6 x c e);obtain⟨e,n,ne,nf,d⟩:=I.pin p hp;have uX:p.1 ∉ ch:=λz=>(hch p.1 z).2.2.2 p hp rfl;exact⟨keep p.1 p.2 ne nf uX e n,free p.1 p.2 uX e n,ne,nf,d⟩
def Inv.un{t':Nat}(I:Inv X pins U H s)(u:Un X.fs [] H H' s.heap h')(hok:ey X.prog X.w H' h'):Inv X pins U H' { s with heap:=h',toks:=t' }:=by
 obtain⟨m,⟨o,es,ep,ho,r⟩,_⟩:=id I.loc;obtain⟨sl,hL⟩:=u.any ho I.free (by simp)
 exact I.step (g':=s.gens) (d':=s.drawn) (ch:=[]) (λ_ z=>nomatch z) (λb o _ hb _ e n=>u.keep b o e n hb (by simp)) (λb o _ hb _ e n=>u.slot b o e n hb (by simp)) (λb o _ e n=>u.free b o e n (by simp)) (λb o _ e=>u.there b o e (by simp)) u.tups u.iN u.jc (λm' hm=>by
  obtain⟨o',es',Ab,ho',r'⟩:=hm;rw[ho]at ho';cases ho'
  exact⟨_,es',Ab,hL,r'⟩) hok I.bare
def Inv.call{g':Array GenState}{t':Nat}{d':Drawn}{ch:List Addr}(I:Inv X pins U H s)(u:Un (frs X.stack) ch H H' s.heap h')(hok:ey X.prog X.w H' h')(hg:AllBare g')
  (hch:∀b∈ch,(b∈X.ex\/X.s₀.heap.objs.size<=b)/\b≠X.env.locals/\(∀x c,X.env.cells.lookup x=some c->c≠b)/\∀p∈X.pn ++ pins,p.1≠b) :
  Inv X pins U H' { s with heap:=h',gens:=g',drawn:=d',toks:=t' }:=by
 obtain⟨m,⟨o,es,ep,ho,r⟩,_⟩:=id I.loc;obtain⟨sl,hL⟩:=u.any ho I.free λz=>(hch _ z).2.1 rfl
 exact I.step (ch:=ch) hch (λb o hL hb hc e n=>u.keep b o e n (λz=>(LO.mp (I.cj b z)).elim hL hb) hc) (λb o _ _ hc e n=>u.any e n hc) (λb o hc e n=>u.free b o e n hc) (λb o hc e=>u.there b o e hc) u.tups u.iN u.jc (λm' hm=>by
  obtain⟨o',es',Ab,ho',r'⟩:=hm;rw[ho]at ho';cases ho'
  exact⟨_,es',Ab,hL,r'⟩) hok hg
def Inv.turned{t':Nat}{it:Addr}(I:Inv X pins U H s)(k:∀b o,b≠it->s.heap.get? b=some o->h'.get? b=some o)(hn:H it=none)(hL:it≠X.env.locals)
  (h1:it∈X.ex\/X.s₀.heap.objs.size<=it) (h2:∀x c,X.env.cells.lookup x=some c->c≠it) (h3:∀p∈X.pn ++ pins,p.1≠it):Inv X pins U H { s with heap:=h',toks:=t' }:=by
 have uY:∀b u,H b=some u->b≠it:=λb u e z=>by rw[z,hn]at e;cases e
 refine I.step (g':=s.gens) (d':=s.drawn) (ch:=[it]) (λb hb=>?_) (λb o _ _ hc e _=>k b o (λz=>hc (by simp[z])) e) (λb o _ _ hc e _=>⟨o.slots,k b o (λz=>hc (by simp[z])) e⟩) (λ_ _ _ _ n=>n)
  (λb o hc e=>⟨o,k b o (λz=>hc (by simp[z])) e⟩) (λ_ _ e=>e) (λ_ _ _ e=>e) (λb ps e=>⟨#[],by rw[e];simp⟩) (λm hm=>?_) (λb u e=>?_) I.bare
 have e:b=it:=by simpa using hb
 subst e;exact⟨h1,hL,h2,h3⟩;obtain⟨o,es,ep,ho,r⟩:=hm;exact⟨o,es,ep,k _ o (Ne.symm hL) ho,r⟩;refine(I.hok b u e).stay (λc v hc q=>k c v ?_ q) (λ_ q=>q) λ_ _ q=>q;rcases hc with z|z
 rw[z];exact uY b u e;exact uY c _ z
def Inv.tok(I:Inv X pins U H s)(t:Nat):Inv X pins U H { s with toks:=t }:=I.un (h':=s.heap) (t':=t) Un.refl I.hok
def Inv.kept{t':Nat}(I:Inv X pins U H s)(k:∀b u,s.heap.get? b=some u->h'.get? b=some u):Inv X pins U H { s with heap:=h',toks:=t' }:=I.un (Un.kept k) (I.hok.kept k)
def Inv.laid{a:Addr}{o:HO}{t':Nat}(I:Inv X pins U H s)(k:∀b u,s.heap.get? b=some u->h'.get? b=some u)(hp:s.heap.objs.size<=a)(new:aT X.prog X.w (upd H a o) h' a o):
  Inv X pins U (upd H a o) { s with heap:=h',toks:=t' }:=I.un (Un.laid k hp (I.hok.fresh hp)) (I.hok.laid k hp new)
def Inv.write{x e:Addr}{o:HO}{t':Nat}(I:Inv X pins U H s)(mu:yr (H x))(he:e=x\/H e=some (.own x))(k:∀b u,b≠e->s.heap.get? b=some u->h'.get? b=some u)(t9:∃u,h'.get? e=some u)
  (new:aT X.prog X.w (upd H x o) h' x o):Inv X pins U (upd H x o) { s with heap:=h',toks:=t' }:=I.un (Un.write mu he k t9) (I.hok.write mu he k t9 new)
def Inv.cL{gy:List (Addr×Obj)}(I:Inv X pins U H s)(h:∀p∈gy,s.heap.get? p.1=some p.2/\H p.1=none/\p.1≠X.env.locals/\p.1 ∉ X.fs/\∀v,p.2.data≠.cell v):Inv X gy U H s :=
 ⟨I.ok,I.os,I.bare,I.base,I.loc,I.cell,I.free,I.b6,λp hp=>(Mi.mp hp).elim (λz=>I.pin p (Mm _ z)) (h p),I.hok,I.len⟩
def Ac{N:List Str}(hN:N.Nodup){i j:Nat}{x:Str}(a:N[i]?=some x)(b:N[j]?=some x):i=j:=by obtain⟨h1,e1⟩:=LN.mp a;obtain⟨h2,e2⟩:=LN.mp b;exact(List.getElem_inj hN).mp (e1.trans e2.symm)
def CG{M:Model}{A:Around}{E:Value->Shared->Prop}{i:Nat}{x:Str}{v:V}{u:Value}{Q:Unit->Shared->Prop}(I:Inv X pins U H s)(hN:X.N.Nodup)(hi:X.N[i]?=some x)(hx:Loc X.env.scope x)(r:RelV v u)
  (h:∀s',Inv X pins (U.set i (some v)) H s'->(∃a,Heap.SameBut a s.heap s'.heap/\(a=X.env.locals\/X.env.cells.lookup x=some a))->Q () s') (hf:X.fn x=true\/X.env.scope.names.lookup x=some .local:=by first|exact .inl rfl|exact .inr rfl|assumption):wpAny M A (storeName X.env x u) Q E s:=by
 obtain⟨m,hn,hl⟩:=id I.loc;have hcls:(X.env.scope.kind == .class || (X.env.scope.kind == .module && X.env.locals != X.env.globals))=false:=by rw[I.ok.kind];rfl
 have hiσ:i<U.length:=by rw[I.len];exact(LN.mp hi).1
 have mS:=I.mS;have tracked:∀{a:Addr} {h':Heap},(∃o,s.heap.get? a=some o/\H a=none)->Heap.SameBut a s.heap h'->ey X.prog X.w H h':=λ{a h'} ha hs b ob e=>by
  obtain⟨_,_,hfree⟩:=ha;refine(I.hok b ob e).stay (λc w' hc q=>(hs.2 c ?_).trans q) (λ_ q=>q) λ_ _ q=>q;rintro rfl;rcases hc with rfl|hc
  rw[hfree]at e;cases e;rw[hfree]at hc;cases hc
 rcases hx with hk|hk
 refine wpAny_storeName_local hk hn (λh' hn' hs=>?_) hcls;obtain⟨oL,_,_,FW,_⟩:=id hn;refine h _ ⟨I.ok,I.os,I.bare,⟨λb o e n hb hx=>?_,λb o e n hb hx=>?_,I.base.free,λb o e hx=>?_,I.base.tups,I.base.iN,I.base.jc⟩,⟨_,hn',λj y v' e1 e2 e3=>?_⟩,λy c e=>?_,I.free,I.b6,λp hp=>?_,tracked ⟨oL,FW,I.free⟩ hs,by simpa using I.len⟩ ⟨_,hs,.inl rfl⟩;exact(hs.2 b (L7 (LR (LD e) I.ok.above))).trans (I.base.keep b o e n hb hx);obtain⟨sl,e1⟩:=I.base.slot b o e n hb hx;exact⟨sl,(hs.2 b (L7 (LR (LD e) I.ok.above))).trans e1⟩;obtain⟨o',e1⟩:=I.base.there b o e hx;exact⟨o',(hs.2 b (L7 (LR (LD e) I.ok.above))).trans e1⟩;by_cases hj:j=i;subst hj;rw[hi]at e1;cases e1;rw[L8 hiσ]at e2;cases e2;exact⟨u,r,.inl ⟨hk,by simp⟩⟩;rw[Mg (Ne.symm hj)]at e2;obtain⟨u',r',q⟩:=hl j y v' e1 e2 e3;refine⟨u',r',?_⟩;rcases q with⟨k,e⟩|⟨k,c,e,z⟩
 refine .inl ⟨k,?_⟩
 have:y≠x:=λe=>hj (Ac hN e1 (e ▸ hi));simp[this,e]
 exact .inr ⟨k,c,e,z.sameBut hs (mS y c e)⟩;obtain⟨w',z⟩:=I.cell y c e;exact⟨w',z.sameBut hs (mS y c e)⟩;obtain⟨e,n,ne,nf,d⟩:=I.pin p hp;exact⟨(hs.2 p.1 ne).trans e,n,ne,nf,d⟩;have hfn:X.fn x=true:=by
  rcases hf with z|z
  exact z;rw[z]at hk;cases hk
 obtain⟨c,hc⟩:=I.ok.has x (.inl hk);obtain⟨w',z⟩:=I.cell x c hc;refine wpAny_storeName_cell I.ok.kind hk hc z (λh' hc' hs=>?_);obtain⟨oc,hoc,Ad⟩:=id z;refine h { s with heap:=h' } ⟨I.ok,I.os,I.bare,⟨λb o e n hb hx=>?_,λb o e n hb hx=>?_,I.base.free,λb o e hx=>?_,I.base.tups,I.base.iN,I.base.jc⟩,⟨m,hn.sameBut hs (Ne.symm (mS x c hc)),λj y v' e1 e2 e3=>?_⟩,λy c' e=>?_,I.free,I.b6,λp hp=>?_,tracked ⟨oc,hoc,I.b6 x c hc⟩ hs,by simpa using I.len⟩ ⟨c,hs,.inr hc⟩;exact(hs.2 b (L7 (LR (LD e) (I.ok.pD x c hfn hc)))).trans (I.base.keep b o e n hb hx);obtain⟨sl,e1⟩:=I.base.slot b o e n hb hx;exact⟨sl,(hs.2 b (L7 (LR (LD e) (I.ok.pD x c hfn hc)))).trans e1⟩;obtain⟨o',e1⟩:=I.base.there b o e hx;exact⟨o',(hs.2 b (L7 (LR (LD e) (I.ok.pD x c hfn hc)))).trans e1⟩;by_cases hj:j=i;subst hj;rw[hi]at e1;cases e1;rw[L8 hiσ]at e2;cases e2;exact⟨u,r,.inr ⟨.inl hk,c,hc,hc'⟩⟩;rw[Mg (Ne.symm hj)]at e2;obtain⟨u',r',q⟩:=hl j y v' e1 e2 e3;refine⟨u',r',?_⟩;rcases q with q|⟨k,c',e,z'⟩
 exact .inl q;refine .inr ⟨k,c',e,z'.sameBut hs ?_⟩;rintro rfl;exact hj (Ac hN e1 (I.ok.inj _ _ _ e hc ▸ hi));by_cases hcc:c'=c;subst hcc;exact⟨_,hc'⟩;obtain⟨w2,z2⟩:=I.cell y c' e;exact⟨w2,z2.sameBut hs hcc⟩;obtain⟨e,n,ne,nf,d⟩:=I.pin p hp;refine⟨(hs.2 p.1 ?_).trans e,n,ne,nf,d⟩;intro q;rw[q,hoc]at e;have q':oc=p.2:=LH e;exact d w' (by rw[<- q'];exact Ad)
def uZ{M:Model}{A:Around}{E:Value->Shared->Prop}{i:Nat}{x:Str}{v:V}{u:Value}{Q:Unit->Shared->Prop}(I:Inv X pins U H s)(hN:X.N.Nodup)(hi:X.N[i]?=some x)(hx:Loc X.env.scope x)(r:RelV v u)
  (h:∀s',Inv X pins (U.set i (some v)) H s'->Q () s') (hf:X.fn x=true\/X.env.scope.names.lookup x=some .local:=by first|exact .inl rfl|exact .inr rfl|assumption):wpAny M A (storeName X.env x u) Q E s :=
 CG I hN hi hx r (λs' I' _=>h s' I') hf
def Inv.iS{s':Shared}{ch:List Addr}(I:Inv X pins U H s)(ho:s'.os=s.os)(u:Un (frs X.stack) ch H H' s.heap s'.heap)(hok:ey X.prog X.w H' s'.heap)(hg:AllBare s'.gens)
  (hch:∀b∈ch,(b∈X.ex\/X.s₀.heap.objs.size<=b)/\b≠X.env.locals/\(∀x c,X.env.cells.lookup x=some c->c≠b)/\∀p∈X.pn ++ pins,p.1≠b):Inv X pins U H' s':=by
 obtain⟨h',g',d',t',o'⟩:=s';have e:o'=s.os:=ho;subst e;exact I.call (g':=g') (t':=t') (d':=d') u hok hg hch
end
@[reducible]def XK:=Value->Option Addr->Hp->Prop
@[reducible]def St:=List (Option V)
@[reducible]def VK:=V->Hp->Prop
@[reducible]def TE:=St->Hp->VK->Prop
@[reducible]def TT:=St->Hp->(Bool->Hp->Prop)->Prop
@[reducible]def TA:=St->Hp->(List V->Hp->Prop)->Prop
set_option genInjectivity false in
structure Ends where
 nx:St->Hp->Prop
 rt:VK
 bk:St->Hp->Prop:=λ_ _=>False
 ct:St->Hp->Prop:=λ_ _=>False
@[reducible]def TS:=Ends->St->Hp->Prop
abbrev EP(X:Cx)(pins:List (Addr×Obj))(U:St)(Q:VK)(u:Value)(s':Shared):Prop:=∃v H',Inv X pins U H' s'/\RelV v u/\Q v H'
abbrev TP(X:Cx)(pins:List (Addr×Obj))(U:St)(Q:Bool->Hp->Prop)(b:Bool)(s':Shared):Prop:=∃H',Inv X pins U H' s'/\Q b H'
abbrev AP(X:Cx)(pins:List (Addr×Obj))(U:St)(Q:List V->Hp->Prop)(us:List Value)(s':Shared):Prop:=∃vs H',Inv X pins U H' s'/\Vals vs us/\Q vs H'
abbrev SP(X:Cx)(pins:List (Addr×Obj))(D:Ends)(f:Flow)(s':Shared):Prop :=
 match f with
 |.next=>∃U' H',Inv X pins U' H' s'/\D.nx U' H'
 |.brk=>∃U' H',Inv X pins U' H' s'/\D.bk U' H'
 |.cont=>∃U' H',Inv X pins U' H' s'/\D.ct U' H'
 |.ret u=>∃v U' H',Inv X pins U' H' s'/\RelV v u/\D.rt v H'
abbrev PE(X:Cx)(e:Expr)(t:TE):Prop :=
 ∀(pins:List (Addr×Obj)) (s:Shared) (U:St) (H:Hp) (Q:VK),Inv X pins U H s->t U H Q->wpAny (model X.prog X.w) X.A (eval e X.env) (EP X pins U Q) X.xe s
abbrev PT(X:Cx)(e:Expr)(t:TT):Prop :=
 ∀(pins:List (Addr×Obj)) (s:Shared) (U:St) (H:Hp) (Q:Bool->Hp->Prop),Inv X pins U H s->t U H Q->wpAny (model X.prog X.w) X.A (isTrue e X.env (eval e X.env)) (TP X pins U Q) X.xe s
abbrev PW(X:Cx)(e:Expr)(t:TT):Prop :=
 ∀(whole:Sem Value) (pins:List (Addr×Obj)) (s:Shared) (U:St) (H:Hp) (Q:Bool->Hp->Prop),Inv X pins U H s->t U H Q->wpAny (model X.prog X.w) X.A (isTrue e X.env whole) (TP X pins U Q) X.xe s
def PW.pt{X:Cx}{e:Expr}{t:TT}(h:PW X e t):PT X e t:=h _
abbrev PA(X:Cx)(es:List Expr)(t:TA):Prop :=
 ∀(pos:Pos) (pins:List (Addr×Obj)) (s:Shared) (U:St) (H:Hp) (Q:List V->Hp->Prop),Inv X pins U H s->t U H Q->wpAny (model X.prog X.w) X.A (spliced (backTo pos (starEach es X.env))) (AP X pins U Q) X.xe s
abbrev PS(X:Cx)(st:Stmt)(t:TS):Prop :=
 ∀(pins:List (Addr×Obj)) (s:Shared) (U:St) (H:Hp) (D:Ends),Inv X pins U H s->t D U H->wpAny (model X.prog X.w) X.A (exec st X.env) (SP X pins D) X.xe s
abbrev iT(X:Cx)(st:List Stmt)(t:TS):Prop :=
 ∀(pins:List (Addr×Obj)) (s:Shared) (U:St) (H:Hp) (D:Ends),Inv X pins U H s->t D U H->wpAny (model X.prog X.w) X.A (execs st X.env) (SP X pins D) X.xe s
def aP{J:Type}{t:Sem J}{Q Q':J->Shared->Prop}{M:Model}{A:Around}{E:Value->Shared->Prop}{s:Shared}(h:wpAny M A t Q E s)(hQ:∀a s,Q a s->Q' a s):wpAny M A t Q' E s:=wpAny_mono h hQ λ_ _ x=>x
section
variable {X:Cx}
abbrev mT(i:Nat):TE:=λU H Q=>∃v,U[i]?=some (some v)/\Q v H
abbrev tC(v:V):TE:=λ_ H Q=>Q v H
def qI{i:Nat}{x:Str}{pos:Pos}(hN:X.N[i]?=some x)(hv:zY X.env.scope x)(hd:(x == ("__debug__" : Str))=false:=by decide)(hcd:(x == ("__classdict__" : Str))=false:=by decide):PE X (.Name x pos) (mT i):=by
 intro pins s U H Q I h;obtain⟨v,e,h⟩:=h;obtain⟨m,hn,hl⟩:=I.loc;obtain⟨u,r,l⟩:=hl i x v hN e hv;have fin:EP X pins U Q u s:=⟨v,H,I,r,h⟩;rcases l with⟨hk,hm⟩|⟨hk,c,hc,hcell⟩
 exact wpAny_Name (wpAny_loadName_local I.ok.kind hk hn hm fin) hd;rcases hk with hk|hk
 exact wpAny_Name (wpAny_loadName_cell I.ok.kind hk hc hcell fin) hd;exact wpAny_Name (wpAny_loadName_free I.ok.kind hk hc hcell fin hcd) hd
def aY{i j pos}:PE X (.Constant (.int i) j pos) (tC (.int i)):=λ_ _ _ H _ I h=>wpAny_Constant_int ⟨.int i,H,I.tok _,⟨_,rfl⟩,h⟩
def yw{b j pos}:PE X (.Constant (.bool b) j pos) (tC (.bl b)):=λ_ _ _ H _ I h=>Constant_bool ⟨.bl b,H,I,rfl,h⟩
def qJ{j pos}:PE X (.Constant .none j pos) (tC .non):=λ_ _ _ H _ I h=>Constant_none ⟨.non,H,I,rfl,h⟩
def cx{x j pos}:PE X (.Constant (.str x) j pos) (tC (.str x)):=λ_ _ _ H _ I h=>Calls.Constant_str ⟨.str x,H,I.tok _,⟨_,rfl⟩,h⟩
abbrev Gl(X:Cx)(x:Str):Prop:=X.env.kindOf x=some .globalImplicit
def qK{E:Value->Shared->Prop}{pins:List (Addr×Obj)}{s:Shared}{U:St}{H:Hp}{x:Str}{u:Value}{pos:Pos}{Q:Value->Shared->Prop}(I:Inv X pins U H s)(hg:Gl X x)(hm:X.mg x=some u)(h:Q u s)
  (hd:(x == ("__debug__" : Str))=false:=by decide):wpAny (model X.prog X.w) X.A (eval (.Name x pos) X.env) Q E s :=
 Calls.Name_function_global I.ok.kind hg (Calls.loadGlobal_global (by rw[I.ok.glob];exact I.mod.glob.keeps I.bk) hm h) hd
def ua{E:Value->Shared->Prop}{pins:List (Addr×Obj)}{s:Shared}{U:St}{H:Hp}{x:Str}{u:Value}{pos:Pos}{Q:Value->Shared->Prop}(I:Inv X pins U H s)(hg:Gl X x)(hm:X.mg x=none)(hv:bootBuiltins x=some u)(h:Q u s)
  (hn:x≠"__name__" := by decide) (hd:(x == ("__debug__" : Str))=false:=by decide):wpAny (model X.prog X.w) X.A (eval (.Name x pos) X.env) Q E s:=by
 obtain⟨mb,h1,h2⟩:=I.mod.blt;exact Calls.Name_function_global I.ok.kind hg (Calls.loadGlobal_builtin (by rw[I.ok.glob];exact I.mod.glob.keeps I.bk) hm (by rw[I.ok.blt];exact h1.keeps I.bk) ((h2 x hn).trans hv) h) hd
def CH{x:Str}{v:V}{u:Value}{pos:Pos}(hg:Gl X x)(hm:X.mg x=some u)(r:RelV v u)(hd:(x == ("__debug__" : Str))=false:=by decide):PE X (.Name x pos) (tC v) :=
 λ_ _ _ H _ I h=>qK I hg hm ⟨v,H,I,r,h⟩ hd
def jK{x:Str}{v:V}{u:Value}{pos:Pos}(hg:Gl X x)(hm:X.mg x=none)(hv:bootBuiltins x=some u)(r:RelV v u)(hn:x≠"__name__" := by decide)(hd:(x == ("__debug__" : Str))=false:=by decide):PE X (.Name x pos) (tC v) :=
 λ_ _ _ H _ I h=>ua I hg hm hv ⟨v,H,I,r,h⟩ hn hd
variable {a b:Expr}{ta tb:TE}{pos:Pos}
abbrev tB(t:TE):TT:=λU H Q=>t U H λx H1=>∃c,x=.bl c/\Q c H1
def yx{e:Expr}{t:TE}(h:PE X e t)(he:∀whole,isTrue e X.env whole=(do let v <- whole;standAt e.pos;holding [v] (truthy v)):=by intro _;rfl):PT X e (tB t):=by intro pins s U H Q I hw;refine isTrue_plain (aP (h pins s U H _ I hw) λv s1 ⟨x,H1,I1,r1,q1⟩=>?_) (he _);obtain⟨d,rfl,q⟩:=q1;cases r1;exact wpAny_truthy_bool ⟨H1,I1,q⟩
variable {tA yy:TT}{rest:List Expr}
abbrev u0(t u:TT):TT:=λU H Q=>t U H λc H1=>if c=true then u U H1 Q else Q false H1
abbrev CI(t u:TT):TT:=λU H Q=>t U H λc H1=>if c=true then Q true H1 else u U H1 Q
abbrev u3(t:TT):TT:=λU H Q=>t U H λc H1=>Q (!c) H1
def CJ(ha:PT X a tA):PW X (.BoolOp .And [a] pos) tA:=by
 intro wh pins s U H Q I h;refine isTrue_and (aP (ha pins s U H Q I h) λc s1 e=>?_);cases c with
 |true=>exact isTrue_and_nil e
 |false=>exact e
def u5(ha:PT X a tA):PW X (.BoolOp .Or [a] pos) tA:=by
 intro wh pins s U H Q I h;refine isTrue_or (aP (ha pins s U H Q I h) λc s1 e=>?_);cases c with
 |false=>exact isTrue_or_nil e
 |true=>exact e
def CK(ha:PT X a tA)(hb:PW X (.BoolOp .And (b :: rest) pos) yy):PW X (.BoolOp .And (a :: b :: rest) pos) (u0 tA yy):=by
 intro wh pins s U H Q I h;refine isTrue_and (aP (ha pins s U H _ I h) λc s1 ⟨H1,I1,q1⟩=>?_);cases c with
 |true=>exact hb wh pins s1 U H1 Q I1 q1
 |false=>exact⟨H1,I1,q1⟩
def qL(ha:PT X a tA)(hb:PW X (.BoolOp .Or (b :: rest) pos) yy):PW X (.BoolOp .Or (a :: b :: rest) pos) (CI tA yy):=by
 intro wh pins s U H Q I h;refine isTrue_or (aP (ha pins s U H _ I h) λc s1 ⟨H1,I1,q1⟩=>?_);cases c with
 |true=>exact⟨H1,I1,q1⟩
 |false=>exact hb wh pins s1 U H1 Q I1 q1
def qM(ha:PT X a tA):PT X (.UnaryOp .Not a pos) (u3 tA):=by intro pins s U H Q I h;exact isTrue_not (ha pins s U H (λc H1=>Q (!c) H1) I h)
abbrev mU(ta tb:TE):TE:=λU H Q=>ta U H λx H1=>∃c,x=.bl c/\if c=true then tb U H1 Q else Q (.bl false) H1
abbrev u6(ta tb:TE):TE:=λU H Q=>ta U H λx H1=>∃c,x=.bl c/\if c=true then Q (.bl true) H1 else tb U H1 Q
def ub{op}{t:TE}(h:PE X a t):PE X (.BoolOp op [a] pos) t:=λpins s U H Q I hw=>BoolOp_one (h pins s U H Q I hw)
def qN(ha:PE X a ta)(hb:PE X (.BoolOp .And (b :: rest) pos) tb):PE X (.BoolOp .And (a :: b :: rest) pos) (mU ta tb):=by
 intro pins s U H Q I h;refine BoolOp_and (aP (ha pins s U H _ I h) λv s1 ⟨x,H1,I1,r1,q1⟩=>?_);obtain⟨c,rfl,q1⟩:=q1;cases r1;refine wpAny_truthy_bool ?_;cases c with
 |true=>exact hb pins s1 U H1 Q I1 q1
 |false=>exact⟨.bl false,H1,I1,rfl,q1⟩
def u7(ha:PE X a ta)(hb:PE X (.BoolOp .Or (b :: rest) pos) tb):PE X (.BoolOp .Or (a :: b :: rest) pos) (u6 ta tb):=by
 intro pins s U H Q I h;refine BoolOp_or (aP (ha pins s U H _ I h) λv s1 ⟨x,H1,I1,r1,q1⟩=>?_);obtain⟨c,rfl,q1⟩:=q1;cases r1;refine wpAny_truthy_bool ?_;cases c with
 |false=>exact hb pins s1 U H1 Q I1 q1
 |true=>exact⟨.bl true,H1,I1,rfl,q1⟩
end
abbrev ez(K:Zfr)(H:Hp)(a:Addr)(xs:List V):Prop :=
 Rd H a (.lst xs) \/
  ∃(o:Obj) (its:Array Value) (n:Nat),K.lookup a=some o/\o.cls=.type "list" /\ o.dict=none/\o.data=.seq its n/\its.size<=sizeLine/\Vals xs its.toList
abbrev ej(K:Zfr)(H:Hp)(a:Addr)(xs:List V):Prop :=
 Rd H a (.tup xs) \/
  ∃(o:Obj) (its:Array Value) (n:Nat),K.lookup a=some o/\o.cls=.type "tuple" /\ o.dict=none/\o.data=.seq its n/\its.size<=sizeLine/\Vals xs its.toList
abbrev Ae:Value->Option V
 |.none=>some .non
 |.bool b=>some (.bl b)
 |.int i _=>some (.int i)
 |.str x _=>some (.str x)
 |.bytes b _=>some (.mB b)
 |.float b _=>some (.qF b)
 |.ref a=>some (.ref a)
 |.type n=>some (.ty n)
 |_=>none
def RelV.abs{x:V}{u:Value}(r:RelV x u):Ae u=some x:=by
 cases x with
 |non=>cases r;rfl
 |bl _=>cases r;rfl
 |int _=>obtain⟨t,rfl⟩:=r;rfl
 |str _=>obtain⟨t,rfl⟩:=r;rfl
 |mB _=>obtain⟨t,rfl⟩:=r;rfl
 |qF _=>obtain⟨t,rfl⟩:=r;rfl
 |ref _=>cases r;rfl
 |ty _=>cases r;rfl
def RelV.inj{x y:V}{u:Value}(r:RelV x u)(q:RelV y u):x=y:=LH (r.abs.symm.trans q.abs)
def Vals.inj:∀{xs ys:List V} {us:List Value},Vals xs us->Vals ys us->xs=ys
 |_,_,_,.nil,.nil=>rfl
 |_,_,_,.cons r t,.cons r' t'=>by rw[r.inj r',Vals.inj t t']
section
variable {X:Cx}{pins:List (Addr×Obj)}{U:St}{H:Hp}{s:Shared}{a:Addr}{xs ys:List V}
def ej.of{K:Zfr}(h:H a=some (.tup xs)):ej K H a xs:=.inl (.inl h)
def Inv.list(I:Inv X pins U H s)(h:ez X.K H a xs):∃its:List Value,Vals xs its/\PlainL s.heap a its.toArray/\xs.length<=sizeLine:=by
 rcases h with h|⟨o,its,n,hk,hc,hd,hs,hz,r⟩
 obtain⟨z,its,n,r,e⟩:=h.ok I.hok;exact⟨its,r,⟨_,n,e,rfl,rfl,rfl⟩,z⟩;refine⟨its.toList,r,⟨o,n,I.iG a o hk,hc,hd,by simpa using hs⟩,?_⟩;have e:=r.length;simp only[Array.length_toList]at e;lk
def Inv.ky(I:Inv X pins U H s)(h:ej X.K H a xs):∃its:List Value,Vals xs its/\kq s.heap a its.toArray/\xs.length<=sizeLine:=by
 rcases h with h|⟨o,its,n,hk,hc,hd0,hs,hz,r⟩
 obtain⟨z,its,r,p⟩:=h.ok I.hok;exact⟨its,r,p,z⟩;refine⟨its.toList,r,⟨o,I.iG a o hk,hc,hd0,n,by simpa using hs⟩,?_⟩;have e:=r.length;simp only[Array.length_toList]at e;lk
def Inv.tuple(I:Inv X pins U H s)(h:ej X.K H a xs):∃its:List Value,Vals xs its/\IsTup s.heap a its.toArray/\xs.length<=sizeLine :=
 let ⟨its,r,p,z⟩:=I.ky h
 ⟨its,r,p.tup,z⟩
def Inv.jL(I:Inv X pins U H s)(h:ez X.K H a xs)(h':ez X.K H a ys):xs=ys:=by
 obtain⟨its,r,⟨o,n,e,_,_,d⟩,_⟩:=I.list h;obtain⟨its',r',⟨o',n',e',_,_,d'⟩,_⟩:=I.list h';rw[e]at e';cases e';rw[d]at d';injection d' with d1 _;have:its=its':=by simpa using congrArg Array.toList d1
 subst this;exact r.inj r'
def Inv.iU(I:Inv X pins U H s)(h:ej X.K H a xs)(h':ej X.K H a ys):xs=ys:=by
 obtain⟨its,r,⟨o,e,_,n,d⟩,_⟩:=I.tuple h;obtain⟨its',r',⟨o',e',_,n',d'⟩,_⟩:=I.tuple h';rw[e]at e';cases e';rw[d]at d';injection d' with d1 _;have:its=its':=by simpa using congrArg Array.toList d1
 subst this;exact r.inj r'
end
@[reducible]def Cx.wish(X:Cx)(E:Value->Shared->Prop):Cx:={ X with xe:=E }
@[reducible]def Cx.lg(X:Cx):Cx:=X.wish λ_ _=>False
def Cx.Ok.wish{X:Cx}(ok:X.Ok)(E:Value->Shared->Prop):(X.wish E).Ok :=
 ⟨ok.mod,ok.kind,ok.glob,ok.blt,ok.above,ok.inj,ok.has,ok.pD,ok.hd,ok.frames,ok.stk,ok.uW,ok.bs,ok.je,ok.gI,ok.kr,ok.eX,ok.mR⟩
def Cx.Ok.dr{X:Cx}{E:Value->Shared->Prop}(ok:(X.wish E).Ok):X.Ok :=
 ⟨ok.mod,ok.kind,ok.glob,ok.blt,ok.above,ok.inj,ok.has,ok.pD,ok.hd,ok.frames,ok.stk,ok.uW,ok.bs,ok.je,ok.gI,ok.kr,ok.eX,ok.mR⟩
section
variable {X:Cx}{pins:List (Addr×Obj)}{U:St}{H:Hp}{s:Shared}{E:Value->Shared->Prop}
def Inv.wish(I:Inv X pins U H s)(E:Value->Shared->Prop):Inv (X.wish E) pins U H s:=⟨I.ok.wish E,I.os,I.bare,I.base,I.loc,I.cell,I.free,I.b6,I.pin,I.hok,I.len⟩
def Inv.dr(I:Inv (X.wish E) pins U H s):Inv X pins U H s:=⟨I.ok.dr,I.os,I.bare,I.base,I.loc,I.cell,I.free,I.b6,I.pin,I.hok,I.len⟩
def SP.dr{D:Ends}{f:Flow}{s':Shared}(h:SP (X.wish E) pins D f s'):SP X pins D f s':=by
 cases f with
 |next=>obtain⟨U',H',I,q⟩:=h;exact⟨U',H',I.dr,q⟩
 |brk=>obtain⟨U',H',I,q⟩:=h;exact⟨U',H',I.dr,q⟩
 |cont=>obtain⟨U',H',I,q⟩:=h;exact⟨U',H',I.dr,q⟩
 |ret u=>obtain⟨v,U',H',I,r,q⟩:=h;exact⟨v,U',H',I.dr,r,q⟩
def iT.lg{st:List Stmt}{t:TS}(h:iT X.lg st t):iT X st t:=λpins s U H D I hw =>
 wpAny_mono (h pins s U H D (I.wish _) hw) (λ_ _ q=>q.dr) λ_ _ z=>False.elim z
end
section
variable {X:Cx}{st:Stmt}{rest:List Stmt}{t u:TS}{e:Expr}{te:TE}{pos:Pos}
abbrev pE:TS:=λD U H=>D.nx U H
abbrev oH(t u:TS):TS:=λD U H=>t { D with nx:=u D } U H
def iW:iT X [] pE:=λ_ _ U H _ I h=>wpAny_execs_nil ⟨U,H,I,h⟩
def pF(h1:PS X st t)(h2:iT X rest u):iT X (st :: rest) (oH t u):=by
 intro pins s U H D I h;refine wpAny_execs_cons (aP (h1 pins s U H { D with nx:=u D } I h) λf s1 q=>?_);cases f with
 |next =>
  obtain⟨U',H',I',q⟩:=q;exact h2 pins s1 U' H' D I' q
 |ret v=>exact q
 |brk=>exact q
 |cont=>exact q
def oJ(h1:PS X st t):iT X [st] t:=by
 intro pins s U H D I h;refine wpAny_execs_cons (aP (h1 pins s U H D I h) λf s1 q=>?_);cases f with
 |next=>exact wpAny_execs_nil q
 |ret v=>exact q
 |brk=>exact q
 |cont=>exact q
def Inv.quiet{pins:List (Addr×Obj)}{U:St}{H:Hp}{s:Shared}(I:Inv X pins U H s):interactive X.env=false:=by simp[interactive,I.ok.kind]
abbrev pG(te:TE):TS:=λD U H=>te U H λ_ H1=>D.nx U H1
def Af(he:PE X e te)(hs:swapsWith e none pos.line X.env=pure false:=by rfl):PS X (.Expr e pos) (pG te):=by intro pins s U H D I h;exact wpAny_Expr_any (aP (he pins s U H _ I h) λv s1 ⟨x,H1,I1,r1,q1⟩=>⟨U,H1,I1,q1⟩) I.quiet hs
abbrev oK(te:TE):TS:=λD U H=>te U H D.rt
def fK(he:PE X e te):PS X (.Return (some e) pos) (oK te):=by intro pins s U H D I h;exact wpAny_Return_some (aP (he pins s U H _ I h) λv s1 ⟨x,H1,I1,r1,q1⟩=>⟨x,U,H1,I1,r1,q1⟩)
abbrev u9(c:TT)(t u:TS):TS:=λD U H=>c U H λb H1=>if b=true then t D U H1 else u D U H1
def ud{c:Expr}{a b:List Stmt}{tc:TT}(hc:PT X c tc)(ha:iT X a t)(hb:iT X b u):PS X (.If c a b pos) (u9 tc t u):=by
 intro pins s U H D I h;refine wpAny_If (aP (hc pins s U H _ I h) λd s1 ⟨H1,I1,q1⟩=>?_);cases d with
 |true=>exact ha pins s1 U H1 D I1 q1
 |false=>exact hb pins s1 U H1 D I1 q1
abbrev mV:TS:=λ_ _ _=>False
def FX{sts:List Stmt}:iT X sts mV:=λ_ _ _ _ _ _ h=>h.elim
end
@[reducible]def TG:=V->St->Hp->(St->Hp->Prop)->Prop
@[reducible]def mW:=List V->St->Hp->(St->Hp->Prop)->Prop
abbrev PG(X:Cx)(target:Expr)(t:TG):Prop :=
 ∀(pins:List (Addr×Obj)) (s:Shared) (U:St) (H:Hp) (v:V) (u:Value) (Q:St->Hp->Prop),Inv X pins U H s->RelV v u->t v U H Q ->
  wpAny (model X.prog X.w) X.A (assign target X.env u) (λ_ s'=>∃U' H',Inv X pins U' H' s'/\Q U' H') X.xe s
abbrev va(X:Cx)(ts:List Expr)(t:mW):Prop :=
 ∀(pins:List (Addr×Obj)) (s:Shared) (U:St) (H:Hp) (vs:List V) (us:List Value) (Q:St->Hp->Prop),Inv X pins U H s->Vals vs us->t vs U H Q ->
  wpAny (model X.prog X.w) X.A (assignInOrder ((assignEach ts X.env).map (·.2)) us) (λ_ s'=>∃U' H',Inv X pins U' H' s'/\Q U' H') X.xe s
@[reducible]def qO:=V->V->V->Hp->(Hp->Prop)->Prop
abbrev vb(X:Cx)(t:qO):Prop :=
 ∀(pins:List (Addr×Obj)) (s:Shared) (U:St) (H:Hp) (o i v:V) (ov iv u:Value) (Q:Hp->Prop),Inv X pins U H s->RelV o ov->RelV i iv->RelV v u->t o i v H Q ->
  wpAny (model X.prog X.w) X.A (setItem ov iv u) (λ_ s'=>∃H',Inv X pins U H' s'/\Q H') X.xe s
section
variable {X:Cx}{pos:Pos}
abbrev iX(i:Nat):TG:=λv U H Q=>Q (U.set i (some v)) H
def lV{i:Nat}{x:Str}(hN:X.N.Nodup)(hi:X.N[i]?=some x)(hx:Loc X.env.scope x)(hf:X.fn x=true\/X.env.scope.names.lookup x=some .local:=by first|exact .inl rfl|exact .inr rfl|assumption):PG X (.Name x pos) (iX i):=by intro pins s U H v u Q I r h;exact wpAny_assign_Name (uZ I hN hi hx r (λs' I'=>⟨_,H,I',h⟩) hf)
abbrev vd:mW:=λvs U H Q=>vs=[]/\Q U H
abbrev pH(t:TG)(u:mW):mW:=λvs U H Q=>∃v r,vs=v :: r/\t v U H λU' H'=>u r U' H' Q
def Ag:va X [] vd:=by intro pins s U H vs us Q I r h;obtain⟨e,h⟩:=h;subst e;cases r;exact assignInOrder_nil ⟨U,H,I,h⟩
def uf{e:Expr}{es:List Expr}{t:TG}{u:mW}(h1:PG X e t)(h2:va X es u)
  (hs:(assignEach (e :: es) X.env).map (·.2)=assign e X.env :: (assignEach es X.env).map (·.2):=by rfl):va X (e :: es) (pH t u):=by
 intro pins s U H vs us Q I r h;obtain⟨v,vr,e1,h⟩:=h;subst e1;cases r with
 |cons r rr =>
  rw[hs];refine assignInOrder_cons (aP (h1 pins s U H _ _ _ I r h) λ_ s1 ⟨U1,H1,I1,q1⟩=>?_);exact h2 pins s1 U1 H1 _ _ Q I1 rr q1
abbrev qP(K:Zfr)(n:Nat)(t:mW):TG:=λv U H Q=>∃a xs,v=.ref a/\ej K H a xs/\xs.length=n/\t xs U H Q
def CL{es:List Expr}{k:Nat}{t:mW}{n:Nat}(hc:X.calm=true)(h:va X es t)
  (hn:(assignEach es X.env).length=n:=by rfl) (hst:(assignEach es X.env).findIdx? (·.1)=none:=by rfl):PG X (.Tuple es k pos) (qP X.K n t):=by
 intro pins s U H v u Q I r hw;obtain⟨a,xs,e1,hq,hl,hw⟩:=hw;subst e1;cases r;obtain⟨its,rv,ht,hz⟩:=I.tuple hq;refine assign_Tuple_tuple (I.ok.hd hc) ht (by simp[hn,<- hl,rv.length]) hst λh' hx=>?_;have I1:Inv X pins U H { s with heap:=h' }:=I.kept (t':=s.toks) λb o e=>hx b o (L7 (LD e)) e;exact h pins _ U H xs _ Q I1 (by simpa using rv) hw
abbrev lW(to ti:TE)(t:qO):TG:=λv U H Q=>to U H λo H1=>ti U H1 λi H2=>t o i v H2 λH3=>Q U H3
def yz{o i:Expr}{to ti:TE}{t:qO}(ho:PE X o to)(hi:PE X i ti)(hs:vb X t)
  (ha:∀v,assign (.Subscript o i pos) X.env v=(do
   let ov <- holding [v] (eval o X.env)
   let iv <- holding [v,ov] (eval i X.env)
   standAt pos
   holding [v,ov,iv] (setItem ov iv v)
   release [v,ov,iv] []):=by intro _;rfl):PG X (.Subscript o i pos) (lW to ti t):=by
 intro pins s U H v u Q I r h;rw[ha];refine wpAny_bind (wpAny_holding (aP (ho pins s U H _ I h) λov s1 ⟨x,H1,I1,r1,q1⟩=>?_));refine wpAny_bind (wpAny_holding (aP (hi pins s1 U H1 _ I1 q1) λiv s2 ⟨y,H2,I2,r2,q2⟩=>?_));refine wpAny_bind (wpAny_standAt (wpAny_bind (wpAny_holding (aP (hs pins s2 U H2 x y v ov iv u _ I2 r1 r2 r q2) λ_ s3 ⟨H3,I3,q3⟩=>?_))));exact wpAny_release ⟨U,H3,I3,q3⟩
abbrev mX(te:TE)(g:TG):TS:=λD U H=>te U H λx H1=>g x U H1 D.nx
def Ah{tg e:Expr}{te:TE}{g:TG}(he:PE X e te)(hg:PG X tg g)(hs:swapsWithSole [tg] e pos.line X.env=pure false:=by rfl)(hw:swappedStores [tg] e X.env=pure none:=by rfl)
  (h1:(assignEach [tg] X.env).map (·.2)=[assign tg X.env]:=by rfl):PS X (.Assign [tg] e pos) (mX te g):=by
 intro pins s U H D I h;refine wpAny_Assign_stores (aP (he pins s U H _ I h) λv s1 ⟨x,H1,I1,r1,q1⟩=>?_) hs hw;rw[h1];exact aP (hg pins s1 U H1 x v _ I1 r1 q1) λ_ s2 q=>q
def Ai{i:Nat}{x:Str}{e:Expr}{te:TE}{pos':Pos}(hN:X.N.Nodup)(hi:X.N[i]?=some x)(hx:Loc X.env.scope x)(he:PE X e te)(hs:swapsWith e (some (.Name x pos')) pos.line X.env=pure false:=by rfl)(hf:X.fn x=true\/X.env.scope.names.lookup x=some .local:=by first | exact .inl rfl | exact .inr rfl | assumption):
  PS X (.Assign [.Name x pos'] e pos) (mX te (iX i)):=by
 intro pins s U H D I h;refine wpAny_Assign_Name (aP (he pins s U H _ I h) λv s1 ⟨y,H1,I1,r1,q1⟩=>?_) hs;exact uZ I1 hN hi hx r1 (λs2 I2=>⟨_,H1,I2,q1⟩) hf
abbrev ve(i j:Nat)(ta:TA):TS:=λD U H=>ta U H λvs H1=>∃v w,vs=[v,w]/\D.nx ((U.set i (some v)).set j (some w)) H1
def qQ{i j:Nat}{x y:Str}{a b:Expr}{ta:TA}{px py pt:Pos}{kt k2 Aj}(hc:X.calm=true)(hN:X.N.Nodup)(hi:X.N[i]?=some x)(hj:X.N[j]?=some y)(hij:i≠j)
  (hx:X.env.scope.names.lookup x=some .local) (hy:X.env.scope.names.lookup y=some .local) (ha:PA X [a,b] ta)
  (hw:swappedStores [.Tuple [.Name x px,.Name y py] kt pt] (.Tuple [a,b] k2 Aj) X.env=pure (some [x,y]))
  (hs:swapsWithSole [.Tuple [.Name x px,.Name y py] kt pt] (.Tuple [a,b] k2 Aj) pos.line X.env=pure false:=by rfl) :
  PS X (.Assign [.Tuple [.Name x px,.Name y py] kt pt] (.Tuple [a,b] k2 Aj) pos) (ve i j ta):=by
 intro pins s U H D I h;rw[exec_Assign_arm];refine wpAny_bind (wpAny_standAt ?_);rw[hs];refine wpAny_bind (wpAny_pure ?_);rw[if_neg ∅];refine wpAny_bind (Tuple_ (aP (ha _ pins s U H _ I h) λus s1 ⟨vs,H1,I1,r1,q1⟩=>?_));obtain⟨v,w,e1,q1⟩:=q1;subst e1;obtain⟨u1,u2,rfl,rv,rw'⟩:∃u1 u2,us=[u1,u2]/\RelV v u1/\RelV w u2:=by
  cases r1 with
  |cons p q =>
   cases q with
   |cons p' q' =>
    cases q';exact⟨_,_,rfl,p,p'⟩
 refine wpAny_newObj_type ?_ (by show 2<=sizeLine;decide);have I2:Inv X pins U H1 { s1 with heap:=s1.heap.push { cls:=.type "tuple",data:=.seq [u1,u2].toArray } }:=I1.kept (t':=s1.toks) λb o e=>LA _ e;rw[hw];refine wpAny_bind (wpAny_pure ?_);show wpAny (model X.prog X.w) X.A (do rule "assign.swapped-stores";let items <- unpackItems (.ref s1.heap.objs.size) 2 none;assignInOrder [λv=>bindName X.env y v,λv=>bindName X.env x v] items.reverse;pure Flow.next) _ _ _;refine wpAny_bind (wpAny_rule (wpAny_bind (unpackItems_tuple (items:=#[u1,u2]) (I.ok.hd hc) (IsTup.new s1.heap _) λh' hx'=>?_)));have I3:=I2.kept (h':=h') (t':=s1.toks) λb o e=>hx' b o (L7 (LD e)) e;show wpAny _ _ (assignInOrder [λv=>bindName X.env y v,λv=>bindName X.env x v] [u2,u1] >>= λ_=>pure Flow.next) _ _ _;refine wpAny_bind (assignInOrder_cons (wpAny_bindName (uZ I3 hN hj (.inl hy) rw' (λs2 I4=>?_) (.inr hy))));refine assignInOrder_cons (wpAny_bindName (uZ I4 hN hi (.inl hx) rv (λs3 I5=>assignInOrder_nil (wpAny_pure ?_)) (.inr hx)));rw[List.set_comm _ _ (Ne.symm hij)]at I5;exact⟨_,H1,I5,q1⟩
end
set_option genInjectivity false in
structure It where
 go:Nat->Hp->Prop
 kz:Nat->Hp->V->Hp->Prop
 stop:Nat->Hp->Prop
abbrev bp(X:Cx)(pins:List (Addr×Obj))(H:Hp)(b:Addr):Prop :=
 H b=none/\b≠X.env.locals/\b ∉ X.fs/\(b∈X.ex\/X.s₀.heap.objs.size<=b)/\(∀x c,X.env.cells.lookup x=some c->c≠b)/\∀p∈X.pn ++ pins,p.1≠b
def Inv.fM{X:Cx}{pins:List (Addr×Obj)}{U:St}{H H':Hp}{s:Shared}{b:Addr}(I:Inv X pins U H s)(hb:s.heap.objs.size<=b)(hn:H' b=none):bp X pins H' b:=by refine⟨hn,MH (LR I.lt hb),I.oG hb,.inr (L5 I.sz hb),λx c e z=>?_,λp hp z=>?_⟩;obtain⟨v,q⟩:=I.cell x c e;exact absurd (LR q.lt (by rw[z];exact hb)) (MK _);exact absurd (LR (LD (I.pin p hp).1) (by rw[z];exact hb)) (MK _)
structure Turn(P:Program)(w:World)(K:Zfr)(tg:Expr)(J:It)(fp:List Addr)(it:Addr)(tn:Nat->Heap->Prop):Prop where
 mem:it∈fp
 obj:∀i h,tn i h->∀b∈fp,∃o,h.get? b=some o/\∀v,o.data≠.cell v
 keep:∀i h h',tn i h->(∀b∈fp,∀o,h.get? b=some o->h'.get? b=some o)->tn i h'
 item:∀(X:Cx),X.prog=P->X.w=w->X.K=K->X.calm=true->∀(i:Nat) (pins:List (Addr×Obj)) (s:Shared) (U:St) (H:Hp) (E:Value->Shared->Prop),Inv X pins U H s->(∀b∈fp,bp X pins H b)->tn i s.heap->J.go i H ->
  wpAny (model P w) X.A (pyNext (.ref it)) (λr s1=>∃u,r=some u /\
   wpAny (model P w) X.A (letOwnedTupleGo tg (.ref it) u) (λ_ s2=>∃x H',Inv X pins U H' s2/\RelV x u/\J.kz i H x H'/\tn (i+1) s2.heap/\∀b∈fp,H' b=none) E s1) E s
 done:∀(X:Cx),X.prog=P->X.w=w->X.K=K->X.calm=true->∀(i:Nat) (pins:List (Addr×Obj)) (s:Shared) (U:St) (H:Hp) (E:Value->Shared->Prop),Inv X pins U H s->(∀b∈fp,bp X pins H b)->tn i s.heap->J.stop i H ->
  wpAny (model P w) X.A (pyNext (.ref it)) (λr s1=>r=none/\Inv X pins U H s1) E s
 self:∀(A:Around) (i:Nat) (s:Shared) (Q:Value->Shared->Prop) (E:Value->Shared->Prop),tn i s.heap->Q (.ref it) s->wpAny (model P w) A (pyIter (.ref it)) Q E s
@[reducible]def TI:=St->Hp->(It->Hp->Prop)->Prop
abbrev CM(X:Cx)(pins:List (Addr×Obj))(U:St)(tg:Expr)(R:It->Hp->Prop)(itv:Value)(s2:Shared):Prop :=
 ∃(it:Addr) (fp:List Addr) (tn:Nat->Heap->Prop) (J:It) (H':Hp),itv=.ref it/\Inv X pins U H' s2/\Turn X.prog X.w X.K tg J fp it tn/\tn 0 s2.heap/\(∀b∈fp,bp X pins H' b)/\R J H'
abbrev PI(X:Cx)(tg iter:Expr)(wi:TI):Prop :=
 ∀(pins:List (Addr×Obj)) (s:Shared) (U:St) (H:Hp) (R:It->Hp->Prop),Inv X pins U H s->wi U H R ->
  wpAny (model X.prog X.w) X.A (eval iter X.env) (λv s1=>wpAny (model X.prog X.w) X.A (pyIter v) (CM X pins U tg R) X.xe s1) X.xe s
def ug{M:Model}{A:Around}{E:Value->Shared->Prop}{s:Shared}{tg:Expr}{it:Addr}{u:Value}{o:Obj}{n:String}{vs:Array Value}{Q:Unit->Shared->Prop}(ho:s.heap.get? it=some o)(hc:o.cls=.type n)(hd:o.data=.fields vs)
  (hn:["enumerate","zip","dict_itemiterator","dict_reverseitemiterator","odict_iterator","itertools.zip_longest","itertools.pairwise"].contains n=false) (hQ:Q () s):wpAny M A (letOwnedTupleGo tg (.ref it) u) Q E s:=by
 unfold letOwnedTupleGo;cases tg<;>first
  |exact wpAny_pure hQ
  | (cases u <;> first
    |exact wpAny_pure hQ
    | (refine wpAny_bind (wpAny_load ho ?_)
       rw[hc,hd];show wpAny M A (if(["enumerate","zip","dict_itemiterator","dict_reverseitemiterator","odict_iterator","itertools.zip_longest","itertools.pairwise"].contains n && vs[0]? == some (rawInt _))=true then _ else _) Q E s;rw[if_neg (by intro h;rw[hn,Na]at h;cases h)]
       exact wpAny_pure hQ))
abbrev CN(K:Zfr)(a:Addr):It :=
 ⟨λi H=>∃xs x,ez K H a xs/\xs[i]?=some x,λi H x H'=>H'=H/\∀xs,ez K H a xs->xs[i]?=some x,λi H=>∃xs,ez K H a xs/\xs.length<=i⟩
abbrev CO(K:Zfr)(a:Addr):It :=
 ⟨λi H=>∃xs x,ej K H a xs/\xs[i]?=some x,λi H x H'=>H'=H/\∀xs,ej K H a xs->xs[i]?=some x,λi H=>∃xs,ej K H a xs/\xs.length<=i⟩
abbrev uh(lo:Int)(n:Nat):It:=⟨λi _=>i<n,λi H x H'=>H'=H/\x=.int (lo+i),λi _=>n<=i⟩
def FY{P:Program}{w:World}{K:Zfr}{tg:Expr}(a it:Addr):Turn P w K tg (CN K a) [it] it (λi h=>h.IsListIter it a i) where
 mem:=by simp
 obj:=λi h st b hb=>by
  have e:b=it:=by simpa using hb
  subst e;obtain⟨o,e,c,d⟩:=st;exact⟨o,e,λv z=>by rw[d]at z;cases z⟩
 keep:=λi h h' st k=>st.at λo e=>k it (by simp) o e
 item:=by
  intro X hP hw hK hc i pins s U H E I hf st hg;subst hP hw hK;obtain⟨xs,x,hq,hx⟩:=hg;obtain⟨its,rv,p,hz⟩:=I.list hq;obtain⟨u,hu,ru⟩:=rv.get hx;obtain⟨f0,f1,f2,f3,f4,f5⟩:=hf it (by simp);refine wpAny_pyNext_list_item st p.isList (x:=u) (by simpa using hu) λh' st' sb=>?_;have I1:Inv X pins U H { s with heap:=h' }:=I.turned (t':=s.toks) (λb o hb e=>(sb.2 b hb).trans e) f0 f1 f3 f4 f5;obtain⟨o,e,c,d⟩:=id st';exact⟨u,rfl,ug (s:={ s with heap:=h' }) e c d ∅ ⟨x,H,I1,ru,⟨rfl,λys hy=>by rw[I.jL hy hq];exact hx⟩,st',λb hb=>(hf b hb).1⟩⟩
 done:=by
  intro X hP hw hK hc i pins s U H E I hf st hg;subst hP hw hK;obtain⟨xs,hq,hx⟩:=hg;obtain⟨its,rv,p,hz⟩:=I.list hq;obtain⟨f0,f1,f2,f3,f4,f5⟩:=hf it (by simp);have hl:=rv.length;exact wpAny_pyNext_list_end (I.ok.hd hc) st p.isList (by simp;lk) λh' eb=>⟨rfl,I.turned (t':=s.toks) (λb o hb e=>eb b o hb e) f0 f1 f3 f4 f5⟩
 self:=λ_ _ _ _ _ st h=>wpAny_pyIter_listiter st h
def FZ{P:Program}{w:World}{K:Zfr}{tg:Expr}(a it:Addr):Turn P w K tg (CO K a) [it] it (λi h=>h.IsTupleIter it a i) where
 mem:=by simp
 obj:=λi h st b hb=>by
  have e:b=it:=by simpa using hb
  subst e;obtain⟨o,e,c,d⟩:=st;exact⟨o,e,λv z=>by rw[d]at z;cases z⟩
 keep:=λi h h' st k=>st.at λo e=>k it (by simp) o e
 item:=by
  intro X hP hw hK hc i pins s U H E I hf st hg;subst hP hw hK;obtain⟨xs,x,hq,hx⟩:=hg;obtain⟨its,rv,p,hz⟩:=I.tuple hq;obtain⟨u,hu,ru⟩:=rv.get hx;obtain⟨f0,f1,f2,f3,f4,f5⟩:=hf it (by simp);refine wpAny_pyNext_tuple_item st (show s.heap.IsTuple a its.toArray from p) (x:=u) (by simpa using hu) λh' st' sb=>?_;have I1:Inv X pins U H { s with heap:=h' }:=I.turned (t':=s.toks) (λb o hb e=>(sb.2 b hb).trans e) f0 f1 f3 f4 f5;obtain⟨o,e,c,d⟩:=id st';exact⟨u,rfl,ug (s:={ s with heap:=h' }) e c d ∅ ⟨x,H,I1,ru,⟨rfl,λys hy=>by rw[I.iU hy hq];exact hx⟩,st',λb hb=>(hf b hb).1⟩⟩
 done:=by
  intro X hP hw hK hc i pins s U H E I hf st hg;subst hP hw hK;obtain⟨xs,hq,hx⟩:=hg;obtain⟨its,rv,p,hz⟩:=I.tuple hq;obtain⟨f0,f1,f2,f3,f4,f5⟩:=hf it (by simp);have hl:=rv.length;exact wpAny_pyNext_tuple_end (I.ok.hd hc) st (show s.heap.IsTuple a its.toArray from p) (by simp;lk) λh' eb=>⟨rfl,I.turned (t':=s.toks) (λb o hb e=>eb b o hb e) f0 f1 f3 f4 f5⟩
 self:=λ_ _ _ _ _ st h=>wpAny_pyIter_tupleiter st h
def vf{P:Program}{w:World}{K:Zfr}{tg:Expr}(it:Addr)(lo:Int)(n:Nat):Turn P w K tg (uh lo n) [it] it (λi h=>IsRangeIter h it (lo+(i:Nat)*1) ((n:Int)-(i:Nat)) 1) where
 mem:=by simp
 obj:=λi h st b hb=>by
  have e:b=it:=by simpa using hb
  subst e
  exact⟨_,st,λv z=>by
   have z':Data.fields _=Data.cell v:=z
   cases z'⟩
 keep:=λi h h' st k=>k it (by simp) _ st
 item:=by
  intro X hP hw hK hc i pins s U H E I hf st hg;subst hP hw hK;obtain⟨f0,f1,f2,f3,f4,f5⟩:=hf it (by simp);have W:=Walks.range (prog:=X.prog) (w:=X.w) (I.ok.hd hc) it lo 1 n;refine W.item i s _ _ hg st λv h' tk hv st' kk=>?_;obtain⟨t,rfl⟩:=hv;have I1:Inv X pins U H { s with heap:=h',toks:=tk }:=I.turned (λb o hb e=>kk b o (by simpa using hb) e) f0 f1 f3 f4 f5;refine⟨_,rfl,ug (s:={ s with heap:=h',toks:=tk }) (n:="range_iterator") st' rfl rfl ∅ ⟨.int (lo+i),H,I1,⟨t,?_⟩,⟨rfl,rfl⟩,st',λb hb=>(hf b hb).1⟩⟩;rw[Int.mul_one]
 done:=by
  intro X hP hw hK hc i pins s U H E I hf st hg;subst hP hw hK;obtain⟨f0,f1,f2,f3,f4,f5⟩:=hf it (by simp);exact wpAny_pyNext_range_end (I.ok.hd hc) st (by have:n<=i:=hg;lk) λh' eb=>⟨rfl,I.turned (t':=s.toks) (λb o hb e=>eb b o hb e) f0 f1 f3 f4 f5⟩
 self:=λ_ _ _ _ _ st h=>wpAny_pyIter_rangeiter st h
section
variable {X:Cx}{tg:Expr}
abbrev pI(K:Zfr)(tl:TE):TI:=λU H R=>tl U H λx H1=>∃a,x=.ref a/\(∃xs,ez K H1 a xs)/\R (CN K a) H1
abbrev vg(K:Zfr)(tl:TE):TI:=λU H R=>tl U H λx H1=>∃a,x=.ref a/\(∃xs,ej K H1 a xs)/\R (CO K a) H1
def Ak{l:Expr}{tl:TE}(hl:PE X l tl):PI X tg l (pI X.K tl):=by
 intro pins s U H R I h;refine aP (hl pins s U H _ I h) λv s1 ⟨x,H1,I1,r1,q1⟩=>?_;obtain⟨a,e,⟨xs,hq⟩,q⟩:=q1;subst e;cases r1;obtain⟨its,rv,p,hz⟩:=I1.list hq;refine wpAny_pyIter_list p.isList ?_;refine⟨s1.heap.objs.size,[s1.heap.objs.size],_,_,H1,rfl,I1.kept (t':=s1.toks) λb o e=>LA _ e,FY a _,⟨_,LJ _ rfl,rfl,rfl⟩,λb hb=>?_,q⟩;have e:b=s1.heap.objs.size:=by simpa using hb
 subst e;exact I1.fM (LI _) (I1.hok.fresh (LI _))
def qS{l:Expr}{tl:TE}(hl:PE X l tl):PI X tg l (vg X.K tl):=by
 intro pins s U H R I h;refine aP (hl pins s U H _ I h) λv s1 ⟨x,H1,I1,r1,q1⟩=>?_;obtain⟨a,e,⟨xs,hq⟩,q⟩:=q1;subst e;cases r1;obtain⟨its,rv,p,hz⟩:=I1.tuple hq;refine wpAny_pyIter_tuple (show s1.heap.IsTuple a its.toArray from p) ?_;refine⟨s1.heap.objs.size,[s1.heap.objs.size],_,_,H1,rfl,I1.kept (t':=s1.toks) λb o e=>LA _ e,FZ a _,⟨_,LJ _ rfl,rfl,rfl⟩,λb hb=>?_,q⟩;have e:b=s1.heap.objs.size:=by simpa using hb
 subst e;exact I1.fM (LI _) (I1.hok.fresh (LI _))
def F0{pins:List (Addr×Obj)}{U:St}{H:Hp}{s:Shared}{R:It->Hp->Prop}{E:Value->Shared->Prop}{lo hi:Int}{t u v:Tok}{tk:Nat}(I:Inv X pins U H s)(h1:-(2 ^ 62)<=lo)(h2:lo<2 ^ 62)(h3:-(2 ^ 62)<=hi)(h4:hi<2 ^ 62)
  (q:R (uh lo (hi-lo).toNat) H):wpAny (model X.prog X.w) X.A (pyIter (.ref s.heap.objs.size)) (CM X pins U tg R) E { s with heap:=s.heap.push { cls:=.type "range",data:=.fields #[.int lo t,.int hi u,.int 1 v] },toks:=tk }:=by
 refine wpAny_pyIter_range (IsRange.new ..) (small_one h1 h2 h3 h4) ?_;have I1:Inv X pins U H { s with heap:=s.heap.push { cls:=.type "range",data:=.fields #[.int lo t,.int hi u,.int 1 v] },toks:=tk }:=I.kept λb o e=>LA _ e
 refine⟨(s.heap.push { cls:=.type "range",data:=.fields #[.int lo t,.int hi u,.int 1 v] }).objs.size,[(s.heap.push { cls:=.type "range",data:=.fields #[.int lo t,.int hi u,.int 1 v] }).objs.size],_,_,H,rfl,
  I1.kept (t':=tk) λb o e=>LA _ e,vf _ lo (hi-lo).toNat,?_,λb hb=>?_,q⟩
 have e1:lo+((0:Nat):Int)*1=lo:=by simp
 have e2:(((hi-lo).toNat:Nat):Int)-((0:Nat):Int)=Builtin.Range.rangeSize lo hi 1:=by rw[rangeSize_one];split<;>lk
 show IsRangeIter _ _ (lo+((0:Nat):Int)*1) ((((hi-lo).toNat:Nat):Int)-((0:Nat):Int)) 1;rw[e1,e2];exact LJ _ rfl;have e:b=(s.heap.push { cls:=.type "range",data:=.fields #[.int lo t,.int hi u,.int 1 v] }).objs.size:=by simpa using hb
 subst e;exact I1.fM (LI _) (I1.hok.fresh (LI _))
abbrev pJ(ta:TA):TI:=λU H R=>ta U H λvs H1=>∃j:Int,vs=[.int j]/\-(2 ^ 62)<=j/\j<2 ^ 62/\R (uh 0 j.toNat) H1
def Al{a:Expr}{ta:TA}{p pos:Pos}(hg:Gl X "range")(hm:X.mg "range" = none)(ha:PA X [a] ta)(hs:starEach [a] X.env=[(false,eval a X.env)]:=by rfl):PI X tg (.Call (.Name "range" p) [a] [] pos) (pJ ta):=by
 intro pins s U H R I h;refine Call_ (ua I hg hm boot_range (PyProof.Rows.callWith_type1 (aP (ha pos pins s U H _ I h) λus s1 ⟨vs,H1,I1,r1,q1⟩=>?_) hs rfl));obtain⟨j,e,q1,q2,q⟩:=q1;subst e;cases r1 with
 |cons r rr =>
  cases rr;obtain⟨t,rfl⟩:=r;exact call_range_1 (F0 I1 ⋯ ⋯ q1 q2 (by simpa using q))
abbrev vh(wi:TI)(g:TG)(tb:TS):TS:=λD U H=>wi U H λJ H1=>∃W:Nat->Nat->St->Hp->Prop,(∃m,W 0 m U H1)/\∀i m U H,W i m U H ->
 (J.stop i H/\D.nx U H)\/(J.go i H/\∃N:St->Hp->Prop,(∀U' H',N U' H'->∃m',m' < m/\W (i+1) m' U' H')/\∀x H',J.kz i H x H'->g x U H' λU2 H2=>tb { D with nx:=N,ct:=N,bk:=D.nx } U2 H2)
abbrev fu(fp:List Addr)(h:Heap):List (Addr×Obj):=fp.filterMap λb=>(h.get? b).map λo=>(b,o)
def pK{fp:List Addr}{h:Heap}{b:Addr}{o:Obj}(hb:b∈fp)(e:h.get? b=some o):(b,o)∈fu fp h:=List.mem_filterMap.mpr ⟨b,hb,by rw[e];rfl⟩
def F1{fp:List Addr}{h:Heap}{p:Addr×Obj}(hp:p∈fu fp h):p.1∈fp/\h.get? p.1=some p.2:=by
 obtain⟨b,hb,e⟩:=List.mem_filterMap.mp hp;cases q:h.get? b with
 |none=>rw[q]at e;cases e
 |some o =>
  rw[q]at e;have e':(b,o)=p:=LH e;subst e';exact⟨hb,q⟩
def Inv.pinned{pins:List (Addr×Obj)}{U:St}{H:Hp}{s:Shared}{fp:List Addr}(I:Inv X pins U H s)(hf:∀b∈fp,bp X pins H b)(ho:∀b∈fp,∃o,s.heap.get? b=some o/\∀v,o.data≠.cell v):Inv X (pins ++ fu fp s.heap) U H s :=
 I.cL λp hp=>(Mi.mp hp).elim (λz=>I.pin p (LK _ z)) λz=>by
  obtain⟨hb,e⟩:=F1 z;obtain⟨f0,f1,f2,_⟩:=hf p.1 hb;obtain⟨o,e',d⟩:=ho p.1 hb;rw[e]at e';cases e';exact⟨e,f0,f1,f2,d⟩
def Inv.cX{pins pl:List (Addr×Obj)}{U:St}{H:Hp}{s:Shared}(I:Inv X (pins ++ pl) U H s):Inv X pins U H s:=I.cL λp hp=>I.pin p (LK _ (Mm _ hp))
def qT{iter:Expr}{body:List Stmt}{wi:TI}{g:TG}{tb:TS}{pos:Pos}(hp:PassesOwn (model X.prog X.w) X.A X.env X.xe)(hc:X.calm=true)(hi:PI X tg iter wi)(hg:PG X tg g)(hb:iT X body tb)
  (hs:∀x,foldedSetIterable iter X.env x=pure x:=by intro _;rfl):PS X (.For tg iter body [] pos) (vh wi g tb):=by
 intro pins s U H D I h;refine wpAny_For (aP (hi pins s U H _ I h) λv s1 h1=>aP h1 λitv s2 h2=>?_) hs;obtain⟨it,fp,tn,J,H2,e,I2,T,st2,f2,W,⟨m0,w0⟩,turn⟩:=h2;subst e;have stat:∀{H':Hp},(∀b∈fp,H' b=none)->∀b∈fp,bp X pins H' b:=λhn b hb=>⟨hn b hb,(f2 b hb).2⟩;refine codeAny_forLoop_any (λn s'=>∃i U' H',Inv X pins U' H' s'/\tn i s'.heap/\(∀b∈fp,H' b=none)/\W i n U' H') ?_ m0 ⟨0,U,H2,I2,st2,λb hb=>(f2 b hb).1,w0⟩;rintro n s3 ⟨i,U3,H3,I3,st3,CP,w3⟩;rcases turn i n U3 H3 w3 with⟨stop,qn⟩|⟨go,N,hN,step⟩
 ·refine wpAny_passesOwn hp (aP (T.done X rfl rfl rfl hc i pins s3 U3 H3 X.xe I3 (stat CP) st3 stop) λr s4 ⟨hr,I4⟩=>?_)
  subst hr;exact wpAny_execs_nil ⟨U3,H3,I4,qn⟩
 ·refine wpAny_passesOwn hp (aP (T.item X rfl rfl rfl hc i pins s3 U3 H3 X.xe I3 (stat CP) st3 go) λr s4 ⟨u,hr,h4⟩=>?_)
  subst hr;refine wpAny_passesOwn hp (aP h4 λ_ s5 ⟨x,H5,I5,r5,y5,fQ,og⟩=>?_);have F2:=I5.pinned (stat og) (T.obj _ _ fQ);refine wpAny_passesOwn hp (aP (hg _ s5 U3 H5 x u _ F2 r5 (step x H5 y5)) λ_ s6 ⟨U6,H6,I6,q6⟩=>?_);refine wpAny_passesOwn hp (aP (hb _ s6 U6 H6 _ I6 q6) λf s7 q7=>?_);have again:∀{U7:St} {H7:Hp},Inv X (pins ++ fu fp s5.heap) U7 H7 s7->N U7 H7->∃m,m<n/\∃i U' H',Inv X pins U' H' s7/\tn i s7.heap/\(∀b∈fp,H' b=none)/\W i m U' H':=λ{U7 H7} I7 n7=>by
   obtain⟨m',hm,w7⟩:=hN U7 H7 n7;refine⟨m',hm,i+1,U7,H7,I7.cX,T.keep _ _ _ fQ λb hb o e=>(I7.pin (b,o) (LK _ (LK _ (pK hb e)))).1,λb hb=>?_,w7⟩;obtain⟨o,e,d⟩:=T.obj _ _ fQ b hb;exact(I7.pin (b,o) (LK _ (LK _ (pK hb e)))).2.1
  cases f with
  |next=>obtain⟨U7,H7,I7,n7⟩:=q7;exact again I7 n7
  |cont=>obtain⟨U7,H7,I7,n7⟩:=q7;exact again I7 n7
  |brk=>obtain⟨U7,H7,I7,q7⟩:=q7;exact⟨U7,H7,I7.cX,q7⟩
  |ret v=>obtain⟨x7,U7,H7,I7,r7,q7⟩:=q7;exact⟨x7,U7,H7,I7.cX,r7,q7⟩
end
@[reducible]def R2:=V->V->Hp->VK->Prop
abbrev eY(X:Cx)(f:Value->Value->Sem Value)(r:R2):Prop :=
 ∀(pins:List (Addr×Obj)) (s:Shared) (U:St) (H:Hp) (x y:V) (v u:Value) (Q:VK),Inv X pins U H s->RelV x v->RelV y u->r x y H Q ->
  wpAny (model X.prog X.w) X.A (f v u) (EP X pins U Q) X.xe s
abbrev Am(X:Cx)(f:Value->Sem Value)(r:V->Hp->VK->Prop):Prop :=
 ∀(pins:List (Addr×Obj)) (s:Shared) (U:St) (H:Hp) (x:V) (v:Value) (Q:VK),Inv X pins U H s->RelV x v->r x H Q ->
  wpAny (model X.prog X.w) X.A (f v) (EP X pins U Q) X.xe s
abbrev dX(X:Cx)(f:Value)(r:List V->Hp->VK->Prop):Prop :=
 ∀(pins:List (Addr×Obj)) (s:Shared) (U:St) (H:Hp) (xs:List V) (us:List Value) (Q:VK),Inv X pins U H s->Vals xs us->r xs H Q ->
  wpAny (model X.prog X.w) X.A (call f us) (EP X pins U Q) X.xe s
abbrev ui(r:R2)(ta tb:TE):TE:=λU H Q=>ta U H λx H1=>tb U H1 λy H2=>r x y H2 Q
abbrev CQ(r:V->Hp->VK->Prop)(ta:TE):TE:=λU H Q=>ta U H λx H1=>r x H1 Q
abbrev rI(C:Int->Int->Prop)(g:Int->Int->V):R2:=λx y H Q=>∃i j,x=.int i/\y=.int j/\C i j/\Q (g i j) H
abbrev lX(g:Int->Int->V):R2:=λx y H Q=>∃i j,x=.int i/\y=.int j/\Q (g i j) H
abbrev rU(g:Int->V):V->Hp->VK->Prop:=λx H Q=>∃i,x=.int i/\Q (g i) H
section
variable {X:Cx}{a b c:Expr}{ta tb tc:TE}{pos:Pos}
def qU(ha:PE X a ta)(hb:PE X b tb){pins:List (Addr×Obj)}{s:Shared}{U:St}{H:Hp}{R:V->V->Hp->Prop}(I:Inv X pins U H s)
  (h:ta U H λx H1=>tb U H1 λy H2=>R x y H2) {Q:Value->Shared->Prop} {f:Value->Value->Sem Value}
  (hf:∀v u s2 x y H2,Inv X pins U H2 s2->RelV x v->RelV y u->R x y H2->wpAny (model X.prog X.w) X.A (f v u) Q X.xe s2) :
  wpAny (model X.prog X.w) X.A (eval a X.env) (λv s₁=>wpAny (model X.prog X.w) X.A (eval b X.env) (λu s₂=>wpAny (model X.prog X.w) X.A (f v u) Q X.xe s₂) X.xe s₁) X.xe s:=by
 refine aP (ha pins s U H _ I h) λv s1 ⟨x,H1,I1,r1,q1⟩=>?_;refine aP (hb pins s1 U H1 _ I1 q1) λu s2 ⟨y,H2,I2,r2,q2⟩=>?_;exact hf v u s2 x y H2 I2 r1 r2 q2
def cn{op:Operator}{r:R2}(ho:eY X (binaryOp op) r)(ha:PE X a ta)(hb:PE X b tb):PE X (.BinOp a op b pos) (ui r ta tb):=by intro pins s U H Q I h;exact wpAny_BinOp (qU ha hb I h λv u s2 x y H2 I2 rx ry q=>ho pins s2 U H2 x y v u Q I2 rx ry q)
def vi{op:UnaryOp}{r:V->Hp->VK->Prop}(ho:Am X (unaryOp op) r)(ha:PE X a ta):PE X (.UnaryOp op a pos) (CQ r ta):=by intro pins s U H Q I h;exact UnaryOp_ (aP (ha pins s U H _ I h) λv s1 ⟨x,H1,I1,r1,q1⟩=>ho pins s1 U H1 x v Q I1 r1 q1)
def yA{f:Value->Value->Sem Value}{C:Int->Int->Prop}{g:Int->Int->Int}
  (rule:∀(i j:Int) (t u:Tok) (s:Shared) (Q:Value->Shared->Prop) (E:Value->Shared->Prop),C i j->Q (.int (g i j) s.toks) { s with toks:=s.toks+1 }->wpAny (model X.prog X.w) X.A (f (.int i t) (.int j u)) Q E s) :
  eY X f (rI C λi j=>.int (g i j)):=by
 intro pins s U H x y v u Q I rx ry h;obtain⟨i,j,rfl,rfl,hc,q⟩:=h;obtain⟨t,rfl⟩:=rx;obtain⟨t',rfl⟩:=ry;exact rule i j t t' s _ _ hc ⟨.int (g i j),H,I.tok _,⟨_,rfl⟩,q⟩
def vj{f:Value->Value->Sem Value}{g:Int->Int->Int}
  (rule:∀(i j:Int) (t u:Tok) (s:Shared) (Q:Value->Shared->Prop) (E:Value->Shared->Prop),Q (.int (g i j) s.toks) { s with toks:=s.toks+1 }->wpAny (model X.prog X.w) X.A (f (.int i t) (.int j u)) Q E s) :
  eY X f (lX λi j=>.int (g i j)):=by
 intro pins s U H x y v u Q I rx ry h;obtain⟨i,j,rfl,rfl,q⟩:=h;obtain⟨t,rfl⟩:=rx;obtain⟨t',rfl⟩:=ry;exact rule i j t t' s _ _ ⟨.int (g i j),H,I.tok _,⟨_,rfl⟩,q⟩
def qV{f:Value->Value->Sem Value}{g:Int->Int->Bool}
  (rule:∀(i j:Int) (t u:Tok) (s:Shared) (Q:Value->Shared->Prop) (E:Value->Shared->Prop),Q (.bool (g i j)) s->wpAny (model X.prog X.w) X.A (f (.int i t) (.int j u)) Q E s) :
  eY X f (lX λi j=>.bl (g i j)):=by
 intro pins s U H x y v u Q I rx ry h;obtain⟨i,j,rfl,rfl,q⟩:=h;obtain⟨t,rfl⟩:=rx;obtain⟨t',rfl⟩:=ry;exact rule i j t t' s _ _ ⟨.bl (g i j),H,I,rfl,q⟩
abbrev vk(i j:Int):Prop:=0<j/\j<1073741824
abbrev vm(i j:Int):Prop:=0<=j/\j<=1000000/\i.natAbs<2 ^ 64
abbrev oM(i j:Int):Prop:=(-(2 ^ 64)<i/\i<2 ^ 64)\/(-(2 ^ 64)<j/\j<2 ^ 64)
def oM.ok{i j:Int}(h:oM i j):IntMulOk i j:=by
 rcases h with⟨h1,h2⟩|⟨h1,h2⟩
 exact .of_left (intBits_le_64 h1 h2);exact .of_right (intBits_le_64 h1 h2)
def ke:eY X (binaryOp .Add) (lX λi j=>.int (i+j)):=vj λ_ _ _ _ _ _ _ q=>add_int q
def qW:eY X (binaryOp .Sub) (lX λi j=>.int (i-j)):=vj λ_ _ _ _ _ _ _ q=>sub_int q
def pL:eY X (binaryOp .Mult) (rI oM λi j=>.int (i*j)):=yA λ_ _ _ _ _ _ _ hc q=>mul_int q hc.ok
def CS:eY X (binaryOp .FloorDiv) (rI vk λi j=>.int (i / j)):=yA λi j _ _ _ _ _ hc q=>by
 have h1:(0:Int)<j:=hc.1;have h2:j<1073741824:=hc.2;exact floordiv_int ⋯ (by rw[Int.fdiv_eq_ediv_of_nonneg i ⋯];exact q) (.inl (PyProof.noPylong_small ⋯))
def pM:eY X (binaryOp .Mod) (rI (λ_ j=>0<j) λi j=>.int (i % j)):=yA λi j _ _ _ _ _ hc q=>by
 have h1:(0:Int)<j:=hc;exact mod_int' ⋯ (by rw[Int.fmod_eq_emod_of_nonneg i ⋯];exact q)
def CT:eY X (binaryOp .Pow) (rI vm λi j=>.int (i ^ j.toNat)):=yA λ_ _ _ _ _ _ _ hc q=>pow_int_small hc.1 hc.2.1 hc.2.2 q
def F3{f:Value->Sem Value}{g:Int->Int}
  (rule:∀(i:Int) (t:Tok) (s:Shared) (Q:Value->Shared->Prop) (E:Value->Shared->Prop),Q (.int (g i) s.toks) { s with toks:=s.toks+1 }->wpAny (model X.prog X.w) X.A (f (.int i t)) Q E s) :
  Am X f (rU λi=>.int (g i)):=by
 intro pins s U H x v Q I rx h;obtain⟨i,rfl,q⟩:=h;obtain⟨t,rfl⟩:=rx;exact rule i t s _ _ ⟨.int (g i),H,I.tok _,⟨_,rfl⟩,q⟩
def qX:Am X (unaryOp .USub) (rU λi=>.int (-i)):=F3 λ_ _ _ _ _ q=>neg_int q
end
abbrev gZ:V->V->Bool
 |.non,.non=>true|.non,.int _=>true|.int _,.non=>true|.non,.bl _=>true|.bl _,.non=>true|.non,.str _=>true|.str _,.non=>true
 |.int _,.int _=>true|.bl _,.bl _=>true|.str _,.str _=>true|.mB _,.mB _=>true
 |.int _,.str _=>true|.str _,.int _=>true|.bl _,.str _=>true|.str _,.bl _=>true
 |_,_=>false
abbrev CU:R2:=λx y H Q=>gZ x y=true/\Q (.bl (decide (x=y))) H
abbrev CV:R2:=λx y H Q=>gZ x y=true/\Q (.bl (!decide (x=y))) H
def CW{i j:Int}:decide (V.int i=V.int j)=(i == j):=by rw[MD];simp
def CY{i j:Bool}:decide (V.bl i=V.bl j)=(i == j):=by rw[MD];simp
def CZ{i j:Str}:decide (V.str i=V.str j)=(i == j):=by rw[MD];simp
def C2{i j:Array UInt8}:decide (V.mB i=V.mB j)=(i.toList == j.toList):=by rw[MD];cases i;cases j;simp
section
variable {X:Cx}{a b c:Expr}{ta tb tc:TE}{pos:Pos}
def eZ{pins:List (Addr×Obj)}{U:St}{H:Hp}{s:Shared}{Q:VK}{k k':Bool}(I:Inv X pins U H s)(q:Q (.bl k) H)(e:k=k'):EP X pins U Q (.bool k') s:=by subst e;exact⟨.bl k,H,I,rfl,q⟩
def kf:eY X (compareOp .Eq) CU:=by
 intro pins s U H x y v u Q I rx ry h;obtain⟨hs,q⟩:=h;cases x with
 |non =>
  cases rx;cases y with
  |non=>cases ry;exact PySem.EqNone.eq_none_none (eZ I q (by simp))
  |bl j=>cases ry;exact PySem.EqNone.eq_none_bool (eZ I q (by simp))
  |int j=>obtain⟨t',rfl⟩:=ry;exact PySem.EqNone.eq_none_int (eZ I q (by simp))
  |str j=>obtain⟨t',rfl⟩:=ry;exact PySem.EqNone.eq_none_str (eZ I q (by simp))
  |_=>exact absurd (show false=true from hs) LC
 |bl i =>
  cases rx;cases y with
  |non=>cases ry;exact PySem.EqNone.eq_bool_none (eZ I q (by simp))
  |bl j=>cases ry;exact eq_bool (eZ I q CY)
  |str j=>obtain⟨t',rfl⟩:=ry;exact PySem.EqMixed.eq_bool_str (eZ I q (by simp))
  |_=>exact absurd (show false=true from hs) LC
 |int i =>
  obtain⟨t,rfl⟩:=rx;cases y with
  |non=>cases ry;exact PySem.EqNone.eq_int_none (eZ I q (by simp))
  |int j=>obtain⟨t',rfl⟩:=ry;exact eq_int (eZ I q CW)
  |str j=>obtain⟨t',rfl⟩:=ry;exact PySem.EqMixed.eq_int_str (eZ I q (by simp))
  |_=>exact absurd (show false=true from hs) LC
 |str i =>
  obtain⟨t,rfl⟩:=rx;cases y with
  |non=>cases ry;exact PySem.EqNone.eq_str_none (eZ I q (by simp))
  |bl j=>cases ry;exact PySem.EqMixed.eq_str_bool (eZ I q (by simp))
  |int j=>obtain⟨t',rfl⟩:=ry;exact PySem.EqMixed.eq_str_int (eZ I q (by simp))
  |str j=>obtain⟨t',rfl⟩:=ry;exact eq_str (eZ I q CZ)
  |_=>exact absurd (show false=true from hs) LC
 |mB i =>
  obtain⟨t,rfl⟩:=rx;cases y with
  |mB j=>obtain⟨t',rfl⟩:=ry;exact PySem.W.eq_bytes (eZ I q C2)
  |_=>exact absurd (show false=true from hs) LC
 |_=>cases y<;>exact absurd (show false=true from hs) LC
def qY:eY X (compareOp .NotEq) CV:=by
 intro pins s U H x y v u Q I rx ry h;obtain⟨hs,q⟩:=h;cases x with
 |non =>
  cases rx;cases y with
  |non=>cases ry;exact PySem.EqNone.ne_none_none (eZ I q (by simp))
  |bl j=>cases ry;exact PySem.EqNone.ne_none_bool (eZ I q (by simp))
  |int j=>obtain⟨t',rfl⟩:=ry;exact PySem.EqNone.ne_none_int (eZ I q (by simp))
  |str j=>obtain⟨t',rfl⟩:=ry;exact PySem.EqNone.ne_none_str (eZ I q (by simp))
  |_=>exact absurd (show false=true from hs) LC
 |bl i =>
  cases rx;cases y with
  |non=>cases ry;exact PySem.EqNone.ne_bool_none (eZ I q (by simp))
  |bl j=>cases ry;exact ne_bool (eZ I q (congrArg not CY))
  |str j=>obtain⟨t',rfl⟩:=ry;exact PySem.EqMixed.ne_bool_str (eZ I q (by simp))
  |_=>exact absurd (show false=true from hs) LC
 |int i =>
  obtain⟨t,rfl⟩:=rx;cases y with
  |non=>cases ry;exact PySem.EqNone.ne_int_none (eZ I q (by simp))
  |int j=>obtain⟨t',rfl⟩:=ry;exact ne_int (eZ I q (congrArg not CW))
  |str j=>obtain⟨t',rfl⟩:=ry;exact PySem.EqMixed.ne_int_str (eZ I q (by simp))
  |_=>exact absurd (show false=true from hs) LC
 |str i =>
  obtain⟨t,rfl⟩:=rx;cases y with
  |non=>cases ry;exact PySem.EqNone.ne_str_none (eZ I q (by simp))
  |bl j=>cases ry;exact PySem.EqMixed.ne_str_bool (eZ I q (by simp))
  |int j=>obtain⟨t',rfl⟩:=ry;exact PySem.EqMixed.ne_str_int (eZ I q (by simp))
  |str j=>obtain⟨t',rfl⟩:=ry;exact ne_str (eZ I q (congrArg not CZ))
  |_=>exact absurd (show false=true from hs) LC
 |mB i =>
  obtain⟨t,rfl⟩:=rx;cases y with
  |mB j=>obtain⟨t',rfl⟩:=ry;exact PySem.W.ne_bytes (eZ I q (congrArg not C2))
  |_=>exact absurd (show false=true from hs) LC
 |_=>cases y<;>exact absurd (show false=true from hs) LC
def pN:eY X (compareOp .Lt) (lX λi j=>.bl (decide (i<j))):=qV λ_ _ _ _ _ _ _ q=>lt_int q
def yB:eY X (compareOp .Gt) (lX λi j=>.bl (decide (j<i))):=qV λ_ _ _ _ _ _ _ q=>gt_int q
def vn:eY X (compareOp .GtE) (lX λi j=>.bl (decide (j<=i))):=qV λ_ _ _ _ _ _ _ q=>ge_int q
def F4:eY X (compareOp .In) (λx y H Q=>∃i j,x=.str i/\y=.str j/\Q (.bl (!(Builtin.Str.occurrences j i 0 j.length 1).isEmpty)) H):=by intro pins s U H x y v u Q I rx ry h;obtain⟨i,j,rfl,rfl,q⟩:=h;obtain⟨t,rfl⟩:=rx;obtain⟨t',rfl⟩:=ry;exact in_str (eZ I q rfl)
def qZ:eY X (compareOp .Is) (λx y H Q=>y=.non/\Q (.bl (decide (x=.non))) H):=by
 intro pins s U H x y v u Q I rx ry h;obtain⟨rfl,q⟩:=h;cases ry;refine is_none_gen (eZ I q ?_);cases x<;>first
  |(cases rx;rfl)
  |(obtain⟨t,rfl⟩:=rx;rfl)
def F5:eY X (compareOp .IsNot) (λx y H Q=>y=.non/\Q (.bl (!decide (x=.non))) H):=by
 intro pins s U H x y v u Q I rx ry h;obtain⟨rfl,q⟩:=h;cases ry;refine isnot_none_gen (eZ I q ?_);cases x<;>first
  |(cases rx;rfl)
  |(obtain⟨t,rfl⟩:=rx;rfl)
def aw(b:Expr){op:CmpOp}(h:op≠.In:=by decide)(h2:op≠.NotIn:=by decide):behindInMarks op b=false:=by
 have e1:(op == CmpOp.In)=false:=by cases op<;>first|rfl|exact absurd rfl h
 have e2:(op == CmpOp.NotIn)=false:=by cases op<;>first|rfl|exact absurd rfl h2
 cases b<;>simp[behindInMarks,e1,e2]
def lh{op:CmpOp}{r:R2}(ho:eY X (compareOp op) r)(ha:PE X a ta)(hb:PE X b tb)(hm:behindInMarks op b=false):PE X (.Compare a [op] [b] pos) (ui r ta tb):=by intro pins s U H Q I h;exact wpAny_Compare1 (qU ha hb I h λv u s2 x y H2 I2 rx ry q=>ho pins s2 U H2 x y v u Q I2 rx ry q) hm
abbrev mY(t:TE):TT:=λU H Q=>t U H λx H'=>∃k,x=.bl k/\Q k H'
def fW{op:CmpOp}{r:R2}(ho:eY X (compareOp op) r)(ha:PE X a ta)(hb:PE X b tb)(hm:behindInMarks op b=false):PT X (.Compare a [op] [b] pos) (mY (ui r ta tb)):=by
 intro pins s U H Q I h
 refine wpAny_isTrue_Compare1 (aP (ha pins s U H _ I h) λv s1 ⟨x,H1,I1,r1,q1⟩=>aP (hb pins s1 U H1 _ I1 q1) λu s2 ⟨y,H2,I2,r2,q2⟩ =>
  aP (ho pins s2 U H2 x y v u _ I2 r1 r2 q2) λc s3 ⟨z,H3,I3,r3,k,e,q3⟩=>?_) hm
 subst e;cases r3;exact wpAny_truthy_bool ⟨H3,I3,q3⟩
abbrev kA(r r':R2)(ta tb tc:TE):TE:=λU H Q=>ta U H λx H1=>tb U H1 λy H2=>r x y H2 λz H3=>∃k,z=.bl k /\
 (if k=true then tc U H3 λw' H4=>r' y w' H4 Q else Q (.bl false) H3)
def F6{op op':CmpOp}{r r':R2}(ho:eY X (compareOp op) r)(ho':eY X (compareOp op') r')(ha:PE X a ta)(hb:PE X b tb)(hc:PE X c tc)
  (hm:lastMarks [op,op'] [b,c]=false:=by with_unfolding_all rfl):PE X (.Compare a [op,op'] [b,c] pos) (kA r r' ta tb tc):=by
 intro pins s U H Q I h
 refine Compare_chain (aP (ha pins s U H _ I h) λv s1 ⟨x,H1,I1,r1,q1⟩=>chain_link (aP (hb pins s1 U H1 _ I1 q1) λu s2 ⟨y,H2,I2,r2,q2⟩ =>
  aP (ho pins s2 U H2 x y v u _ I2 r1 r2 q2) λd s3 ⟨z,H3,I3,r3,k,e,q3⟩=>?_)) hm
 subst e;cases r3;refine wpAny_truthy_bool ?_;cases k with
 |false=>exact ite_ff ⟨.bl false,H3,I3,rfl,q3⟩
 |true=>exact ite_tt (chain_last (aP (hc pins s3 U H3 _ I3 q3) λw' s4 ⟨z',H4,I4,r4,q4⟩=>ho' pins s4 U H4 y z' u w' Q I4 r2 r4 q4))
def F7{op op':CmpOp}{r r':R2}(ho:eY X (compareOp op) r)(ho':eY X (compareOp op') r')(ha:PE X a ta)(hb:PE X b tb)(hc:PE X c tc)
  (hm:lastMarks [op,op'] [b,c]=false:=by with_unfolding_all rfl):PT X (.Compare a [op,op'] [b,c] pos) (mY (kA r r' ta tb tc)):=by
 intro pins s U H Q I h
 refine isTrue_chain (aP (ha pins s U H _ I h) λv s1 ⟨x,H1,I1,r1,q1⟩=>test_link (aP (hb pins s1 U H1 _ I1 q1) λu s2 ⟨y,H2,I2,r2,q2⟩ =>
  aP (ho pins s2 U H2 x y v u _ I2 r1 r2 q2) λd s3 ⟨z,H3,I3,r3,k,e,q3⟩=>?_)) hm
 subst e;cases r3;refine wpAny_truthy_bool ?_;cases k with
 |false =>
  obtain⟨k',e',q'⟩:=q3;cases e';exact ite_ff ⟨H3,I3,q'⟩
 |true =>
  refine ite_tt (test_last (aP (hc pins s3 U H3 _ I3 q3) λw' s4 ⟨z',H4,I4,r4,q4⟩=>aP (ho' pins s4 U H4 y z' u w' _ I4 r2 r4 q4) λd' s5 ⟨z2,H5,I5,r5,k2,e2,q5⟩=>?_));subst e2;cases r5;exact wpAny_truthy_bool ⟨H5,I5,q5⟩
def g7:(sizeLine:Nat)<2 ^ 63:=by rw[sizeLine_eq];decide
def yC:eY X (binaryOp .Add) (λx y H Q=>∃i j,x=.str i/\y=.str j/\i.length+j.length<=sizeLine/\Q (.str (i ++ j)) H):=by intro pins s U H x y v u Q I rx ry h;obtain⟨i,j,rfl,rfl,hz,q⟩:=h;obtain⟨t,rfl⟩:=rx;obtain⟨t',rfl⟩:=ry;exact add_str (λt' tk=>⟨.str (i ++ j),H,I.tok _,⟨_,rfl⟩,q⟩) hz
def vals1{x:V}{us:List Value}(r:Vals [x] us):∃u,us=[u]/\RelV x u:=by
 cases r with
 |cons r1 r2=>cases r2;exact⟨_,rfl,r1⟩
def vals2{x y:V}{us:List Value}(r:Vals [x,y] us):∃u w',us=[u,w']/\RelV x u/\RelV y w':=by
 cases r with
 |cons r1 r2 =>
  cases r2 with
  |cons r3 r4=>cases r4;exact⟨_,_,rfl,r1,r3⟩
def F8(hc:X.calm=true):dX X (.builtin "max") (λxs H Q=>∃i j,xs=[.int i,.int j]/\Q (.int (if j > i then j else i)) H):=by intro pins s U H xs us Q I r h;obtain⟨i,j,rfl,q⟩:=h;obtain⟨u,w',rfl,⟨t,rfl⟩,⟨t',rfl⟩⟩:=vals2 r;refine max_two_ints (I.ok.hd hc) λh' tk k=>⟨_,H,I.kept k,?_,q⟩;by_cases hj:j > i;rw[if_pos hj,if_pos hj];exact⟨_,rfl⟩;rw[if_neg hj,if_neg hj];exact⟨_,rfl⟩
def yD:dX X (.type "int") (λxs H Q=>(∃i,xs=[.int i]/\Q (.int i) H)\/∃k,xs=[.bl k]/\Q (.int (if k then 1 else 0)) H):=by
 intro pins s U H xs us Q I r h;rcases h with⟨i,rfl,q⟩|⟨k,rfl,q⟩
 obtain⟨u,rfl,t,rfl⟩:=vals1 r;exact call_int_int ⟨.int i,H,I,⟨_,rfl⟩,q⟩;obtain⟨u,rfl,r1⟩:=vals1 r;cases r1;exact call_int_bool ⟨.int (if k then 1 else 0),H,I.tok _,⟨_,rfl⟩,q⟩
def C3:dX X (.type "str") (λxs H Q=>∃i,xs=[.int i]/\i.natAbs.log2<1920/\Q (.str (toString i)) H):=by intro pins s U H xs us Q I r h;obtain⟨i,rfl,hz,q⟩:=h;obtain⟨u,rfl,t,rfl⟩:=vals1 r;exact PySem.P.str_of_int hz ⟨.str _,H,I.tok _,⟨_,rfl⟩,q⟩
end
def F9{h:Heap}{dx:Addr}{mA:Str->Option Value}(n:h.Ns1 dx mA):∃od,h.get? dx=some od/\∀name,PySem.W.lookIn name od=some (mA name):=by
 obtain⟨o,es,ep,ho,hd,hk,_,hm⟩:=n;refine⟨o,ho,λname=>?_⟩;have e:=hm name;unfold nsFind findBy at e;rw[<- Array.find?_toList]at e;unfold PySem.W.lookIn;rw[hd];dsimp only;split
 ·rename_i y q
  rw[q]at e;exact congrArg some e
 ·rename_i q
  rw[q]at e;have a:es.toList.any (·.refKey)=false:=by
   rw[List.any_eq_false];intro y hy;obtain⟨z,t,hkey⟩:=hk y (Array.mem_toList_iff.mp hy);simp[DictEntry.refKey,hkey]
  have a':¬es.toList.any (·.refKey)=true:=by rw[a];exact LC
  rw[if_neg a'];exact congrArg some e
def ko.some_of{v:V}{o:Option Value}(r:ko (some v) o):∃u,o=some u/\RelV v u:=by
 cases o with
 |none=>exact(show False from r).elim
 |some u=>exact⟨u,rfl,r⟩
def Ga{v:V}{u:Value}(r:RelV v u):PySem.W.handedIn u=true:=by
 cases v with
 |non=>cases(show u=Value.none from r);rfl
 |bl b=>cases(show u=Value.bool b from r);rfl
 |int i=>obtain⟨t,e⟩:=(show∃t,u=Value.int i t from r);cases e;rfl
 |str x=>obtain⟨t,e⟩:=(show∃t,u=Value.str x t from r);cases e;rfl
 |mB b=>obtain⟨t,e⟩:=(show∃t,u=Value.bytes b t from r);cases e;rfl
 |qF b=>obtain⟨t,e⟩:=(show∃t,u=Value.float b t from r);cases e;rfl
 |ref a=>cases(show u=Value.ref a from r);rfl
 |ty n=>cases(show u=Value.type n from r);rfl
structure Gb(K:Zfr)(C:Addr):Prop where
 pg:PySem.W.plainGet K C Str.empty=true
 hd:PySem.W.hasDictIn K C=true
 po:PySem.W.plainOver K C=true
 sa:PySem.W.findIn K (.ref C) "__setattr__" = some (some (.builtin "object.__setattr__"))
structure jM(K:Zfr)(C:Addr)(f:Str)(v:V)(u:Value):Prop where
 at_:PySem.W.findIn K (.ref C) f=some (some u)
 rel:RelV v u
 get:PySem.W.specialIn K u "__get__" = some none
 cp:PySem.W.copiedNames.contains f=false
section
variable {X:Cx}{pins:List (Addr×Obj)}{U:St}{H:Hp}{s:Shared}{a C dx:Addr}{fs:List (Str×V)}{f:Str}{v:V}{A:Around}{E:Value->Shared->Prop}
def Gd{prog:Program}{w:World}{env:Env}{e:Expr}{f:Str}{pos:Pos}{s:Shared}{Q:Value->Shared->Prop}(hb:attributeBase e f env (eval e env)=eval e env)
  (h:wpAny (model prog w) A (eval e env) (λo s₁=>wpAny (model prog w) A (getAttr o f true) Q E s₁) E s):wpAny (model prog w) A (eval (.Attribute e f pos) env) Q E s :=
 Attribute_any_ h (by rw[arm_eval_Attribute,hb])
end
section
variable {X:Cx}{pins:List (Addr×Obj)}{U:St}{H:Hp}{s:Shared}{A:Around}{E:Value->Shared->Prop}{Q:Value->Shared->Prop}{c:Value}{b:Bool}
inductive gJ(K:Zfr)(H:Hp):V->Value->Prop where
 |non:gJ K H .non (.type "NoneType")
 |bl (x:Bool):gJ K H (.bl x) (.type "bool")
 |int (i:Int):gJ K H (.int i) (.type "int")
 |str (x:Str):gJ K H (.str x) (.type "str")
 |qF (x:UInt64):gJ K H (.qF x) (.type "float")
 |lst {a:Addr} {xs:List V} (e:H a=some (.lst xs)):gJ K H (.ref a) (.type "list")
 |gR {a:Addr} {o:Obj} {xs:List V} (e:H a=some (.gR o (.lst xs))):gJ K H (.ref a) (.type "list")
 |tup {a:Addr} {xs:List V} (e:H a=some (.tup xs)):gJ K H (.ref a) (.type "tuple")
 |dK {a:Addr} {kvs:List (Key×V)} (e:H a=some (.dK kvs)):gJ K H (.ref a) (.type "dict")
 |dT {a:Addr} {kvs:List (List Key×V)} (e:H a=some (.dT kvs)):gJ K H (.ref a) (.type "dict")
 | ins {a C dx:Addr} {fs:List (Str×V)} (e:H a=some (.ins C dx fs)) (cl:Gb K C) (ha:PySem.W.findIn K (.ref C) "__class__" = some (some (.builtin "object.__class__")))
   (hn:PySem.W.specialIn K (.builtin "object.__class__") "__get__" = some (some (.builtin "getset_descriptor.__get__"))) (htk:PySem.W.takesIn K (.builtin "object.__class__")=some true)
   (hm:PySem.W.mroIn K C (.type "object")=some true):gJ K H (.ref a) (.ref C)
end
structure bL(k:Nat)(A:Around):Prop where
 hd:A.handled=none
 dp:A.depth+3*k+5<recursionLimit
 un:A.units+16*k+200<cLine
 gd:A.guards=some []
def bL.mono{j k:Nat}{A:Around}(r:bL k A)(h:j<=k):bL j A:=⟨r.hd,by have:=r.dp;lk,by have:=r.un;lk,r.gd⟩
def bL.deeper{k:Nat}{A:Around}(r:bL (k+1) A)(env:Env):bL k (A.deeper env) :=
 ⟨r.hd,by have:=r.dp;show A.depth+1+3*k+5<_;lk,by have:=r.un;show A.units+3+16*k+200<_;lk,r.gd⟩
def Ge{A:Around}{C:Addr}{us:List Value}{kw:List (Str×Value)}:(A.under (.builtin "type.__call__" ⟨.ref C :: us,kw⟩)).depth=A.depth+1:=by first|rfl|simp[Around.under,Code.weight,Code.isCreation,Code.isGuard,Code.isCaller,Code.frames,Code.isFrame,guardIds]
def Gf{A:Around}{C:Addr}{us:List Value}{kw:List (Str×Value)}:(A.under (.builtin "type.__call__" ⟨.ref C :: us,kw⟩)).units=A.units+1:=by first|rfl|simp[Around.under,Code.cUnits,Code.frames,Code.isFrame]
def Gg{A:Around}{C:Addr}{us:List Value}{kw:List (Str×Value)}:(A.under (.builtin "type.__call__" ⟨.ref C :: us,kw⟩)).guards=A.guards:=by first|rfl|simp[Around.under,Code.guards,Code.isGuard,pushGuards,guardIds]
def bL.make{k:Nat}{A:Around}(r:bL (k+1) A)(C:Addr)(us:List Value)(kw:List (Str×Value)):bL k (A.under (.builtin "type.__call__" ⟨.ref C :: us,kw⟩)) :=
 ⟨r.hd,by have:=r.dp;rw[Ge];lk,by have:=r.un;rw[Gf];lk,by rw[Gg];exact r.gd⟩
def bL.depth{k:Nat}{A:Around}(r:bL k A):A.depth<recursionLimit:=by have:=r.dp;lk
def bL.units{k:Nat}{A:Around}(r:bL k A):A.units+64<cLine:=by have:=r.un;lk
abbrev mZ:TA:=λ_ H Q=>Q [] H
abbrev jN(ta:TE)(tr:TA):TA:=λU H Q=>ta U H λx H1=>tr U H1 λxs H2=>Q (x :: xs) H2
section
variable {X:Cx}{e:Expr}{es:List Expr}{te:TE}{t:TA}{pos:Pos}
def az:PA X [] mZ:=λ_ _ _ _ H Q I h=>Calls.spliced_nil ⟨[],H,I,.nil,h⟩
def bG(ha:PE X e te)(hr:PA X es t)(hs:starEach (e :: es) X.env=(false,eval e X.env) :: starEach es X.env:=by rfl):PA X (e :: es) (jN te t):=by intro pos pins s U H Q I h;rw[hs];show wpAny _ _ (spliced ((false,eval e X.env) :: backTo pos (starEach es X.env))) _ _ s;refine Calls.spliced_cons (aP (ha pins s U H _ I h) λu s1 ⟨x,H1,I1,r1,q1⟩=>?_);exact aP (hr pos pins s1 U H1 _ I1 q1) λus s2 ⟨xs,H2,I2,r2,q2⟩=>⟨x :: xs,H2,I2,.cons r1 r2,q2⟩
abbrev vp(t:TA):TE:=λU H Q=>t U H λxs H1=>xs.length<=sizeLine/\∀p,H1 p=none->Q (.ref p) (upd H1 p (.tup xs))
abbrev vq(t:TA):TE:=λU H Q=>t U H λxs H1=>xs.length<=sizeLine/\∀p,H1 p=none->Q (.ref p) (upd H1 p (.lst xs))
def m8{x1}(h:PA X es t):PE X (.Tuple es x1 pos) (vp t):=by intro pins s U H Q I hq;refine wpAny_Tuple_spliced (aP (h pos pins s U H _ I hq) λus s1 ⟨xs,H1,I1,r,z,q⟩=>⟨by rw[<- r.length];exact z,?_⟩);have hf:H1 s1.heap.objs.size=none:=I1.hok.fresh (LI _);refine⟨.ref s1.heap.objs.size,upd H1 s1.heap.objs.size (.tup xs),I1.laid (t':=s1.toks) (λb u e=>LA _ e) (LI _) ?_,rfl,q _ hf⟩;exact⟨z,us,r,⟨_,LJ _ rfl,rfl,rfl,_,rfl⟩⟩
def kB(h:PA X es t):PE X (.List es pos) (vq t):=by intro pins s U H Q I hq;refine wpAny_List_spliced (aP (h pos pins s U H _ I hq) λus s1 ⟨xs,H1,I1,r,z,q⟩=>⟨by rw[<- r.length];exact z,?_⟩);have hf:H1 s1.heap.objs.size=none:=I1.hok.fresh (LI _);refine⟨.ref s1.heap.objs.size,upd H1 s1.heap.objs.size (.lst xs),I1.laid (t':=s1.toks) (λb u e=>LA _ e) (LI _) ?_,rfl,q _ hf⟩;exact⟨z,us,0,r,LJ _ rfl⟩
end
@[reducible]def Sp:=List V->Hp->VK->XK->Prop
@[reducible]def iY:=List Env->Hp->Shared->XK->Value->Shared->Prop
structure jf(P:Program)(w:World)(K:Zfr)(mg:Str->Option Value)(base:Heap)(A:Around)(outer:List Env)(s:Shared)(H:Hp):Prop where
 frames:A.frames=some outer
 mod:Mod K mg base
 bs:∀b o,base.get? b=some o->s.heap.get? b=some o/\H b=none
 je:base.objs.size<=s.heap.objs.size
 eX:s.heap.FunFrames base outer
 mR:∀b∈frs outer,H b=none
 hok:ey P w H s.heap
 bare:AllBare s.gens
abbrev CE(outer:List Env)(P:Program)(w:World)(H:Hp)(s:Shared)(Q:VK)(u:Value)(s':Shared):Prop :=
 ∃v H',s'.os=s.os/\AllBare s'.gens/\Un (frs outer) [] H H' s.heap s'.heap/\ey P w H' s'.heap/\RelV v u/\Q v H'
abbrev CR(CX:iY)(outer:List Env)(P:Program)(w:World)(H:Hp)(s:Shared)(Q:VK)(E:XK)(r:Result)(s':Shared):Prop :=
 match r with
 |.ok (.ret u)=>CE outer P w H s Q u s'
 |.ok _=>False
 |.error e=>CX outer H s E e s'
structure aN(P:Program)(w:World)(K:Zfr)(mg:Str->Option Value)(base:Heap)(CX:iY)(k:Nat)(f:Addr)(fd:FuncData)(ps:List Str)(sp:Sp):Prop where
 len:∀vs H Q E,sp vs H Q E->vs.length=ps.length
 run:∀(A:Around) (outer:List Env) (s:Shared) (H:Hp) (args:Args) (us:List Value) (vs:List V) (Q:VK) (E:XK),bL k A->jf P w K mg base A outer s H->BindsTo s fd args (ps.zip us)->Vals vs us->sp vs H Q E ->
  codeAny (model P w) A (.call (.ref f) args) (CR CX outer P w H s Q E) s
def aN.imp{P:Program}{w:World}{K:Zfr}{mg:Str->Option Value}{base:Heap}{CX:iY}{k:Nat}{f:Addr}{fd:FuncData}{ps:List Str}{sp C4:Sp}(F:aN P w K mg base CX k f fd ps sp)
  (h:∀vs H Q E,C4 vs H Q E->sp vs H Q E):aN P w K mg base CX k f fd ps C4 :=
 ⟨λvs H Q E q=>F.len vs H Q E (h _ _ _ _ q),λA outer s H args us vs Q E hr he hb hv hs=>F.run A outer s H args us vs Q E hr he hb hv (h _ _ _ _ hs)⟩
def jf.make{P:Program}{w:World}{K:Zfr}{mg:Str->Option Value}{base:Heap}{A:Around}{outer:List Env}{s:Shared}{H:Hp}(e:jf P w K mg base A outer s H)(C:Addr)(us:List Value)(kw:List (Str×Value)):
  jf P w K mg base (A.under (.builtin "type.__call__" ⟨.ref C :: us,kw⟩)) outer s H:=⟨by first|exact e.frames|(simpa[Around.under,Code.envs,Code.isFrame,pushEnvs]using e.frames),e.mod,e.bs,e.je,e.eX,e.mR,e.hok,e.bare⟩
section
variable {X:Cx}{pins:List (Addr×Obj)}{U:St}{H:Hp}{s s':Shared}
def Inv.oN(I:Inv X pins U H s):jf X.prog X.w X.K X.mg X.base X.A X.stack s H :=
 ⟨I.ok.frames,I.ok.mod,I.bs,L5 I.ok.je I.sz,I.stack,I.dn,I.hok,I.bare⟩
def Inv.after{Q:VK}{u:Value}(I:Inv X pins U H s)(h:CE X.stack X.prog X.w H s Q u s'):EP X pins U Q u s':=by obtain⟨v,H',os,bare,un,hok,r,q⟩:=h;obtain⟨hh,g,d,t,os'⟩:=s';obtain rfl:os'=s.os:=os;exact⟨v,H',I.call (h':=hh) (g':=g) (d':=d) (t':=t) (ch:=[]) un hok bare (λb z=>absurd z (by simp)),r,q⟩
end
abbrev g8(sp:Sp)(jO:List V)(E:XK)(t:TA):TE:=λU H Q=>t U H λvs H1=>sp (vs ++ jO) H1 Q E
abbrev Binds(K:Zfr)(fd:FuncData)(ps:List Str)(ds:List Value):Prop :=
 ∀(s:Shared) (us:List Value),K.In s.heap->(us ++ ds).length=ps.length->BindsTo s fd ⟨us,[]⟩ (ps.zip (us ++ ds))
def Binds.all{K:Zfr}{fd:FuncData}{ps:List Str}(h:∀us:List Value,us.length=ps.length->bindArgs fd ⟨us,[]⟩=pure (ps.zip us)):Binds K fd ps []:=λs us _ hl=>by
 rw[Mp]at hl ⊢;exact .of_eq (h us hl)
abbrev Passes(CX:iY)(X:Cx)(E:XK):Prop:=∀(pins:List (Addr×Obj)) (U:St) (H:Hp) (s:Shared) (e:Value) (s':Shared),Inv X pins U H s->CX X.stack H s E e s'->X.xe e s'
section
variable {X:Cx}{CX:iY}{k:Nat}{f C:Addr}{fd:FuncData}{ps:List Str}{sp:Sp}{jO:List V}{ds:List Value}{E:XK}{x m:Str}{p pos apos:Pos}{e o:Expr}{es:List Expr}{ta:TE}{t:TA}
def C5{pins:List (Addr×Obj)}{U:St}{H:Hp}{s:Shared}{Q:VK}{us:List Value}{vs:List V}(F:aN X.prog X.w X.K X.mg X.base CX k f fd ps sp)(hr:bL k X.A)(hb:Binds X.K fd ps ds)(hd:Vals jO ds)(hx:Passes CX X E)
  (I:Inv X pins U H s) (r:Vals vs us) (h:sp (vs ++ jO) H Q E):wpAny (model X.prog X.w) X.A (call (.ref f) us) (EP X pins U Q) X.xe s:=by
 have r2:Vals (vs ++ jO) (us ++ ds):=r.append hd;have hl:(us ++ ds).length=ps.length:=by rw[<- r2.length];exact F.len _ _ _ _ h
 refine wpAny_call (codeAny_mono (F.run X.A X.stack s H ⟨us,[]⟩ (us ++ ds) (vs ++ jO) Q E hr I.oN (hb s us I.iG hl) r2 h) λr s' hq=>?_);cases r with
 |error e=>exact hx pins U H s e s' I hq
 |ok fl =>
  cases fl with
  |ret u=>exact I.after hq
  |next=>exact False.elim hq
  |brk=>exact False.elim hq
  |cont=>exact False.elim hq
def An(F:aN X.prog X.w X.K X.mg X.base CX k f fd ps sp)(hr:bL k X.A)(hg:Gl X x)(hm:X.mg x=some (.ref f))(hk:PySem.W.keepIn X.K (.ref f)=true)(hb:Binds X.K fd ps ds)(hd:Vals jO ds)(hx:Passes CX X E)
  (ha:PA X (e :: es) t) (hdb:(x == ("__debug__" : Str))=false:=by decide) (he:starEach (e :: es) X.env=(false,eval e X.env) :: starEach es X.env:=by rfl) (hpl:(backTo pos (starEach es X.env)).any (·.1)=false:=by rfl) :
  PE X (.Call (.Name x p) (e :: es) [] pos) (g8 sp jO E t):=by
 intro pins s U H Q I h;refine wpAny_Call_Name_kw (qK I hg hm ?_ hdb);refine PySem.W.callWith_K (h₀:=X.base) I.ok.mod.oF hk (aP (ha pos pins s U H _ I h) λus s1 ⟨vs,H1,I1,r,q⟩=>⟨I1.iG,?_⟩) he hpl;exact C5 F hr hb hd hx I1 r q
def Gh(F:aN X.prog X.w X.K X.mg X.base CX k f fd ps sp)(hr:bL k X.A)(hg:Gl X x)(hm:X.mg x=some (.ref f))(hk:PySem.W.keepIn X.K (.ref f)=true)(hb:Binds X.K fd ps ds)(hd:Vals jO ds)(hx:Passes CX X E)
  (hdb:(x == ("__debug__" : Str))=false:=by decide):PE X (.Call (.Name x p) [] [] pos) (g8 sp jO E mZ):=by
 intro pins s U H Q I h;refine wpAny_Call_Name_kw (qK I hg hm ?_ hdb);exact PySem.W.callWith_K0 I.iG hk (C5 (us:=[]) F hr hb hd hx I .nil h)
end
structure aA(N P:List Str)(sc:Scope):Prop where
 kind:sc.kind=.function
 co:sc.isCoroutine=false
 gen:sc.isGenerator=false
 nd:N.Nodup
 pre:N.take P.length=P
 par:∀x∈P,sc.names.lookup x=some .local\/sc.names.lookup x=some .cell
 ng:∀y∈sc.names,y.2≠.free
def C6{kindOf:Str->Option NameKind}{x:Str}:∀{binds:List (Str×Value)} {m:Str->Option Value},(∀v,(x,v) ∉ binds)->bindL kindOf binds m x=m x
 |[],_,_=>rfl
 |(n,v) :: r,m,h=>by
  unfold bindL;rw[C6 λw hw=>h w (LQ _ hw)];split
  have:x≠n:=by rintro rfl;exact h v LL
  simp[this];rfl
def C7{kindOf:Str->Option NameKind}{x:Str}:∀{binds:List (Str×Value)} {m:Str->Option Value},(∀v,(x,v) ∉ binds)->bindC kindOf binds m x=m x
 |[],_,_=>rfl
 |(n,v) :: r,m,h=>by
  unfold bindC;rw[C7 λw hw=>h w (LQ _ hw)];split;rfl
  have:x≠n:=by rintro rfl;exact h v LL
  simp[this]
def Ao{kindOf:Str->Option NameKind}{x:Str}{v:Value}:∀{P:List Str} {vs:List Value} {i:Nat} {m:Str->Option Value},P.Nodup->P[i]?=some x->vs[i]?=some v->kindOf x=some .local ->
  bindL kindOf (P.zip vs) m x=some v
 |[],_,_,_,_,h,_,_=>by simp at h
 |_ :: _,[],_,_,_,_,h,_=>by simp at h
 |p :: P,w :: vs,0,m,nd,h1,h2,hk=>by
  simp at h1 h2;subst h1;subst h2;show bindL kindOf ((p,w) :: P.zip vs) m p=_;unfold bindL;rw[C6 λv hv=>(MU.mp nd).1 (M3 hv).1,if_pos hk];simp
 |p :: P,w :: vs,i+1,m,nd,h1,h2,hk=>by
  show bindL kindOf ((p,w) :: P.zip vs) m x=_;unfold bindL;exact Ao (i:=i) (MU.mp nd).2 (by simpa using h1) (by simpa using h2) hk
def Ap{kindOf:Str->Option NameKind}{x:Str}{v:Value}:∀{P:List Str} {vs:List Value} {i:Nat} {m:Str->Option Value},P.Nodup->P[i]?=some x->vs[i]?=some v->kindOf x≠some .local ->
  bindC kindOf (P.zip vs) m x=some v
 |[],_,_,_,_,h,_,_=>by simp at h
 |_ :: _,[],_,_,_,_,h,_=>by simp at h
 |p :: P,w :: vs,0,m,nd,h1,h2,hk=>by
  simp at h1 h2;subst h1;subst h2;show bindC kindOf ((p,w) :: P.zip vs) m p=_;unfold bindC;rw[C7 λv hv=>(MU.mp nd).1 (M3 hv).1,if_neg hk];simp
 |p :: P,w :: vs,i+1,m,nd,h1,h2,hk=>by
  show bindC kindOf ((p,w) :: P.zip vs) m x=_;unfold bindC;exact Ap (i:=i) (MU.mp nd).2 (by simpa using h1) (by simpa using h2) hk
abbrev start(N:List Str)(vs:List V):St:=vs.map some ++ List.replicate (N.length-vs.length) none
abbrev bC(CX:iY)(P:Program)(w:World)(K:Zfr)(mg:Str->Option Value)(base:Heap)(N:List Str)(qual:Str)(scope:Scope)(f:Addr)(cd:Value)(A:Around)(outer:List Env)(s:Shared)(H:Hp)(E:XK):Cx where
 prog:=P
 w:=w
 K:=K
 mg:=mg
 base:=base
 A:=A.deeper (envOfC qual scope s.heap.objs.size f cd)
 N:=N
 s₀:=s
 H₀:=H
 env:=envOfC qual scope s.heap.objs.size f cd
 outer:=outer
 stack:=envOfC qual scope s.heap.objs.size f cd :: outer
 ex:=[]
 calm:=true
 fn:=λ_=>true
 pn:=[]
 xe:=λe s'=>wpAny (model P w) (A.deeper (envOfC qual scope s.heap.objs.size f cd)) («leaving» (envOfC qual scope s.heap.objs.size f cd) e) (λ_ s''=>CX outer H s E e s'') (λe' s''=>CX outer H s E e' s'') s'
def yE{sc:Scope}{n:Nat}{x:Str}(h:sc.names.lookup x=some .cell):∃c,(cellsFrom n sc.names []).lookup x=some c:=by have q:=PySem.W.cellsFrom_some sc.names n [] (.inl h);exact Mj.mp q
def Gi{CX:iY}{P:Program}{w:World}{K:Zfr}{mg:Str->Option Value}{base:Heap}{N ps:List Str}{qual:Str}{scope:Scope}{f:Addr}{cd:Value}{A:Around}{outer:List Env}{s s1:Shared}{H:Hp}{E:XK}{us:List Value}{vs:List V}
  (S:aA N ps scope) (hd:A.handled=none) (e0:jf P w K mg base A outer s H) (hl:vs.length=ps.length) (r:Vals vs us)
  (x:InCallC s s.heap.objs.size (bindL (envOfC qual scope s.heap.objs.size f cd).kindOf (ps.zip us) λ_=>none) (cellsFrom (s.heap.objs.size+1) scope.names []) (bindC (envOfC qual scope s.heap.objs.size f cd).kindOf (ps.zip us) λ_=>none) s1) :
  Inv (bC CX P w K mg base N qual scope f cd A outer s H E) [] (start N vs) H s1:=by
 have hpl:ps.length<=N.length:=by have:=congrArg List.length S.pre;rw[LW]at this;lk
 obtain⟨h1,tk,rfl,hk⟩:=x.done;have oO:∀b:Addr,b ∉ (bC CX P w K mg base N qual scope f cd A outer s H E).ex:=λb z=>absurd (show b∈([]:List Addr)from z) (by simp)
 refine⟨⟨e0.mod,S.kind,rfl,rfl,LI _,λy z c h1 h2=>?_,λy hy=>?_,λy c _ h=>?_,λ_=>hd,Around.frames_deeper e0.frames,.inr ⟨rfl,rfl⟩,λb z=>absurd z (oO b),e0.bs,e0.je,λb _ _=>oO b,λb z=>absurd z (oO b),e0.eX,e0.mR⟩,
  rfl,e0.bare,Un.kept hk,⟨_,x.toInCall.ns,λi y v h1 h2 h3=>?_⟩,λy c h=>⟨_,x.cell y c h⟩,e0.hok.fresh (LI _),λy c h=>?_,λp hp=>absurd (show p∈([]:List (Addr×Obj))from hp) (by simp),e0.hok.kept hk,?_⟩
 exact name_of_addr x.apart (PySem.mem_of_lookup h1) (PySem.mem_of_lookup h2);have hy:scope.names.lookup y=some .cell\/scope.names.lookup y=some .free:=hy;rcases hy with hy|hy
 exact yE hy;exact absurd rfl (S.ng _ (PySem.mem_of_lookup hy));exact MG (x.above y c (PySem.mem_of_lookup h));have hi:i < vs.length:=by
  unfold start at h2;by_cases hi:i<vs.length;exact hi;rw[LV (by simpa using hi)]at h2;rw[Ms]at h2;split at h2<;>cases h2
 have ha:vs[i]?=some v:=by
  unfold start at h2;rw[L0 (by simpa using hi),L3]at h2;cases e:vs[i]? with
  |none=>rw[e]at h2;cases h2
  |some a=>rw[e]at h2;cases h2;rfl
 obtain⟨u,hu,rv⟩:=r.get ha;have hp:ps[i]?=some y:=by
  rw[<- S.pre,List.getElem?_take_of_lt ⋯];exact h1
 have vt:ps.Nodup:=by rw[<- S.pre];exact S.nd.sublist (List.take_sublist _ _)
 refine⟨u,rv,?_⟩;rcases S.par y (L6 hp)with k|k
 exact .inl ⟨k,Ao vt hp hu k⟩;obtain⟨c,e⟩:=yE (n:=s.heap.objs.size+1) k;refine .inr ⟨.inl k,c,e,?_⟩;have q:=x.cell y c e;rw[Ap vt hp hu (by show scope.names.lookup y≠_;rw[k];decide)]at q;exact q;exact e0.hok.fresh (MG (x.above y c (PySem.mem_of_lookup h)));unfold start;show _=N.length;rw[LP,LG,Mk];lk
def pO{CX:iY}{P:Program}{w:World}{K:Zfr}{mg:Str->Option Value}{base:Heap}{k:Nat}{f:Addr}{name qual:Str}{params:Arguments}{body:List Stmt}{scope:Scope}{dV kV doc pm cdv ct oc:Value}{an od:Option Addr}
  {osl:Array (Option Value)} {N ps:List Str} {sp:Sp} (lk:K.lookup f=some ⟨oc,od,.func (PySem.W.fnOf name qual params body scope dV kV doc pm an cdv ct),osl⟩) (hcd:PySem.W.codeIn K cdv qual=true) (S:aA N ps scope)
  (len:∀vs H Q E,sp vs H Q E->vs.length=ps.length)
  (hbody:∀(A:Around) (outer:List Env) (s:Shared) (H:Hp) (vs:List V) (Q:VK) (E:XK),bL k (A.deeper (envOfC qual scope s.heap.objs.size f cdv))->sp vs H Q E ->
   ∃t,iT (bC CX P w K mg base N qual scope f cdv A outer s H E) body t/\t { nx:=λ_ H'=>Q .non H',rt:=Q } (start N vs) H) :
  aN P w K mg base CX (k+1) f (PySem.W.fnOf name qual params body scope dV kV doc pm an cdv ct) ps sp:=by
 refine⟨len,λA outer s H args us vs Q E hr e0 hb r jP=>?_⟩;have hl:=len _ _ _ _ jP;have KX:K.In s.heap:=e0.mod.oF.keeps λb o e=>(e0.bs b o e).1;have lim:s.heap.NoLimit:=e0.mod.nolimit.keeps λb o e=>(e0.bs b o e).1;have hkind:∀y∈ps.zip us,scope.names.lookup y.1=some .local\/(scope.names.lookup y.1=some .cell/\((cellsFrom (s.heap.objs.size+1) scope.names []).lookup y.1).isSome=true):=λ⟨n,v⟩ hy=>by
  rcases S.par n (M3 hy).1 with q|q
  ·exact .inl q
  ·exact .inr ⟨q,PySem.W.cellsFrom_some _ _ _ (.inl q)⟩
 refine codeAny_call_function hr.depth (KX _ _ lk) rfl S.co S.gen rfl (PySem.W.codeRec_of KX hcd) (hb _ _ _ _ ?_);refine wpAny_newFunctionEnv_cells S.kind hkind λenv he s1 x=>?_;subst he;refine⟨lim.keeps x.toInCall.keep,codeAny_func ?_⟩;obtain⟨t,ht,hq⟩:=hbody A outer s H vs Q E (hr.deeper _) jP;have I:Inv (bC CX P w K mg base N qual scope f cdv A outer s H E) [] (start N vs) H s1:=Gi S hr.hd e0 hl r x;refine wpAny_mono (ht [] s1 (start N vs) H _ I hq) (λfl s' hs=>?_) λe s' hs=>hs;have fin:∀{U':St} {H':Hp} {v:V} {u:Value},Inv (bC CX P w K mg base N qual scope f cdv A outer s H E) [] U' H' s'->RelV v u->Q v H'->CE outer P w H s Q u s' :=
  λ{U' H' v u} J rv q=>⟨v,H',J.os,J.bare,J.base,J.hok,rv,q⟩
 cases fl with
 |ret u =>
  obtain⟨v,U',H',J,rv,q⟩:=hs;exact fin J rv q
 |next =>
  obtain⟨U',H',J,q⟩:=hs;exact fin (v:=V.non) (u:=Value.none) J rfl q
 |brk =>
  obtain⟨_,_,_,q⟩:=hs;exact False.elim q
 |cont =>
  obtain⟨_,_,_,q⟩:=hs;exact False.elim q
section
variable {X:Cx}{x:Str}{p pos:Pos}{e:Expr}{es:List Expr}{t:TA}{id T:String}{r:List V->Hp->VK->Prop}
abbrev vv(r:List V->Hp->VK->Prop)(t:TA):TE:=λU H Q=>t U H λvs H1=>r vs H1 Q
def dt(hc:dX X (.builtin id) r)(hg:Gl X x)(hm:X.mg x=none)(hv:bootBuiltins x=some (.builtin id))(ha:PA X (e :: es) t)(hn:x≠"__name__" := by decide)(hdb:(x == ("__debug__" : Str))=false:=by decide)
  (he:starEach (e :: es) X.env=(false,eval e X.env) :: starEach es X.env:=by rfl) (hpl:(backTo pos (starEach es X.env)).any (·.1)=false:=by rfl):PE X (.Call (.Name x p) (e :: es) [] pos) (vv r t):=by
 intro pins s U H Q I h;refine wpAny_Call_Name_kw (ua I hg hm hv ?_ hn hdb);exact PyProof.Rows.callWith_builtin1 (aP (ha pos pins s U H _ I h) λus s1 ⟨vs,H1,I1,r1,q1⟩=>hc pins s1 U H1 vs us Q I1 r1 q1) he hpl
def mC(hc:dX X (.type T) r)(hg:Gl X x)(hm:X.mg x=none)(hv:bootBuiltins x=some (.type T))(ha:PA X (e :: es) t)(hn:x≠"__name__" := by decide)(hdb:(x == ("__debug__" : Str))=false:=by decide)
  (he:starEach (e :: es) X.env=(false,eval e X.env) :: starEach es X.env:=by rfl) (hpl:(backTo pos (starEach es X.env)).any (·.1)=false:=by rfl):PE X (.Call (.Name x p) (e :: es) [] pos) (vv r t):=by
 intro pins s U H Q I h;refine wpAny_Call_Name_kw (ua I hg hm hv ?_ hn hdb);exact PyProof.Rows.callWith_type1 (aP (ha pos pins s U H _ I h) λus s1 ⟨vs,H1,I1,r1,q1⟩=>hc pins s1 U H1 vs us Q I1 r1 q1) he hpl
end
end L2
namespace HT
open PySem PyProof.Rows
section
variable {prog:Program}{w:World}{A:Around}{E:Value->Shared->Prop}{s:Shared}
abbrev iZ(n d:Nat):Option Int->Nat
 |none=>d
 |some v=>if v<0 then(v+(n:Int)).toNat else min v.toNat n
def C8(n d:Nat):iZ n d none=d:=rfl
def yF(n d k:Nat):iZ n d (some (k:Int))=min k n:=by show(if(k:Int)<0 then((k:Int)+(n:Int)).toNat else min (k:Int).toNat n)=min k n;rw[if_neg ⋯,MF]
end
end HT
namespace L2
open PySem PySem.Spec PyProof.Rows
@[reducible]def TO:=St->Hp->(Option Int->Hp->Prop)->Prop
abbrev PO(X:Cx)(e:Option Expr)(t:TO):Prop :=
 ∀(pins:List (Addr×Obj)) (s:Shared) (U:St) (H:Hp) (Q:Option Int->Hp->Prop),Inv X pins U H s->t U H Q ->
  wpAny (model X.prog X.w) X.A (evalPart e X.env) (λu s'=>∃o H',Inv X pins U H' s'/\IsPart u o/\Q o H') X.xe s
abbrev lj:TO:=λ_ H Q=>Q none H
abbrev pP(t:TE):TO:=λU H Q=>t U H λx H1=>∃i,x=.int i/\Q (some i) H1
section
variable {X:Cx}{e:Expr}{te:TE}{lo hi:Option Expr}{tl th:TO}{pos p2:Pos}
def jF:PO X none lj:=by intro pins s U H Q I h;rw[evalPart_none];exact wpAny_pure ⟨none,H,I,.none,h⟩
def i5(h:PE X e te):PO X (some e) (pP te):=by intro pins s U H Q I hw;rw[evalPart_some];refine aP (h pins s U H _ I hw) λu s1 ⟨x,H1,I1,r1,q1⟩=>?_;obtain⟨i,rfl,q⟩:=q1;obtain⟨t,rfl⟩:=r1;exact⟨some i,H1,I1,.int i t,q⟩
abbrev Aq(X:Cx)(r:V->Option Int->Option Int->Hp->VK->Prop):Prop :=
 ∀(pins:List (Addr×Obj)) (s:Shared) (U:St) (H:Hp) (x:V) (v vl vu:Value) (lo hi:Option Int) (sl:Addr) (Q:VK),Inv X pins U H s->RelV x v->s.heap.IsSliceOf sl vl vu .none->IsPart vl lo->IsPart vu hi->r x lo hi H Q ->
  ∃T id,typeLookup (.type T) "__getitem__" = pure (some (.builtin id))/\s.TypeIs v T/\wpAny (model X.prog X.w) X.A (getItem v (.ref sl)) (EP X pins U Q) X.xe s
abbrev C9(r:V->Option Int->Option Int->Hp->VK->Prop)(te:TE)(tl th:TO):TE:=λU H Q=>te U H λx H1=>tl U H1 λl H2=>th U H2 λu H3=>r x l u H3 Q
def jg{r:V->Option Int->Option Int->Hp->VK->Prop}(hr:Aq X r)(he:PE X e te)(hl:PO X lo tl)(hu:PO X hi th):PE X (.Subscript e (.Slice lo hi none p2) pos) (C9 r te tl th):=by intro pins s U H Q I h;refine Subscript_ (aP (he pins s U H _ I h) λv s1 ⟨x,H1,I1,r1,q1⟩=>?_);refine wpAny_Slice (aP (hl pins s1 U H1 _ I1 q1) λvl s2 ⟨l,H2,I2,pl,q2⟩=>aP (hu pins s2 U H2 _ I2 q2) λvu s3 ⟨u,H3,I3,pu,q3⟩=>?_);rw[evalPart_none];refine wpAny_pure ?_;have I4:Inv X pins U H3 { s3 with heap:=s3.heap.push { cls:=.type "slice",data:=.fields #[vl,vu,.none] } }:=I3.kept (t':=s3.toks) λb ob q=>LA _ q;obtain⟨T,id,hT,ht,hg⟩:=hr pins { s3 with heap:=s3.heap.push { cls:=.type "slice",data:=.fields #[vl,vu,.none] } } U H3 x v vl vu l u s3.heap.objs.size Q I4 r1 (Heap.IsSliceOf.new ..) pl pu q3;show wpAny (model X.prog X.w) X.A (subscriptTail e (.Slice lo hi none p2) v (.ref s3.heap.objs.size)) (EP X pins U Q) X.xe { s3 with heap:=s3.heap.push { cls:=.type "slice",data:=.fields #[vl,vu,.none] } };exact tail_any (ops:=[.ref s3.heap.objs.size,v]) ht hT hg (by with_unfolding_all rfl)
abbrev lY(xs:List V)(lo hi:Option Int):List V:=(xs.drop (HT.iZ xs.length 0 lo)).take (HT.iZ xs.length xs.length hi-HT.iZ xs.length 0 lo)
def Gj(xs:List V)(lo hi:Option Int):(lY xs lo hi).length<=xs.length:=by unfold lY;rw[LW,Me];lk
end
abbrev jG(n:Nat)(i:Int):Option Nat:=if 0<=i then(if i<n then some i.toNat else none)else if -(n:Int)<=i then some (i+n).toNat else none
abbrev fL{J:Type}(xs:List J)(i:Int):Option J:=(jG xs.length i).bind λj=>xs[j]?
def Dc{n:Nat}{i:Int}{j:Nat}(h:jG n i=some j):seqIndex? i n=some j/\j<n/\-(n:Int)<=i/\i<n:=by unfold jG at h;by_cases h0:0<=i;rw[if_pos h0]at h;by_cases h1:i<n;rw[if_pos h1]at h;have e:i.toNat=j:=LH h;exact⟨by rw[seqIndex_of h0 h1,e],by lk,by lk,h1⟩;rw[if_neg h1]at h;cases h;rw[if_neg h0]at h;by_cases h1:-(n:Int)<=i;rw[if_pos h1]at h;have e:(i+n).toNat=j:=LH h;exact⟨by rw[seqIndex_neg ⋯ h1,e],by lk,h1,by lk⟩;rw[if_neg h1]at h;cases h
def Dd{J:Type}{xs:List J}{i:Int}{v:J}(h:fL xs i=some v):∃j,seqIndex? i xs.length=some j/\xs[j]?=some v/\j<xs.length/\-(xs.length:Int)<=i/\i<xs.length:=by
 unfold fL at h;cases e:jG xs.length i with
 |none=>rw[e]at h;cases h
 |some j =>
  rw[e]at h;obtain⟨h1,h2,h3,h4⟩:=Dc e;exact⟨j,h1,h,h2,h3,h4⟩
def oP{J:Type}{xs:List J}{j:Nat}{v:J}(h:xs[j]?=some v):fL xs (j:Int)=some v:=by
 have hj:j<xs.length:=(LN.mp h).1;have e:jG xs.length (j:Int)=some j:=by
  unfold jG;rw[if_pos ⋯,if_pos ⋯];simp
 unfold fL;rw[e];exact h
abbrev oQ(b:Expr):Prop:=∀o i,subscripted b false o i=operate [o,i] (getItem o i)
abbrev Ar(X:Cx)(r:R2):Prop :=
 ∀(value slice:Expr) (pins:List (Addr×Obj)) (s:Shared) (U:St) (H:Hp) (x y:V) (v u:Value) (Q:VK),Inv X pins U H s->RelV x v->RelV y u->r x y H Q ->
  subscripted slice false v u=operate [v,u] (getItem v u)->wpAny (model X.prog X.w) X.A (subscriptTail value slice v u) (EP X pins U Q) X.xe s
abbrev De(X:Cx)(id:String)(r:V->List V->Hp->VK->Prop):Prop :=
 ∀(pins:List (Addr×Obj)) (s:Shared) (U:St) (H:Hp) (x:V) (xs:List V) (v:Value) (us:List Value) (Q:VK),Inv X pins U H s->RelV x v->Vals xs us->r x xs H Q ->
  wpAny (model X.prog X.w) X.A (call (.builtin id) (v :: us)) (EP X pins U Q) X.xe s
section
variable {X:Cx}{a b:Expr}{ta tb:TE}{pos:Pos}
def vw{r:R2}(hr:Ar X r)(ha:PE X a ta)(hb:PE X b tb)(hs:oQ b):PE X (.Subscript a b pos) (ui r ta tb):=by intro pins s U H Q I h;exact Subscript_ (qU ha hb I h λv u s2 x y H2 I2 rx ry q=>hr a b pins s2 U H2 x y v u Q I2 rx ry q (hs _ _))
abbrev vy(K:Zfr):R2:=λx y H Q=>∃p xs i v,x=.ref p/\y=.int i/\ez K H p xs/\fL xs i=some v/\Q v H
abbrev vz:R2:=λx y H Q=>∃z i c,x=.str z/\y=.int i/\z.length<=sizeLine/\fL z.cps.toList i=some c/\Q (.str ⟨#[c]⟩) H
def kg:Ar X (vy X.K):=by
 intro value slice pins s U H x y v u Q I rx ry h hs;obtain⟨p,xs,i,z,rfl,rfl,hq,he,q⟩:=h;cases rx;obtain⟨t,rfl⟩:=ry;obtain⟨its,r,pl,hz⟩:=I.list hq;obtain⟨j,h1,h2,h3,h4,h5⟩:=Dd he;obtain⟨w,ew,rw'⟩:=r.get h2;have hl:=r.length;have hn:=g7;have fin:EP X pins U Q w s:=⟨z,H,I,rw',q⟩;by_cases h0:0<=i;have hj:i.toNat=j:=by
  rw[seqIndex_of h0 h5]at h1;exact LH h1
 exact item_listR pl.isList h0 ⋯ (by rw[hj];simpa using ew) fin hs;have hj:(i + (its.toArray.size:Int)).toNat=j:=by
  rw[seqIndex_neg ⋯ h4]at h1;rw[LU,<- hl];exact LH h1
 exact subscriptTail_builtinR (x:=w) pl.isList.typeIs slot_list_getitem.lookup
  (wpAny_getItem_list_neg (Q:=λr s'=>r=w/\EP X pins U Q r s') pl.isList ⋯ (by rw[LU]<;>lk) ⋯ (by rw[hj];simpa using ew) ⟨rfl,fin⟩) hs
def yG:Ar X vz:=by
 intro value slice pins s U H x y v u Q I rx ry h hs;obtain⟨z,i,c,rfl,rfl,hz,he,q⟩:=h;obtain⟨t,rfl⟩:=rx;obtain⟨t',rfl⟩:=ry;obtain⟨j,h1,h2,h3,h4,h5⟩:=Dd he;have hl:z.cps.toList.length=z.length:=by simp[Str.length]
 rw[hl]at h1 h4 h5;have hn:=g7
 exact tail_any (typeIs_str s z t) slot_str_getitem.lookup (getItem_str (c:=c) (by
  have e1:decide (i < -(2 ^ 63:Int))=false:=decide_eq_false ⋯;have e2:decide (i >= 2 ^ 63)=false:=decide_eq_false ⋯
  rw[e1,e2,Bool.or_false]) (by rw[h1];simpa using h2) ⟨.str ⟨#[c]⟩,H,I.tok _,⟨_,rfl⟩,q⟩) hs
def Gk(its:List Value)(n j:Nat)(u:Value):Obj.mapSeq (·.setIfInBounds j u) { cls:=.type "list",data:=.seq its.toArray n }={ cls:=.type "list",data:=.seq (its.set j u).toArray n }:=by simp[Obj.mapSeq]
def Inv.lst{pins:List (Addr×Obj)}{U:St}{H:Hp}{s:Shared}{p:Addr}{xs:List V}(I:Inv X pins U H s)(h:H p=some (.lst xs)):
  ∃(its:List Value) (n:Nat),Vals xs its/\s.heap.get? p=some { cls:=.type "list",data:=.seq its.toArray n }/\xs.length<=sizeLine:=by
 obtain⟨z,its,n,r,e⟩:=I.hok p _ h;exact⟨its,n,r,e,z⟩
def Inv.q0{pins:List (Addr×Obj)}{U:St}{H:Hp}{s:Shared}{p:Addr}{xs ys:List V}{its its':List Value}{n n':Nat}{f:Obj->Obj}(I:Inv X pins U H s)(h:H p=some (.lst xs))
  (ho:s.heap.get? p=some { cls:=.type "list",data:=.seq its.toArray n }) (hf:f { cls:=.type "list",data:=.seq its.toArray n }={ cls:=.type "list",data:=.seq its'.toArray n' }) (r:Vals ys its') (hz:ys.length<=sizeLine) (t:Nat) :
  Inv X pins U (upd H p (.lst ys)) { s with heap:=s.heap.update p f,toks:=t }:=by
 have e:(s.heap.update p f).get? p=some { cls:=.type "list",data:=.seq its'.toArray n' }:=by
  rw[Ma f ho (by rw[hf]<;>rfl),hf]
 refine I.write (x:=p) (e:=p) (by rw[h];trivial) (.inl rfl) (λb u hb q=>(LY _ _ (Ne.symm hb)).trans q) ⟨_,e⟩ ?_;exact⟨hz,its',n',r,e⟩
abbrev pQ:V->V->V->Hp->(Hp->Prop)->Prop:=λo i v H Q=>∃p xs k j,o=.ref p/\i=.int k/\H p=some (.lst xs)/\jG xs.length k=some j/\Q (upd H p (.lst (xs.set j v)))
def yH:vb X pQ:=by
 intro pins s U H o i v ov iv u Q I ro ri rv h;obtain⟨p,xs,k,j,rfl,rfl,hp,hj,q⟩:=h;cases ro;obtain⟨t,rfl⟩:=ri;obtain⟨its,n,r,ho,hz⟩:=I.lst hp;obtain⟨h1,h2,h3,h4⟩:=Dc hj;have hl:=r.length;have hn:=g7;have I':Inv X pins U (upd H p (.lst (xs.set j v))) { s with heap:=s.heap.update p (Obj.mapSeq (·.setIfInBounds j u)) } :=
  I.q0 hp ho (Gk its n j u) (r.set rv j) (by rw[Mq];exact hz) s.toks
 by_cases h0:0<=k;have hk:k.toNat=j:=by
  rw[seqIndex_of h0 h4]at h1;exact LH h1
 exact PySem.W.ki_setAt ho h0 ⋯ (by rw[LU,<- hl];exact h4) (by rw[hk];exact⟨_,I',q⟩);have hk:(k + (its.toArray.size:Int)).toNat=j:=by
  rw[seqIndex_neg ⋯ h3]at h1;rw[LU,<- hl];exact LH h1
 exact PySem.W.ki_setBack ho ⋯ (by rw[LU,<- hl];exact h3) ⋯ (by rw[hk];exact⟨_,I',q⟩)
def Gm(lo hi:Option Int)(n:Nat):(sliceBounds lo hi none n).1=((HT.iZ n 0 lo:Nat):Int)/\(sliceBounds lo hi none n).2.1=((HT.iZ n n hi:Nat):Int)/\(sliceBounds lo hi none n).2.2=1:=by
 refine⟨?_,?_,rfl⟩;cases lo with
 |none=>simp[sliceBounds,HT.iZ]
 |some i =>
  simp only[sliceBounds,HT.iZ,Option.getD_none,show(1:Int) > 0 by decide,if_true];by_cases h:i<0;simp only[h,if_true]<;>lk;simp only[h,if_false]<;>lk
 cases hi with
 |none=>simp[sliceBounds,HT.iZ]
 |some i =>
  simp only[sliceBounds,HT.iZ,Option.getD_none,show(1:Int) > 0 by decide,if_true];by_cases h:i<0;simp only[h,if_true]<;>lk;simp only[h,if_false]<;>lk
def Gn(its:List Value)(lo hi:Option Int):slicePick its.toArray lo hi none=((its.drop (HT.iZ its.length 0 lo)).take (HT.iZ its.length its.length hi-HT.iZ its.length 0 lo)).toArray:=by obtain⟨h1,h2,h3⟩:=Gm lo hi its.toArray.size;unfold slicePick;rw[h1,h2,h3];simp only[sliceRange_one,pick_run,LU]<;>rfl
abbrev vA(K:Zfr):V->Option Int->Option Int->Hp->VK->Prop:=λx lo hi H Q=>∃a xs,x=.ref a/\ez K H a xs/\∀p,H p=none->Q (.ref p) (upd H p (.lst (lY xs lo hi)))
def pR:Aq X (vA X.K):=by intro pins s U H x v vl vu lo hi sl Q I rx hs pl pu h;obtain⟨a,xs,rfl,hx,q⟩:=h;cases rx;obtain⟨its,r,ht,hz⟩:=I.list hx;have hlen:=r.length;refine⟨"list",_,slot_list_getitem.lookup,ht.isList.typeIs,?_⟩;refine wpAny_getItem_list_slice ht.isList hs pl pu .none (by simp) ?_ (by rw[LU]<;>lk);rw[Gn,<- hlen];refine⟨.ref s.heap.objs.size,_,I.laid (t':=s.toks) (o:=.lst (lY xs lo hi)) (λb ob q=>LA _ q) (LI _) ?_,rfl,q _ (I.hok.fresh (LI _))⟩;exact⟨L5 (Gj xs lo hi) hz,_,0,(r.drop (HT.iZ xs.length 0 lo)).take (HT.iZ xs.length xs.length hi-HT.iZ xs.length 0 lo),LJ _ rfl⟩
def Gp:eY X (compareOp .NotIn) (λx y H Q=>∃i j,x=.str i/\y=.str j/\Q (.bl (!(!(Builtin.Str.occurrences j i 0 j.length 1).isEmpty))) H):=by intro pins s U H x y v u Q I rx ry h;obtain⟨i,j,rfl,rfl,q⟩:=h;obtain⟨t,rfl⟩:=rx;obtain⟨t',rfl⟩:=ry;exact notIn_str ⟨.bl _,H,I,rfl,q⟩
def pS:dX X (.builtin "len") (λxs H Q=>∃p ys,xs=[.ref p]/\(ez X.K H p ys\/ej X.K H p ys)/\Q (.int ys.length) H):=by
 intro pins s U H xs us Q I r h;obtain⟨p,ys,rfl,hq,q⟩:=h;obtain⟨u,rfl,rx⟩:=vals1 r;cases rx;have hn:=g7;rcases hq with hq|hq
 obtain⟨its,r',pl,hz⟩:=I.list hq;have hlen:=r'.length;exact Calls.call_len_list pl.isList (by simp only[LU]<;>lk) ⟨.int ys.length,H,I.tok _,⟨s.toks+1,by rw[LU,hlen]⟩,q⟩;obtain⟨its,r',pl,hz⟩:=I.tuple hq;have hlen:=r'.length;exact len_tuple pl (by simp only[LU]<;>lk) ⟨.int ys.length,H,I.tok _,⟨s.toks+1,by rw[LU,hlen]⟩,q⟩
def vB:dX X (.builtin "len") (λxs H Q=>∃z,xs=[.str z]/\z.length<=sizeLine/\Q (.int z.length) H):=by intro pins s U H xs us Q I r h;obtain⟨z,rfl,hz,q⟩:=h;obtain⟨u,rfl,t,rfl⟩:=vals1 r;have hn:=g7;exact len_str ⋯ ⟨.int z.length,H,I.tok _,⟨_,rfl⟩,q⟩
def As:dX X (.type "tuple") (λxs H Q=>∃p ys,xs=[.ref p]/\((ez X.K H p ys/\∀l,H l=none->Q (.ref l) (upd H l (.tup ys)))\/(ej X.K H p ys/\Q (.ref p) H))):=by
 intro pins s U H xs us Q I r h;obtain⟨p,ys,rfl,h⟩:=h;obtain⟨u,rfl,rx⟩:=vals1 r;cases rx;rcases h with⟨hq,q⟩|⟨hq,q⟩
 obtain⟨its,r',pl,hz⟩:=I.list hq;have hlen:=r'.length;refine call_tuple_list pl.isList (λh' kp=>?_) (by simp only[LU]<;>lk);have I1:Inv X pins U H { s with heap:=h' }:=I.kept (t':=s.toks) kp;have I2:Inv X pins U (upd H h'.objs.size (.tup ys)) { s with heap:=h'.push { cls:=.type "tuple",data:=.seq its.toArray } } :=
  I1.laid (t':=s.toks) (λb o e=>LA _ e) (LI _) (show aT X.prog X.w _ _ _ (.tup ys)from⟨hz,its,r',kq.new _ _⟩)
 exact⟨.ref h'.objs.size,_,I2,rfl,q _ (I1.hok.fresh (LI _))⟩;obtain⟨its,r',pl,hz⟩:=I.tuple hq;exact call_tuple_same pl ⟨.ref p,H,I,rfl,q⟩
abbrev Au(K:Zfr)(T:String)(x:V)(H:Hp):Prop:=match x with
 |.str _=>T="str"
 |.int _=>T="int"
 | .ref p=>(T="list" /\ ∃ xs,ez K H p xs)\/(T="tuple" /\ ∃ xs,ej K H p xs) \/
   (T="dict" /\ ((∃kvs,H p=some (.dK kvs))\/∃kvs,H p=some (.dT kvs)))\/(T="set" /\ ∃S n,H p=some (.set S n))
 |_=>False
def rg{pins:List (Addr×Obj)}{U:St}{H:Hp}{s:Shared}{T:String}{x:V}{v:Value}(I:Inv X pins U H s)(r:RelV x v)(ty:Au X.K T x H):
  s.TypeIs v T/\∀a,v=.ref a->∃ob,s.heap.get? a=some ob/\ob.dict=none:=by
 cases x with
 |str z =>
  obtain⟨t,rfl⟩:=r;cases(show T="str" from ty);exact⟨typeIs_str s z t,λ_ e=>nomatch e⟩
 |int i =>
  obtain⟨t,rfl⟩:=r;cases(show T="int" from ty);exact⟨typeIs_int s i t,λ_ e=>nomatch e⟩
 |ref p =>
  cases r;rcases ty with⟨rfl,xs,hq⟩|⟨rfl,xs,hq⟩|⟨rfl,hk⟩|⟨rfl,S,n,hk⟩
  obtain⟨its,_,pl,_⟩:=I.list hq;refine⟨pl.isList.typeIs,λa e=>?_⟩;cases e;obtain⟨o,n,e,c,hd,_⟩:=pl;exact⟨o,e,hd⟩;obtain⟨its,_,⟨o,e,c,d,_⟩,_⟩:=I.ky hq;refine⟨⟨o,e,c⟩,λa e2=>?_⟩;cases e2;exact⟨o,e,d⟩;have z:∃ o,s.heap.get? p=some o/\o.ExactDict:=by
   rcases hk with⟨kvs,hk⟩|⟨kvs,hk⟩
   obtain⟨_,_,_,_,o,_,_,e,ex,_⟩:=I.hok p _ hk;exact⟨o,e,ex⟩;obtain⟨_,_,_,_,o,_,_,e,ex,_⟩:=I.hok p _ hk;exact⟨o,e,ex⟩
  obtain⟨o,e,ex⟩:=z;refine⟨⟨o,e,ex.1⟩,λa e2=>?_⟩;cases e2;exact⟨o,e,ex.2.1⟩;obtain⟨o,_,_,_,e,ex,_⟩:=I.hok p _ hk;refine⟨⟨o,e,ex.1⟩,λa e2=>?_⟩;cases e2;exact⟨o,e,ex.2.1⟩
 |_=>exact False.elim ty
abbrev Df(K:Zfr)(T:String)(r:V->List V->Hp->VK->Prop)(to:TE)(t:TA):TE:=λU H Q=>to U H λx H1=>Au K T x H1/\t U H1 λxs H2=>r x xs H2 Q
variable {o e:Expr}{es:List Expr}{to:TE}{t:TA}{name:Str}{apos cpos:Pos}{T id:String}{r:V->List V->Hp->VK->Prop}
def mD(pa:PlainAttrs T)(slot:Slot T name id)(hty:typeOf (.builtin id)=pure (.type "method_descriptor"))(hm:De X id r)(ho:PE X o to)(ha:PA X (e :: es) t)
  (hbase:attributeBase o name X.env (eval o X.env)=eval o X.env:=by rfl)
  (hfew:((backTo cpos (starEach (e :: es) X.env)).all (λx=>!x.1) && (backToKw cpos (keywordEach [] X.env)).all (λx=>x.1.isSome)
   && decide ((e :: es).length+([]:List Keyword).length+(if([]:List Keyword).isEmpty then 0 else 1)<30))=true:=by rfl)
  (hline:(apos.endLine == cpos.line)=true:=by rfl) (hs:starEach (e :: es) X.env=(false,eval e X.env) :: starEach es X.env:=by rfl) (hplain:(backTo cpos (starEach es X.env)).any (·.1)=false:=by rfl) :
  PE X (.Call (.Attribute o name apos) (e :: es) [] cpos) (Df X.K T r to t):=by
 intro pins s U H Q I h;refine wpAny_Call_method_late hbase hfew hline rfl (aP (ho pins s U H _ I h) λv s1 ⟨x,H1,I1,r1,ty,q1⟩=>?_);obtain⟨h1,h2⟩:=rg I1 r1 ty;refine⟨T,id,pa,slot,hty,h1,h2,?_⟩;have hA:=ha cpos pins s1 U H1 _ I1 q1;rw[hs]at hA ⊢;refine Calls.callWith_builtin (by show(false || (backTo cpos (starEach es X.env)).any (·.1))=false;rw[hplain]<;>rfl) (Calls.evalArgs_plain ?_);exact aP hA λus s2 ⟨vs,H2,I2,r2,q2⟩=>hm pins s2 U H2 x vs v us Q I2 r1 r2 q2
end
abbrev Av(X:Cx)(id:String)(r:V->List V->Hp->VK->Prop):Prop :=
 ∀(pins:List (Addr×Obj)) (s:Shared) (U:St) (H:Hp) (x:V) (xs:List V) (v:Value) (us:List Value) (Q:VK),Inv X pins U H s->RelV x v->Vals xs us->r x xs H Q ->
  wpAny (model X.prog X.w) X.A (call (.builtin id) (v :: us)) (EP X pins U Q) X.xe s
def Vals.one:∀{x:V} {us:List Value},Vals [x] us->∃u,us=[u]/\RelV x u
 |_,_,.cons r .nil=>⟨_,rfl,r⟩
def Vals.reverse{xs:List V}{us:List Value}(h:Vals xs us):Vals xs.reverse us.reverse:=by
 induction h with
 |nil=>exact .nil
 |cons r t ih=>rw[MQ,MQ];exact Vals.append ih (.cons r .nil)
section
variable {X:Cx}{pins:List (Addr×Obj)}{U:St}{H:Hp}{s:Shared}{l b:Addr}{xs ys zs:List V}
def Inv.Aw{its its':List Value}{n:Nat}{f:Array Value->Array Value}{t':Nat}(I:Inv X pins U H s)(hH:H l=some (.lst xs))
  (e:s.heap.get? l=some { cls:=.type "list",data:=.seq its.toArray n }) (hf:f its.toArray=its'.toArray) (hv:Vals ys its') (hz:ys.length<=sizeLine) :
  Inv X pins U (upd H l (.lst ys)) { s with heap:=s.heap.update l (Obj.mapSeq f),toks:=t' }:=by
 have q:=PySem.IsL.update e f;rw[hf]at q;refine I.write (x:=l) (e:=l) (by rw[hH];exact trivial) (.inl rfl) (λb' u hb hu=>(LY s.heap (Obj.mapSeq f) (Ne.symm hb)).trans hu) ⟨_,q⟩ ?_;exact⟨hz,its',_,hv,q⟩
def Inv.Ax{its:List Value}{t':Nat}(I:Inv X pins U H s)(hv:Vals ys its)(hz:ys.length<=sizeLine):
  Inv X pins U (upd H s.heap.objs.size (.lst ys)) { s with heap:=s.heap.push { cls:=.type "list",data:=.seq its.toArray },toks:=t' } :=
 I.laid (λ_ _ q=>LA _ q) (LI _) ⟨hz,its,0,hv,LJ _ rfl⟩
def Inv.fresh(I:Inv X pins U H s):H s.heap.objs.size=none:=I.hok.fresh (LI _)
def Inv.rh(I:Inv X pins U H s)(hH:H l=some (.lst xs)):xs.length<=sizeLine/\∃(its:List Value) (n:Nat),Vals xs its/\xs.length=its.length/\s.heap.get? l=some { cls:=.type "list",data:=.seq its.toArray n }:=by obtain⟨z,its,n,r,e⟩:=I.hok l _ hH;exact⟨z,its,n,r,r.length,e⟩
end
section
variable {X:Cx}
abbrev ll:V->List V->Hp->VK->Prop:=λx vs H Q=>∃l xs y,x=.ref l/\vs=[y]/\H l=some (.lst xs)/\xs.length<sizeLine/\Q .non (upd H l (.lst (xs ++ [y])))
def Ay:Av X "list.append" ll:=by intro pins s U H x vs v us Q I rx rv h;obtain⟨l,xs,y,rfl,rfl,hH,hz,q⟩:=h;cases rx;obtain⟨u,rfl,ru⟩:=rv.one;obtain⟨z,its,n,r,hl,e⟩:=I.rh hH;refine call_meets F.slot_list_append ⟨_,e,rfl⟩ F.entry_list_append (F.args_list_append_2 _ _) (PySem.list_append l its.toArray n u (by rw[LU];lk)) ⟨e,?_⟩;refine⟨.non,_,I.Aw (its':=its ++ [u]) hH e (by simp) (r.append (.cons ru .nil)) ?_,rfl,q⟩;rw[LP,MR];lk
abbrev vC:R2:=λx y H Q=>∃l b xs zs,x=.ref l/\y=.ref b/\H l=some (.lst xs)/\H b=some (.lst zs)/\xs.length+zs.length<=sizeLine/\∀p,H p=none->Q (.ref p) (upd H p (.lst (xs ++ zs)))
def pT:eY X (binaryOp .Add) vC:=by
 intro pins s U H x y v u Q I rx ry h;obtain⟨l,b,xs,zs,rfl,rfl,hH,hB,hz,q⟩:=h;cases rx;cases ry;obtain⟨z,its,n,r,hl,e⟩:=I.rh hH;obtain⟨z2,its2,n2,r2,hl2,e2⟩:=I.rh hB;refine PySem.P.add_list e e2 ?_ (by rw[LU,LU];lk);have ea:its.toArray ++ its2.toArray=(its ++ its2).toArray:=by simp
 rw[ea];exact⟨.ref _,_,I.Ax (t':=s.toks) (r.append r2) (by rw[LP];lk),rfl,q _ I.fresh⟩
end
end L2
namespace Dg
open PySem PySem.W PySem.Calls PyProof.Rows
def Gq{P:Params}{h:Heap}:∀(ns:List Int) (vs:List Value),WellAll P h vs (ns.map WData.int)->IntsAre vs ns:=by
 intro ns
 induction ns with
 |nil =>
  intro vs w;rw[List.map_nil]at w;cases w;exact .nil
 |cons n ns ih =>
  intro vs w;rw[Mt]at w;cases w with
  |cons a b =>
   cases a;exact .cons _ _ (ih _ b)
def Gr{l:OpenLaw}{n:Nat}(hn:l.most=some n){P:Params}{h:Heap}{args:List WData}{vals:List Value}
  (hpre:l.row.toRowW.claim.pre args=true) (hwl:WellAll P h vals args) :
  ∃a vs ns,vals=[Value.ref a]/\args=[WData.list (ns.map WData.int)]/\h.get? a=some { cls:=.type "list",data:=.seq vs.toArray }/\IntsAre vs ns/\ns.length<=n:=by
 have hsh:WShape.hasAll [] args [.list .int]=true:=(pre_splitW hpre).1;have hc:l.pre.holds [] { args:=args }=true:=(pre_splitW hpre).2;obtain⟨d,r,rfl,h1,h2⟩:=hasAllW_cons hsh;obtain rfl:=hasAllW_nil h2;obtain⟨xs,rfl,h3⟩:=hasW_list h1;obtain⟨ns,rfl⟩:=items_int h3;have hlen:ns.length<=n:=by
  unfold OpenLaw.pre at hc;have h4:(WTm.not (.lt (.lit (.int (n:Int))) (.len (.arg 0)))).holds [] { args:=[.list (ns.map .int)] }=true:=by
   have h4:=(holds_andW hc).1;rw[hn]at h4;exact h4
  have h5:=condW_of h4 (w_not (w_lt w_lit (w_len_list (w_arg rfl))));rw[LG]at h5;refine MY λq=>?_;have q':(n:Int)<((ns.length:Nat):Int):=by lk
  first
   |(rw[decide_eq_true q']at h5;exact absurd h5 ∅)
   |(simp at h5;lk)
 cases hwl with
 |cons w1 w2 =>
  cases w2;cases w1 with
  |list ho hall=>exact⟨_,_,ns,rfl,rfl,ho,Gq ns _ hall,hlen⟩
def Gs(l:OpenLaw)(args:List WData):l.row.toRowW.claim.post args (.bool true) args=true :=
 postW_of (r:=l.row.toRowW) (X:=(true == true))
  (show WShape.has [] (.bool true) .bool=true by first|rfl|decide|simp[WShape.has,WShape.arms,WShape.armsAll])
  (show(WTm.eq .res (.lit (.bool true))).value [] { args:=args,res:=some (.bool true),after:=args }=some (.bool (true == true))from w_eq_bool (w_res rfl) w_lit) rfl
def Gu{l:OpenLaw}{n:Nat}{q:Program}{loose:List Str}{XP:(Str->Option Value)->Heap->Prop}{YP:World->Heap->Prop}{d:DefRec}
  (hn:l.most=some n) (hdf:d.params.defaults=[])
  (call:∀(w:World) (s₀ s₁:Shared) (mg mb:Str->Option Value) (fa:Addr) (o:Obj) (pm cd doc:Value) (a:Addr) (vs:List Value) (ns:List Int),
   Ground q loose [] XP w s₀ mg mb s₁.heap->YP w s₁.heap ->
   s₁.heap.get? fa=some o->o.data=.func (docDef d.name d.params d.body d.scope pm cd doc)->s₁.heap.CodeRec cd d.name->mg d.name=some (.ref fa) ->
   s₁.heap.get? a=some { cls:=.type "list",data:=.seq vs.toArray }->IntsAre vs ns->ns.length<=n->s₁.gens=#[] ->
   codeAny (model l.prog w) callerA (.call (.ref fa) ⟨[.ref a],[]⟩) (λr s'=>r=.ok (.ret (.bool true))/\OldK s₁.heap s'.heap/\s'.os=s₁.os/\AllBare s'.gens) s₁) :
  WalkO q loose XP YP l.row.toRowW d [] (λf vs=>PySem.call f vs):=by
 intro w s₀ s₁ mg mb G Y fa o pm cd doc dV kV ho hd hcd hD hmg hg args vals as hpre hlay hrd hwl hlo;obtain rfl:dV=.none:=Dflts.none hD hdf;obtain rfl:kV=.none:=Dflts.noKw hD;obtain⟨a,vs,ns,rfl,rfl,hobj,hints,hlen⟩:=Gr hn hpre hwl;refine enter_call (codeAny_mono (call w s₀ s₁ mg mb fa o pm cd doc a vs ns G Y ho (fd_plain hd) hcd hmg hobj hints hlen hg) λr s' hq=>?_);obtain⟨rfl,h2,h3,h4⟩:=hq;exact⟨.inl ⟨.bool true,.bool true,[],rfl,λ_=>rfl,.bool true,Gs l _,λ_=>⟨List.Pairwise.nil,λ_ hm=>(nomatch hm)⟩⟩,h2,h3,h4⟩
end Dg
namespace L2
open PySem PySem.Spec PyProof.Rows
def Dh:∀{vs:List Value} {ns:List Int},IntsAre vs ns->Vals (ns.map V.int) vs
 |_,_,.nil=>.nil
 |_,_,.cons n t h=>.cons ⟨t,rfl⟩ (Dh h)
abbrev Only(H:Hp):Prop:=∀b,H b=none\/∃o xs,H b=some (.gR o (.lst xs))
def Gv{P:Program}{w:World}{K:Zfr}{mg mb:Str->Option Value}{CX:iY}{k:Nat}{fa a:Addr}{fd:FuncData}{x:Str}{sp:Sp}{s₁:Shared}{vs:List Value}{ns:List Int}
  (KX:K.In s₁.heap) (hns:s₁.heap.Ns mainGlobals mg) (hb:s₁.heap.Ns builtinsNs mb) (Gw:∀x:Str,x≠"__name__" -> mb x=bootBuiltins x) (hlim:s₁.heap.NoLimit) (hg:s₁.gens=#[])
  (ha:s₁.heap.get? a=some { cls:=.type "list",data:=.seq vs.toArray }) (hi:IntsAre vs ns) (hl:ns.length<=sizeLine) (hr:bL k callerA)
  (F:∀base:Heap,K.In base->base.Ns mainGlobals mg->aN P w K mg base CX k fa fd [x] sp) (hbind:∀(s:Shared) (u:Value),BindsTo s fd ⟨[u],[]⟩ [(x,u)])
  (jP:∀H:Hp,Only H->ez K H a (ns.map V.int)->sp [.ref a] H (λv _=>v=.bl true) λ_ _ _=>False)
  (vD:∀H e s',CX [] H s₁ (λ_ _ _=>False) e s'->False) :
  codeAny (model P w) callerA (.call (.ref fa) ⟨[.ref a],[]⟩) (λr s'=>r=.ok (.ret (.bool true))/\OldK s₁.heap s'.heap/\s'.os=s₁.os/\AllBare s'.gens) s₁:=by
 have rv:=Dh hi;have Az:=hi.length;have core:∀ H:Hp,Only H->ez K H a (ns.map V.int)->ey P w H s₁.heap->(∀ b,H b≠none->b=a)->(H a≠none->K.lookup a=none) ->
   codeAny (model P w) callerA (.call (.ref fa) ⟨[.ref a],[]⟩) (λr s'=>r=.ok (.ret (.bool true))/\OldK s₁.heap s'.heap/\s'.os=s₁.os/\AllBare s'.gens) s₁:=by
  intro H hO hS hok hA hK;have lp:∀{b:Addr} {o:Obj},s₁.heap.get? b=some o->H b=none->(jd s₁.heap H).get? b=some o:=λe n=>FU e n;have oO:∀{b:Addr} {o:Obj} {es:Array DictEntry} {ep:Nat},s₁.heap.get? b=some o->o.data=.dict es ep->H b=none:=λ{b o es ep} e d=>by
   cases q:H b with
   |none=>rfl
   |some u =>
    have e':b=a:=hA b (by rw[q];simp);subst e';rw[ha]at e;cases e;have d':Data.seq vs.toArray _=Data.dict es ep:=d;cases d'
  have yI:∀{b:Addr} {m:Str->Option Value},s₁.heap.Ns b m->(jd s₁.heap H).Ns b m:=λ{b m} ⟨o,es,ep,e,d,r⟩=>⟨o,es,ep,lp e (oO e d),d,r⟩
  have Di:K.In (jd s₁.heap H):=λb o e=>lp (KX b o e) (by
   cases q:H b with
   |none=>rfl
   |some u =>
    have e':b=a:=hA b (by rw[q];simp);subst e'
    rw[hK (by rw[q];simp)]at e;cases e)
  have hM:Mod K mg (jd s₁.heap H):=⟨Di,yI hns,⟨mb,yI hb,Gw⟩,let ⟨mc,h1,h2⟩:=hlim;⟨mc,yI h1,h2⟩⟩;have e0:jf P w K mg (jd s₁.heap H) callerA [] s₁ H:=⟨rfl,hM,λb o e=>FV e,Nat.le_of_eq (FT _ _),trivial,λb hb=>absurd (show b∈([]:List Addr)from hb) (by simp),hok,.of_eq hg⟩;refine codeAny_mono ((F _ Di (yI hns)).run callerA [] s₁ H ⟨[.ref a],[]⟩ [.ref a] [.ref a] _ _ hr e0 (hbind s₁ (.ref a)) (.cons rfl .nil) (jP H hO hS)) λr s' h=>?_;cases r with
  |error e=>exact(vD H e s' h).elim
  |ok fl =>
   cases fl with
   |next=>exact False.elim h
   |brk=>exact False.elim h
   |cont=>exact False.elim h
   |ret u =>
    obtain⟨v,H',os,bare,un,AA,r',q⟩:=h;have q':v=.bl true:=q;subst q';obtain rfl:u=Value.bool true:=r';refine⟨rfl,OldK.of_keep λb o e=>?_,os,bare⟩;cases q:H b with
    |none=>exact un.keep b o e q (by intro z;exact absurd (show b∈([]:List Addr)from z) (by simp)) (by simp)
    |some u =>
     rcases hO b with z|⟨ob,xs,z⟩
     ·rw[q]at z;cases z
     ·have z2:=un.iN b ob _ z
      obtain⟨e1,_⟩:=hok b _ z;obtain⟨e2,_⟩:=AA b _ z2;rw[e]at e1;cases e1;exact e2
 cases hk:K.lookup a with
 |some o =>
  have e:=KX a o hk;rw[ha]at e;cases e;refine core (λ_=>none) (λ_=>.inl rfl) (.inr ⟨_,vs.toArray,_,hk,rfl,rfl,rfl,by rw[LU,Az];exact hl,by simpa using rv⟩) (λb u z=>by have z':(none:Option HO)=some u:=z;cases z') (λb z=>absurd rfl z) λz=>absurd rfl z
 |none =>
  refine core (λb=>if b=a then some (.gR { cls:=.type "list",data:=.seq vs.toArray } (.lst (ns.map V.int)))else none) (λb=>?_) (.inl (.inr ⟨{ cls:=.type "list",data:=.seq vs.toArray },if_pos rfl⟩)) (λb u z=>?_) (λb z=>?_) λ_=>hk
  ·by_cases hb:b=a
   ·exact .inr ⟨_,_,if_pos hb⟩
   ·exact .inl (if_neg hb)
  ·by_cases hb:b=a
   ·have z':=(if_pos hb).symm.trans z
    cases z';subst hb;exact⟨ha,by rw[LG];exact hl,vs,_,rv,ha⟩
   ·have z':=(if_neg hb).symm.trans z
    cases z'
  ·by_cases hb:b=a
   ·exact hb
   ·exact absurd (if_neg hb) z
@[reducible]def KOf{K:Zfr}{h:Heap}(_:K.In h):Zfr:=K
def Gx{l:PySem.W.OpenLaw}{n k:Nat}{q:Program}{loose:List Str}{XP:(Str->Option Value)->Heap->Prop}{YP:World->Heap->Prop}{d:DefRec}{K:Params->Zfr}{CX:World->iY}{sp:World->Sp}{x:Str}
  (hn:l.most=some n) (hn2:n<=sizeLine) (hdf:d.params.defaults=[]) (hr:bL k callerA)
  (hY:∀(w:World) (h:Heap),YP w h->(K w.params).In h)
  (F:∀(w:World) (mg:Str->Option Value) (fa:Addr) (h:Heap),(K w.params).In h->h.Ns mainGlobals mg->mg d.name=some (.ref fa) ->
   ∃fd:FuncData,(∀(s:Shared) (u:Value),BindsTo s fd ⟨[u],[]⟩ [(x,u)]) /\
    ∀base:Heap,(K w.params).In base->base.Ns mainGlobals mg->aN l.prog w (K w.params) mg base (CX w) k fa fd [x] (sp w))
  (jP:∀(w:World) (H:Hp) (a:Addr) (ns:List Int),ns.length<=n->Only H->ez (K w.params) H a (ns.map V.int)->sp w [.ref a] H (λv _=>v=.bl true) λ_ _ _=>False)
  (vD:∀(w:World) (H:Hp) (s:Shared) (e:Value) (s':Shared),CX w [] H s (λ_ _ _=>False) e s'->False) :
  PySem.W.WalkO q loose XP YP l.row.toRowW d [] (λf vs=>PySem.call f vs):=by
 refine Dg.Gu hn hdf λw s₀ s₁ mg mb fa o pm cd doc a vs ns G Y ho hd hcd hmg hobj hints hlen hg=>?_;have KX:=hY w _ Y;obtain⟨fd,hb,hF⟩:=F w mg fa _ KX G.T.g hmg;exact Gv KX G.T.g G.T.b G.T.builtins G.T.nolimit hg hobj hints (L5 hlen hn2) hr hF hb (λH hO hS=>jP w H a ns hlen hO hS) λH e s'=>vD w H s₁ e s'
def Gy{l:PySem.W.OpenLaw}{n k:Nat}{q:Program}{loose:List Str}{XP:(Str->Option Value)->Heap->Prop}{YP:World->Heap->Prop}{d:DefRec}{K:Params->Zfr}{CX:iY}{sp:Zfr->Sp}{x:Str}
  (hn:l.most=some n) (hn2:n<=sizeLine) (hdf:d.params.defaults=[]) (hr:bL k callerA)
  (hY:∀(w:World) (h:Heap),YP w h->(K w.params).In h)
  (F:∀(w:World) (mg:Str->Option Value) (fa:Addr) (h:Heap),(K w.params).In h->h.Ns mainGlobals mg->mg d.name=some (.ref fa) ->
   ∃fd:FuncData,(∀(s:Shared) (u:Value),BindsTo s fd ⟨[u],[]⟩ [(x,u)]) /\
    ∀base:Heap,(K w.params).In base->base.Ns mainGlobals mg->aN l.prog w (K w.params) mg base CX k fa fd [x] (sp (K w.params)))
  (jP:∀(K:Zfr) (H:Hp) (a:Addr) (ns:List Int),ns.length<=n->Only H->ez K H a (ns.map V.int)->sp K [.ref a] H (λv _=>v=.bl true) λ_ _ _=>False)
  (vD:∀(H:Hp) (s:Shared) (e:Value) (s':Shared),CX [] H s (λ_ _ _=>False) e s'->False) :
  PySem.W.WalkO q loose XP YP l.row.toRowW d [] (λf vs=>PySem.call f vs) :=
 Gx (K:=K) (CX:=λ_=>CX) (sp:=λw=>sp (K w.params)) hn hn2 hdf hr hY F (λw H a ns h1 h2 h3=>jP (K w.params) H a ns h1 h2 h3) λ_ H s e s'=>vD H s e s'
abbrev du(s:Stmt):Arguments:=match s with
 |.FunctionDef _ a _ _ _ _ _ _ _ _=>a
 |_=>{ posonlyargs:=[],args:=[],vararg:=none,kwonlyargs:=[],kw_defaults:=[],kwarg:=none,defaults:=[] }
abbrev bU(s:Stmt):List Stmt:=match s with
 |.FunctionDef _ _ b _ _ _ _ _ _ _=>b
 |_=>[]
abbrev aq(s:Stmt):Scope:=match s with
 |.FunctionDef _ _ _ _ _ _ sc _ _ _=>sc
 |_=>{ kind:=.function,names:=[],isGenerator:=false,isCoroutine:=false }
@[reducible]def dm:iY:=λ_ _ _ _ _ _=>False
@[reducible]def E0:XK:=λ_ _ _=>False
def jQ{X:Cx}:Passes dm X E0:=λ_ _ _ _ _ _ _ h=>h.elim
structure mE(K:Zfr)(x qual:Str)(st:Stmt)(f:Addr)(fd:FuncData):Prop where
 ex:∃(oc:Value) (od:Option Addr) (kV doc pm:Value) (an:Option Addr) (cdv ct:Value) (osl:Array (Option Value)),
  fd=PySem.W.fnOf x qual (du st) (bU st) (aq st) .none kV doc pm an cdv ct/\K.lookup f=some ⟨oc,od,.func fd,osl⟩/\PySem.W.codeIn K cdv qual=true
 kp:PySem.W.keepIn K (.ref f)=true
section
variable {P:Program}{w:World}{K:Zfr}{mg:Str->Option Value}{base:Heap}
def mE.ok{x qual:Str}{st:Stmt}{f:Addr}{fd:FuncData}{N ps:List Str}{k:Nat}{sp:Sp}(F:mE K x qual st f fd)(S:aA N ps (aq st))(len:∀vs H Q E,sp vs H Q E->vs.length=ps.length)
  (hbody:∀(cdv:Value) (A:Around) (outer:List Env) (s:Shared) (H:Hp) (vs:List V) (Q:VK) (E:XK),bL k (A.deeper (envOfC qual (aq st) s.heap.objs.size f cdv))->sp vs H Q E ->
   ∃t,iT (bC dm P w K mg base N qual (aq st) f cdv A outer s H E).lg (bU st) t/\t { nx:=λ_ H'=>Q .non H',rt:=Q } (start N vs) H):aN P w K mg base dm (k+1) f fd ps sp:=by
 obtain⟨oc,od,kV,doc,pm,an,cdv,ct,osl,rfl,lk,hcd⟩:=F.ex;refine pO lk hcd S len λA outer s H vs Q E hr jP=>?_;obtain⟨t,h,q⟩:=hbody cdv A outer s H vs Q E hr jP;exact⟨t,h.lg,q⟩
def Dj{x qual:Str}{st:Stmt}{f:Addr}{oc:Value}{od an:Option Addr}{osl:Array (Option Value)}{kV doc pm cdv ct:Value}(l:K.lookup f=some ⟨oc,od,.func (PySem.W.fnOf x qual (du st) (bU st) (aq st) .none kV doc pm an cdv ct),osl⟩)
  (c:PySem.W.codeIn K cdv qual=true) (k:PySem.W.keepIn K (.ref f)=true):mE K x qual st f (PySem.W.fnOf x qual (du st) (bU st) (aq st) .none kV doc pm an cdv ct):=⟨⟨oc,od,kV,doc,pm,an,cdv,ct,osl,rfl,l,c⟩,k⟩
end
def Dk{A:Around}{k:Nat}(hr:bL k A):A.units+1<cLine:=Nc (Nat.add_le_add_left (by decide:1<=64) _) hr.units
section
variable {X:Cx}
def pv(i:Nat){x:Str}{pos:Pos}(hN:X.N[i]?=some x:=by rfl)(hv:zY X.env.scope x:=by first | exact Or.inl rfl | exact Or.inr (Or.inl rfl) | exact Or.inr (Or.inr rfl))(hd:(x == ("__debug__" : Str))=false:=by decide)
  (hcd:(x == ("__classdict__" : Str))=false:=by decide):PE X (.Name x pos) (mT i):=qI hN hv hd hcd
end
def kC{A B:Prop}(h:B):if false=true then A else B:=by rw[if_neg LC];exact h
def kD{A B:Prop}(h:A):if true=true then A else B:=by rw[if_pos rfl];exact h
abbrev cY(H H':Hp):Prop:=∀b o,H b=some o->H' b=some o
def cY.refl(H:Hp):cY H H:=λ_ _ h=>h
def lZ:bootBuiltins "len" = some (.builtin "len"):=by decide +kernel
def rj:bootBuiltins "int" = some (.type "int"):=by decide +kernel
def yJ:bootBuiltins "bool" = some (.type "bool"):=by decide +kernel
def uj:bootBuiltins "str" = some (.type "str"):=by decide +kernel
def yK:bootBuiltins "list" = some (.type "list"):=by decide +kernel
def rk:bootBuiltins "tuple" = some (.type "tuple"):=by decide +kernel
def iH:bootBuiltins "isinstance" = some (.builtin "isinstance"):=by decide +kernel
def rl:bootBuiltins "max" = some (.builtin "max"):=by decide +kernel
def AB:bootBuiltins "all" = some (.builtin "all"):=by decide +kernel
def rm:bootBuiltins "zip" = some (.type "zip"):=by decide +kernel
structure Kp(ch:List Addr)(H H':Hp):Prop where
 keep:∀b o,H b=some o->b ∉ ch->H' b=some o
 tup:∀b xs,H b=some (.tup xs)->H' b=some (.tup xs)
 gR:∀b o u,H b=some (.gR o u)->H' b=some (.gR o u)
section
variable {ch:List Addr}{H H1 H2:Hp}{a l p:Addr}{o:HO}{xs ys:List V}{K:Zfr}
def Kp.refl:Kp ch H H:=⟨λ_ _ h _=>h,λ_ _ h=>h,λ_ _ _ h=>h⟩
def Kp.of_same(h:cY H H1):Kp ch H H1:=⟨λb o e _=>h b o e,λb xs e=>h b _ e,λb o u e=>h b _ e⟩
def Kp.put(h:Kp ch H H1)(ha:a∈ch)(e:H1 a=some (.lst xs)):Kp ch H (upd H1 a o) :=
 ⟨λb u q n=>by rw[bg (λz=>n (by rw[z];exact ha))];exact h.keep b u q n,
   λb u q=>by
  have r:=h.tup b u q;rw[bg (pC r e (by intro z;cases z))];exact r,
   λb u v q=>by
  have r:=h.gR b u v q
  rw[bg (pC r e (by intro z;cases z))];exact r⟩
def Kp.AE(h:Kp ch H H1)(q:ej K H a xs):ej K H1 a xs:=by
 rcases q with(q|⟨o,q⟩)|q
 exact .inl (.inl (h.tup a xs q));exact .inl (.inr ⟨o,h.gR a o _ q⟩);exact .inr q
abbrev vE(K:Zfr)(H:Hp)(a:Addr)(xs:List V):Prop :=
 (∃o,H a=some (.gR o (.lst xs))) \/
  ∃(o:Obj) (its:Array Value) (n:Nat),K.lookup a=some o/\o.cls=.type "list" /\ o.dict=none/\o.data=.seq its n/\its.size<=sizeLine/\Vals xs its.toList
def vE.sq(h:vE K H a xs):ez K H a xs:=h.elim (λ⟨o,e⟩=>.inl (.inr ⟨o,e⟩)) .inr
def ez.script(hO:Only H)(q:ez K H a xs):vE K H a xs:=by
 rcases q with(q|⟨o,q⟩)|q
 rcases hO a with e|⟨o,ys,e⟩
 rw[e]at q;cases q;rw[e]at q;cases q;exact .inl ⟨o,q⟩;exact .inr q
def cY.up(h:H p=none):cY H (upd H p o):=λb u e=>by rw[bg (qG e h)];exact e
end
abbrev ni(K:Zfr)(H:Hp)(xs:List V)(Q:VK):Prop:=∀p H',ej K H' p xs->cY H H'->Q (.ref p) H'
section
variable {X:Cx}
def ni.new{K:Zfr}{H:Hp}{xs:List V}{Q:VK}(h:ni K H xs Q):∀p,H p=none->Q (.ref p) (upd H p (.tup xs)):=λp hp=>h p _ (ej.of gw) (cY.up hp)
def ni.it{K:Zfr}{H:Hp}{xs:List V}{Q:VK}{a:Addr}(h:ni K H xs Q)(q:ej K H a xs):Q (.ref a) H:=h a H q (cY.refl H)
end
mutual
inductive Rep(K:Zfr)(H:Hp):V->PyData->Prop
 |non:Rep K H .non .none
 |bl (b:Bool):Rep K H (.bl b) (.bool b)
 |int (i:Int):Rep K H (.int i) (.int i)
 |str (x:Str):Rep K H (.str x) (.str x)
 |tup {a:Addr} {xs:List V} {ds:List PyData}:ej K H a xs->cZ K H xs ds->Rep K H (.ref a) (.tuple ds)
 |lst {a:Addr} {xs:List V} {ds:List PyData}:ez K H a xs->cZ K H xs ds->Rep K H (.ref a) (.list ds)
inductive cZ(K:Zfr)(H:Hp):List V->List PyData->Prop
 |nil:cZ K H [] []
 |cons {v:V} {vs:List V} {d:PyData} {ds:List PyData}:Rep K H v d->cZ K H vs ds->cZ K H (v :: vs) (d :: ds)
end
section
variable {X:Cx}{pins:List (Addr×Obj)}{U:St}{H:Hp}{s:Shared}
mutual
theorem Rep.reads(I:Inv X pins U H s):∀{v:V} {d:PyData} {u:Value},Rep X.K H v d->RelV v u->∃as,Reads s.heap u d as
 |_,_,_,.non,r=>by cases r;exact⟨_,.none⟩
 |_,_,_,.bl b,r=>by cases r;exact⟨_,.bool b⟩
 |_,_,_,.int i,r=>by obtain⟨t,rfl⟩:=r;exact⟨_,.int i t⟩
 |_,_,_,.str x,r=>by obtain⟨t,rfl⟩:=r;exact⟨_,.str x t⟩
 |_,_,_,.tup q rs,r=>by
  cases r;obtain⟨its,rv,⟨o,e,c,n,hd⟩,_⟩:=I.tuple q;obtain⟨as,ra⟩:=cZ.reads I rs rv;exact⟨_,.tuple e c hd (by simpa using ra)⟩
 |_,_,_,.lst q rs,r=>by
  cases r;obtain⟨its,rv,pl,_⟩:=I.list q;obtain⟨o,e,c,n,hd⟩:=pl.isList;obtain⟨as,ra⟩:=cZ.reads I rs rv;exact⟨_,.list e c hd (by simpa using ra)⟩
theorem cZ.reads(I:Inv X pins U H s):∀{vs:List V} {ds:List PyData} {us:List Value},cZ X.K H vs ds->Vals vs us->∃as,ReadsAll s.heap us ds as
 |_,_,_,.nil,r=>by cases r;exact⟨_,.nil⟩
 |_,_,_,.cons h t,r=>by
  cases r with
  |cons r1 r2 =>
   obtain⟨as,h1⟩:=Rep.reads I h r1;obtain⟨bs,h2⟩:=cZ.reads I t r2;exact⟨_,.cons h1 h2⟩
end
abbrev rn(K:Zfr)(neg:Bool):R2:=λx y H Q=>∃d e,Rep K H x d/\Rep K H y e/\PyData.canLay0 d=true/\PyData.canLay0 e=true/\min d.depth e.depth<=60/\Q (.bl (if neg then !PyData.eqv d e else PyData.eqv d e)) H
def rq(hu:X.A.units+64<cLine):eY X (compareOp .Eq) (rn X.K false):=by intro pins s U H x y v u Q I rx ry h;obtain⟨d,e,hd,he,c1,c2,dp,q⟩:=h;obtain⟨as,ra⟩:=hd.reads I rx;obtain⟨bs,rb⟩:=he.reads I ry;exact SeqAt.eqOverData X.prog X.w X.A X.xe s v u d e as bs _ ra rb c1 c2 ⋯ ⟨.bl _,H,I,rfl,q⟩
def rz(hu:X.A.units+64<cLine):eY X (compareOp .NotEq) (rn X.K true):=by intro pins s U H x y v u Q I rx ry h;obtain⟨d,e,hd,he,c1,c2,dp,q⟩:=h;obtain⟨as,ra⟩:=hd.reads I rx;obtain⟨bs,rb⟩:=he.reads I ry;exact SeqAt.neOverData X.prog X.w X.A X.xe s v u d e as bs _ ra rb c1 c2 ⋯ ⟨.bl _,H,I,rfl,q⟩
end
end L2
namespace L2
open PySem PySem.Spec PyProof.Rows
structure Def(K:Zfr)(mg:Str->Option Value)(x:Str)(st:Stmt)(ps:List Str)(f:Addr)(fd:FuncData):Prop where
 F:mE K x x st f fd
 be:∀us:List Value,us.length=ps.length->bindArgs fd ⟨us,[]⟩=pure (ps.zip us)
 m:mg x=some (.ref f)
def Def.b{K:Zfr}{mg:Str->Option Value}{x:Str}{st:Stmt}{ps:List Str}{f:Addr}{fd:FuncData}(D:Def K mg x st ps f fd):Binds K fd ps []:=.all D.be
def lq{K:Zfr}{h:Heap}{mg:Str->Option Value}(X:K.In h)(G:h.Ns mainGlobals mg){x:Str}{st:Stmt}{ps:List Str}{f:Addr}{oc:Value}{od an:Option Addr}{osl:Array (Option Value)}{kV doc pm cdv ct:Value}
  (hb:∀(kV doc pm:Value) (an:Option Addr) (cdv ct:Value) (us:List Value),us.length=ps.length->bindArgs (PySem.W.fnOf x x (du st) (bU st) (aq st) .none kV doc pm an cdv ct) ⟨us,[]⟩=pure (ps.zip us))
  (a:PySem.W.nsIn K mainGlobals x=some (some (.ref f))) (l:K.lookup f=some ⟨oc,od,.func (PySem.W.fnOf x x (du st) (bU st) (aq st) .none kV doc pm an cdv ct),osl⟩)
  (c:PySem.W.codeIn K cdv x=true) (k:PySem.W.keepIn K (.ref f)=true):∃f fd,Def K mg x st ps f fd :=
 ⟨f,_,Dj l c k,hb kV doc pm an cdv ct,PySem.W.mg_of X G a⟩
def Def.oR{K:Zfr}{mg:Str->Option Value}{x p:Str}{st:Stmt}{f:Addr}{fd:FuncData}(D:Def K mg x st [p] f fd)(s:Shared)(u:Value):BindsTo s fd ⟨[u],[]⟩ [(p,u)]:=.of_eq (D.be [u] rfl)
def mF{K:Zfr}{h:Heap}{mg:Str->Option Value}(X:K.In h)(G:h.Ns mainGlobals mg){x:Str}(z:PySem.W.nsIn K mainGlobals x=some none):mg x=none:=PySem.W.mg_none_of X G z
def Dl{n j:Nat}(h:j<n):jG n (j:Int)=some j:=by unfold jG;rw[if_pos ⋯,if_pos ⋯];simp
def rA{J:Type}{xs:List J}{i:Int}(h0:0<=i)(h1:i<xs.length):∃v,fL xs i=some v/\v∈xs:=by
 have hi:i.toNat<xs.length:=by lk
 refine⟨xs[i.toNat],?_,Nj hi⟩;have:=oP (xs:=xs) (j:=i.toNat) (v:=xs[i.toNat]) (by simp[hi])
 rwa [Int.toNat_of_nonneg h0]at this
def dT{c:Prop}[Decidable c](h:decide c=true):c:=of_decide_eq_true h
section
variable {X:Cx}{e:Expr}{te:TE}{pos p0 p1 p2:Pos}{j:Nat}
abbrev Dn(X:Cx)(r:V->Hp->VK->Prop):Prop :=
 ∀(pins:List (Addr×Obj)) (s:Shared) (U:St) (H:Hp) (x:V) (v:Value) (sl:Addr) (u:Tok) (Q:VK),Inv X pins U H s->RelV x v->s.heap.IsSliceOf sl .none .none (.int (-1) u)->r x H Q ->
  ∃T id,typeLookup (.type T) "__getitem__" = pure (some (.builtin id))/\s.TypeIs v T/\wpAny (model X.prog X.w) X.A (getItem v (.ref sl)) (EP X pins U Q) X.xe s
def rB{r:V->Hp->VK->Prop}(hr:Dn X r)(he:PE X e te):PE X (.Subscript e (.Slice none none (some (.UnaryOp .USub (.Constant (.int 1) j p1) p0)) p2) pos) (λU H Q=>te U H λx H1=>r x H1 Q):=by intro pins s U H Q I h;refine Subscript_ (aP (he pins s U H _ I h) λv s1 ⟨x,H1,I1,r1,q1⟩=>?_);refine wpAny_Slice ?_;rw[evalPart_none];refine wpAny_pure (wpAny_pure ?_);rw[evalPart_some];refine aP ((vi (X:=X) qX (aY (i:=1) (j:=j) (pos:=p1)) (pos:=p0)) pins s1 U H1 (λy H2=>y=.int (-1)/\H2=H1) I1 ⟨1,rfl,rfl,rfl⟩) λw2 s3 ⟨y,H3,I3,r3,e3,e4⟩=>?_;subst e3 e4;obtain⟨u,rfl⟩:=r3;have I4:Inv X pins U H3 { s3 with heap:=s3.heap.push { cls:=.type "slice",data:=.fields #[.none,.none,.int (-1) u] } }:=I3.kept (t':=s3.toks) λb ob q=>LA _ q;obtain⟨T,id,hT,ht,hg⟩:=hr pins { s3 with heap:=s3.heap.push { cls:=.type "slice",data:=.fields #[.none,.none,.int (-1) u] } } U H3 x v s3.heap.objs.size u Q I4 r1 (Heap.IsSliceOf.new ..) q1;show wpAny (model X.prog X.w) X.A (subscriptTail e (.Slice none none (some (.UnaryOp .USub (.Constant (.int 1) j p1) p0)) p2) v (.ref s3.heap.objs.size)) (EP X pins U Q) X.xe { s3 with heap:=s3.heap.push { cls:=.type "slice",data:=.fields #[.none,.none,.int (-1) u] } };exact tail_any (ops:=[v,.ref s3.heap.objs.size]) ht hT hg (by with_unfolding_all rfl)
def Gz:Dn X (λx H Q=>∃a xs,x=.ref a/\ez X.K H a xs/\∀p,H p=none->Q (.ref p) (upd H p (.lst xs.reverse))):=by intro pins s U H x v sl u Q I rx hs h;obtain⟨a,xs,rfl,hx,q⟩:=h;cases rx;obtain⟨its,r,ht,hz⟩:=I.list hx;have hlen:=r.length;refine⟨"list",_,slot_list_getitem.lookup,ht.isList.typeIs,?_⟩;refine wpAny_getItem_list_slice ht.isList hs .none .none (.int (-1) u) (by simp) ?_ (by rw[LU];lk);rw[PySem.W.krv_pick];refine⟨.ref s.heap.objs.size,_,I.laid (t':=s.toks) (o:=.lst xs.reverse) (λb ob q=>LA _ q) (LI _) ?_,rfl,q _ (I.hok.fresh (LI _))⟩;exact⟨by rw[MT];exact hz,_,0,r.reverse,LJ _ rfl⟩
end
def rD:∀(names:List (Str×NameKind)) (n:Nat) (acc:List (Str×Addr)),cellsFrom n names acc=cellsFrom n names [] ++ acc
 |[],_,_=>rfl
 |(x,k) :: r,n,acc=>by
  show(if k == .cell then cellsFrom (n+1) r ((x,n) :: acc)else cellsFrom n r acc)=(if k == .cell then cellsFrom (n+1) r [(x,n)]else cellsFrom n r []) ++ acc;by_cases hk:(k == NameKind.cell)=true;rw[if_pos hk,if_pos hk,rD r (n+1) ((x,n) :: acc),rD r (n+1) [(x,n)],List.append_assoc];rfl;rw[if_neg hk,if_neg hk];exact rD r n acc
def vF{x:Str}{c:Addr}:∀(names:List (Str×NameKind)) (n:Nat),(x,c)∈cellsFrom n names []->(x,NameKind.cell)∈names/\n<=c
 |[],_,h=>nomatch h
 |(y,k) :: r,n,h=>by
  have h':(x,c)∈(if k == .cell then cellsFrom (n+1) r [(y,n)]else cellsFrom n r []):=h;by_cases hk:(k == NameKind.cell)=true;rw[if_pos hk,rD]at h';rcases Mi.mp h' with h'|h'
  obtain⟨h1,h2⟩:=vF r (n+1) h';exact⟨LQ _ h1,by lk⟩;have e:(x,c)=(y,n):=by simpa using h'
  cases e;have e2:k=NameKind.cell:=by simpa using hk
  subst e2;exact⟨LL,LI _⟩;rw[if_neg hk]at h';obtain⟨h1,h2⟩:=vF r n h';exact⟨LQ _ h1,h2⟩
def AF{env:Env}(f:Str×NameKind->List (Str×Addr)->Sem (ForInStep (List (Str×Addr))))
  (hf:∀name kind cs,f (name,kind) cs=if kind == .free then(do let c <- cellOf env name;pure (.yield ((name,c) :: cs)))else pure (.yield cs)) :
  ∀(names:List (Str×NameKind)) (acc:List (Str×Addr)),(∀y∈names,y.2=NameKind.free->∃c,env.cells.lookup y.1=some c) ->
   ∃cl,(forIn names acc f:Sem (List (Str×Addr)))=pure cl/\(∀n c,(n,c)∈cl->(n,c)∈acc\/(env.cells.lookup n=some c/\(n,NameKind.free)∈names))/\(∀p∈acc,p∈cl)/\∀n,(n,NameKind.free)∈names->∃c,(n,c)∈cl
 |[],acc,_=>⟨acc,by rw[Nb],λn c h=>.inl h,λp h=>h,λn h=>nomatch h⟩
 |(x,k) :: r,acc,h=>by
  have hr:∀y∈r,y.2=NameKind.free->∃c,env.cells.lookup y.1=some c:=λy hy=>h y (LQ _ hy);by_cases hk:k=NameKind.free;subst hk;obtain⟨c,hc⟩:=h (x,.free) LL rfl;have e:cellOf env x=pure c:=by unfold cellOf;rw[hc]
  obtain⟨cl,e1,h1,h2,h3⟩:=AF f hf r ((x,c) :: acc) hr;refine⟨cl,?_,λn d hd=>?_,λp hp=>h2 p (LQ _ hp),λn hn=>?_⟩;rw[M4,hf,if_pos (by rfl),e];exact e1;rcases h1 n d hd with q|⟨q,q'⟩
  rcases LO.mp q with q|q
  cases q;exact .inr ⟨hc,LL⟩;exact .inl q;exact .inr ⟨q,LQ _ q'⟩;rcases LO.mp hn with q|q
  cases q;exact⟨c,h2 _ LL⟩;exact h3 n q;obtain⟨cl,e1,h1,h2,h3⟩:=AF f hf r acc hr;have hb:¬((k == NameKind.free)=true):=by simpa using hk
  refine⟨cl,?_,λn d hd=>?_,h2,λn hn=>?_⟩;rw[M4,hf,if_neg hb];exact e1;rcases h1 n d hd with q|⟨q,q'⟩
  exact .inl q;exact .inr ⟨q,LQ _ q'⟩;rcases LO.mp hn with q|q
  cases q;exact absurd rfl hk;exact h3 n q
def yL{scope:Scope}{env:Env}(h:∀y∈scope.names,y.2=NameKind.free->∃c,env.cells.lookup y.1=some c):
  ∃cl,closureFor scope env=pure cl/\(∀n c,(n,c)∈cl->env.cells.lookup n=some c/\(n,NameKind.free)∈scope.names)/\∀n,(n,NameKind.free)∈scope.names->∃c,(n,c)∈cl:=by
 have key:∀ (f:Str×NameKind->List (Str×Addr)->Sem (ForInStep (List (Str×Addr)))),(∀ name kind cs,f (name,kind) cs=if kind == .free then(do let c <- cellOf env name;pure (.yield ((name,c) :: cs)))else pure (.yield cs)) ->
   ∃cl,((forIn scope.names [] f:Sem (List (Str×Addr))) >>= λr=>pure r)=pure cl/\(∀n c,(n,c)∈cl->env.cells.lookup n=some c/\(n,NameKind.free)∈scope.names)/\∀n,(n,NameKind.free)∈scope.names->∃c,(n,c)∈cl:=λf hf=>by
  obtain⟨cl,e,h1,_,h3⟩:=AF f hf scope.names [] h;refine⟨cl,?_,λn c hc=>(h1 n c hc).elim (λz=>nomatch z) id,h3⟩;rw[e];rfl
 simp only[closureFor];exact key _ λname kind cs=>by cases hk:kind == NameKind.free<;>simp[hk]
def ltN{a b:Addr}(h:a<b):@LT.lt Nat _ a b:=h
def ku{a b:Addr}(h:@LT.lt Nat _ a b):a≠b:=L7 h
def uk{a b:Addr}(h:@LT.lt Nat _ b a):a≠b:=MH h
def AG{M:Model}{A:Around}{E:Value->Shared->Prop}{s:Shared}{scope:Scope}{g:Addr}{cl:List (Str×Addr)}{q:Str}{env:Env}{Q:Env->Shared->Prop}
  (h:∀h',h'.Ns s.heap.objs.size (λ_=>none)->(∀b o,s.heap.get? b=some o->h'.get? b=some o)->CellsOk h' (s.heap.objs.size+1) (cellsFrom (s.heap.objs.size+1) scope.names []) ->
   Q { scope:=scope,locals:=s.heap.objs.size,globals:=g,cells:=cellsFrom (s.heap.objs.size+1) scope.names cl,qual:=q,func:=none,code:=env.code,frame:=env.frame,builtins:=env.builtins } { s with heap:=h' }) :
  wpAny M A (newFunctionEnv scope g cl [] q none .none (some env)) Q E s:=by
 simp only[newFunctionEnv,Option.isSome_some,if_true];refine wpAny_bind (wpAny_alloc ?_);refine wpAny_bind (wpAny_layCells _ (λname kind cells=>by cases hkc:kind == NameKind.cell<;>simp[hkc]) _ _ _ _ ?_);have ok:=cellsFrom_ok scope.names (s.heap.push { cls:=.type "dict",data:=.dict #[] }) (s.heap.objs.size+1) [] ⟨λ_ _ hm=>(nomatch hm),List.Pairwise.nil⟩ (by rw[Ml];exact LI _);rw[Ml]at ok;rw[show({ s with heap:=s.heap.push { cls:=.type "dict",data:=.dict #[] } }:Shared).heap.objs.size=s.heap.objs.size+1 from Ml ..];refine wpAny_bind ?_;rw[Nb];refine wpAny_pure (wpAny_pure ?_);exact h _ ((Heap.Ns.new s.heap (.type "dict")).keeps (pushCells_keeps _ _)) (λb o e=>pushCells_keeps _ _ b o (LA _ e)) ok
abbrev ai(X:Cx)(N:List Str)(scope:Scope)(cells:List (Str×Addr))(C:Addr)(fp:List Addr)(s:Shared)(H:Hp):Cx where
 prog:=X.prog
 w:=X.w
 K:=X.K
 mg:=X.mg
 base:=X.base
 A:=X.A
 N:=N
 s₀:=s
 H₀:=H
 env:=compEnvC scope cells C X.env
 outer:=X.stack
 stack:=X.stack
 ex:=fp
 fn:=λx=>decide (scope.names.lookup x=some .cell)
 calm:=X.calm
 pn:=[]
 xe:=λ_ _=>False
structure vG(sc scope:Scope)(own fr:List Str):Prop where
 kind:scope.kind=.function
 nd:(own ++ fr).Nodup
 mG:(scope.names.map (·.1)).Nodup
 free:∀y∈scope.names,y.2=.free->sc.names.lookup y.1=some .cell\/sc.names.lookup y.1=some .free
 vH:∀x∈fr,scope.names.lookup x=some .free
structure bH(X:Cx)(scope:Scope)(own fr:List Str)(js:List Nat):Prop where
 c:vG X.env.scope scope own fr
 ix:js.map (λj=>X.N[j]?)=fr.map some
def bH.kind{X:Cx}{scope:Scope}{own fr:List Str}{js:List Nat}(S:bH X scope own fr js):scope.kind=.function:=S.c.kind
def bH.mG{X:Cx}{scope:Scope}{own fr:List Str}{js:List Nat}(S:bH X scope own fr js):(scope.names.map (·.1)).Nodup:=S.c.mG
def bH.vH{X:Cx}{scope:Scope}{own fr:List Str}{js:List Nat}(S:bH X scope own fr js):∀x∈fr,scope.names.lookup x=some .free:=S.c.vH
def bH.free{X:Cx}{scope:Scope}{own fr:List Str}{js:List Nat}(S:bH X scope own fr js):∀y∈scope.names,y.2=.free->X.env.kindOf y.1=some .cell\/X.env.kindOf y.1=some .free:=S.c.free
def nr{J:Type}:∀{l:List (Str×J)} {n:Str} {c:J},(l.map (·.1)).Nodup->(n,c)∈l->l.lookup n=some c
 |(k,v) :: r,n,c,nd,h=>by
  obtain⟨h1,h2⟩:=MU.mp nd;rw[Mr];rcases LO.mp h with e|h
  cases e;simp
  have:(n == k)=false:=beq_eq_false_iff_ne.mpr λe=>h1 (by rw[<- e];exact LX.mpr ⟨(n,c),h,rfl⟩)
  rw[this];exact nr h2 h
def um(scope:Scope)(env:Env)(x:Str):(relabel scope env).names.lookup x=none/\scope.names.lookup x=none \/
  ∃k,scope.names.lookup x=some k/\(relabel scope env).names.lookup x=some (if(k == .free && env.scope.kind == .function && env.kindOf x == some .cell)then .cell else k):=by
 have key:∀ names:List (Str×NameKind),(names.map λ(n,k)=>if(k == NameKind.free && env.scope.kind == .function && env.kindOf n == some .cell)then(n,NameKind.cell)else(n,k)).lookup x=none/\names.lookup x=none \/
   ∃k,names.lookup x=some k/\(names.map λ(n,k)=>if(k == NameKind.free && env.scope.kind == .function && env.kindOf n == some .cell)then(n,NameKind.cell)else(n,k)).lookup x=some (if(k == .free && env.scope.kind == .function && env.kindOf x == some .cell)then .cell else k):=by
  intro names
  induction names with
  |nil=>exact .inl ⟨rfl,rfl⟩
  |cons p r ih =>
   obtain⟨n,k⟩:=p;rw[Mt];cases hx:x == n with
   |true =>
    have e:x=n:=by simpa using hx
    subst e;refine .inr ⟨k,by simp[Mr],?_⟩;by_cases hc:(k == NameKind.free && env.scope.kind == .function && env.kindOf x == some .cell)=true;simp only[if_pos hc];simp[Mr];simp only[if_neg hc];simp[Mr]
   |false =>
    have e1:∀q:NameKind,(((n,q) :: (r.map λ(n,k)=>if(k == NameKind.free && env.scope.kind == .function && env.kindOf n == some .cell)then(n,NameKind.cell)else(n,k))).lookup x)=((r.map λ(n,k)=>if(k == NameKind.free && env.scope.kind == .function && env.kindOf n == some .cell)then(n,NameKind.cell)else(n,k)).lookup x):=λq=>by rw[Mr,hx]
    have e2:((n,k) :: r).lookup x=r.lookup x:=by rw[Mr,hx]
    rw[e2];by_cases hc:(k == NameKind.free && env.scope.kind == .function && env.kindOf n == some .cell)=true;simp only[if_pos hc];rw[e1];exact ih;simp only[if_neg hc];rw[e1];exact ih
 exact key scope.names
abbrev bq(n:Nat)(js:List Nat)(U:St):St:=List.replicate n none ++ js.map λj=>U.getD j none
def Inv.nt{X:Cx}{pins:List (Addr×Obj)}{U:St}{H:Hp}{s:Shared}{a:Addr}{o:HO}(I:Inv X pins U H s)(f:bp X pins H a)(new:aT X.prog X.w (upd H a o) s.heap a o):Inv X pins U (upd H a o) s:=by
 obtain⟨f0,f1,f2,f3,f4,f5⟩:=f;have ne:∀b u,H b=some u->b≠a:=λb u e z=>by rw[z,f0]at e;cases e
 refine I.step (h':=s.heap) (H':=upd H a o) (g':=s.gens) (d':=s.drawn) (t':=s.toks) (ch:=[a]) (λb hb=>?_) (λb u _ _ _ e _=>e) (λb u _ _ _ e _=>⟨u.slots,e⟩) (λb u hb e n=>?_) (λb u _ e=>⟨u,e⟩)
  (λb xs e=>by rw[bg (ne b _ e)];exact e) (λb u xs e=>by rw[bg (ne b _ e)];exact e) (λb ps e=>⟨#[],by rw[bg (ne b _ e),e];simp⟩) (λm hm=>hm) (λb u e=>?_) I.bare
 have e:b=a:=by simpa using hb
 subst e;exact⟨f3,f1,f4,f5⟩;rw[bg (λz=>hb (by simp[z]))];exact n;by_cases hb:b=a;subst hb;rw[gw]at e;cases e;exact new;rw[bg hb]at e;exact(I.hok b u e).stay (λc v _ q=>q) (λc q=>by rw[bg (ne c _ q)];exact q) λc xs q=>by rw[bg (ne c _ q)];exact q
abbrev PF(X:Cx)(ifs:List Expr)(t:TT):Prop :=
 ∀(pins:List (Addr×Obj)) (s:Shared) (U:St) (H:Hp) (Q:Bool->Hp->Prop),Inv X pins U H s->t U H Q ->
  wpAny (model X.prog X.w) X.A (forIn ifs true λc r=>if r=true then do let ok <- isTrue c X.env (eval c X.env);pure (ForInStep.yield ok)else pure (ForInStep.yield r)) (TP X pins U Q) X.xe s
def rE{X:Cx}:PF X [] (λ_ H Q=>Q true H):=λ_ _ _ H _ I h=>wpAny_tests_nil ⟨H,I,h⟩
def rF{X:Cx}{c:Expr}{t:TT}(h:PT X c t):PF X [c] t:=λpins s U H Q I hw=>wpAny_tests_one (h pins s U H Q I hw)
def Dp{prog:Program}{w:World}{A:Around}{R:Result->Shared->Prop}{s:Shared}{elt target iter:Expr}{ifs:List Expr}{scope:Scope}{pos:Pos}{it acc:Value}{env:Env}(I:Nat->Shared->Prop)
  (turn:∀n s,I n s->wpAny (model prog w) A (pyNext it) (λr s₁=>match r with
   |none=>R (.ok .next) s₁
   | some v=>wpAny (model prog w) A (letOwnedTupleGo target it v) (λ_ s₁'=>wpAny (model prog w) A (assign target env v) (λ_ s₂ =>
     wpAny (model prog w) A (forIn ifs true λc r=>if r=true then do let ok <- isTrue c env (eval c env);pure (ForInStep.yield ok)else pure (ForInStep.yield r)) (λok s₃ =>
      if ok=true then wpAny (model prog w) A (eval elt env) (λx s₄ =>
       wpAny (model prog w) A (call (.builtin "list.append") [acc,x]) (λ_ s₅=>∃m,m<n/\I m s₅) (λ_ _=>False) s₄) (λ_ _=>False) s₃
      else∃m,m<n/\I m s₃) (λ_ _=>False) s₂) (λ_ _=>False) s₁') (λ_ _=>False) s₁) (λ_ _=>False) s)
  (n:Nat) (h:I n s) :
  codeAny (model prog w) A (.compLoop (.ListComp elt [⟨target,iter,ifs,0⟩] scope pos) 0 it acc env) R s:=by
 refine codeAny_loop rfl I (λn s hI=>?_) n h;show wpAny _ A ((compTurn (.ListComp elt [⟨target,iter,ifs,0⟩] scope pos) 0 it acc env).onRaise (λx=>do noteFrame x env;theTreesLotGoes x)) _ _ s;refine wpAny_noted ?_;rw[compTurn_list];refine wpAny_bind (wpAny_standAt (wpAny_bind (wpAny_mono (turn n s hI) (λr s₁ h₁=>?_) λ_ _ h'=>h'.elim)));cases r with
 |none=>exact wpAny_pure h₁
 |some v =>
  refine wpAny_bind (wpAny_mono h₁ (λ_ s₁' h₁'=>?_) λ_ _ h'=>h'.elim);refine wpAny_bind (wpAny_mono h₁' (λ_ s₂ h₂=>wpAny_bind (wpAny_mono h₂ (λok s₃ h₃=>?_) λ_ _ h'=>h'.elim)) λ_ _ h'=>h'.elim);cases ok with
  |false=>exact wpAny_pure ⟨rfl,h₃⟩
  |true =>
   exact wpAny_bind (wpAny_bind (wpAny_mono h₃ (λx s₄ h₄=>wpAny_bind (wpAny_mono h₄ (λ_ s₅ h₅=>wpAny_pure (wpAny_pure ⟨rfl,h₅⟩)) λ_ _ h'=>h'.elim)) λ_ _ h'=>h'.elim))
abbrev rG(J:It)(n:Nat)(js:List Nat)(g:TG)(tc:TT)(te:TE)(U:St)(H1:Hp)(Q:VK):Prop :=
 ∃W:Nat->Nat->List V->St->Hp->Prop,(∃m,W 0 m [] (bq n js U) H1)/\∀i m ys U' H',W i m ys U' H' ->
  ys.length<sizeLine/\((J.stop i H'/\∀p,H' p=none->Q (.ref p) (upd H' p (.lst ys))) \/
   (J.go i H'/\∀x H2,J.kz i H' x H2->g x U' H2 λU2 H3=>tc U2 H3 λb H4=>if b=true then te U2 H4 λy H5=>∃m',m' < m/\W (i+1) m' (ys ++ [y]) U2 H5 else∃m',m' < m/\W (i+1) m' ys U2 H4))
abbrev gA(wi:TI)(n:Nat)(js:List Nat)(g:TG)(tc:TT)(te:TE):TE:=λU H Q=>wi U H λJ H1=>rG J n js g tc te U H1 Q
section
variable {X:Cx}{pins:List (Addr×Obj)}{U:St}{tg iter elt:Expr}{ifs:List Expr}{scope:Scope}{pos:Pos}{own fr:List Str}{js:List Nat}{g:TG}{tc:TT}{te:TE}{wi:TI}
def Dq{H2:Hp}{s2:Shared}{it:Addr}{fp:List Addr}{tn:Nat->Heap->Prop}{J:It}{Q:VK}{E:Value->Shared->Prop}{cl:List (Str×Addr)}{RR:Value->Addr->Result->Shared->Prop}
  (hc:X.calm=true) (S:bH X scope own fr js) (hg:∀cells C fp s H,PG (ai X (own ++ fr) scope cells C fp s H) tg g) (hf:∀cells C fp s H,PF (ai X (own ++ fr) scope cells C fp s H) ifs tc) (he:∀cells C fp s H,PE (ai X (own ++ fr) scope cells C fp s H) elt te)
  (I2:Inv X pins U H2 s2) (T:Turn X.prog X.w X.K tg J fp it tn) (st2:tn 0 s2.heap) (f2:∀b∈fp,bp X pins H2 b)
  (c5:∀n c,(n,c)∈cl->X.env.cells.lookup n=some c/\(n,NameKind.free)∈scope.names) (fX:∀n,(n,NameKind.free)∈scope.names->∃c,(n,c)∈cl)
  (W:Nat->Nat->List V->St->Hp->Prop) (m0:Nat) (w0:W 0 m0 [] (bq own.length js U) H2)
  (turn:∀i m ys U' H',W i m ys U' H'->ys.length<sizeLine/\((J.stop i H'/\∀p,H' p=none->Q (.ref p) (upd H' p (.lst ys))) \/
   (J.go i H'/\∀x H2,J.kz i H' x H2->g x U' H2 λU2 H3=>tc U2 H3 λb H4=>if b=true then te U2 H4 λy H5=>∃m',m' < m/\W (i+1) m' (ys ++ [y]) U2 H5 else∃m',m' < m/\W (i+1) m' ys U2 H4)))
  (fin:∀(acc C:Addr) (H':Hp) (s':Shared) (v:V),v=.ref acc->Inv X pins U H' s'->bp X pins H' C->(∃m,s'.heap.Ns C m)->Q v H'->RR (.ref acc) C (.ok .next) s') :
  wpAny (model X.prog X.w) X.A (newList []) (λacc s3=>wpAny (model X.prog X.w) X.A (newFunctionEnv scope X.env.globals cl [] X.env.qual none .none (some X.env)) (λcenv s4 =>
   codeAny (model X.prog X.w) X.A (.compStart (.ListComp elt [⟨tg,iter,ifs,0⟩] scope pos) 0 (.ref it) acc { cenv with scope:=relabel scope X.env }) (RR acc cenv.locals) s4) E s3) E s2:=by
 refine wpAny_newObj_type ?_;refine AG λh4 hns oh bO=>?_;have hA:s2.heap.objs.size<(s2.heap.push { cls:=.type "list",data:=.seq ([]:List Value).toArray }).objs.size:=by rw[Ml];exact Mu _
 generalize hC:(s2.heap.push { cls:=.type "list",data:=.seq ([]:List Value).toArray }).objs.size=C at hns bO hA ⊢;generalize hac:s2.heap.objs.size=acc at hA ⊢;have nu:acc≠C:=L7 hA;have old:∀b o,s2.heap.get? b=some o->h4.get? b=some o:=λb o e=>oh b o (LA _ e);have hacc:h4.get? acc=some { cls:=.type "list",data:=.seq ([]:List Value).toArray }:=oh _ _ (by rw[<- hac];exact LJ _ rfl);have ny:∀x c,(x,c)∈cellsFrom (C+1) scope.names []->h4.IsCell c none/\C+1<=c/\scope.names.lookup x=some .cell:=λx c h=>⟨(bO.empty x c h).1,(bO.empty x c h).2,nr S.mG (vF _ _ h).1⟩;have lk:∀x c,(cellsFrom (C+1) scope.names cl).lookup x=some c->(h4.IsCell c none/\C+1<=c/\(x,c)∈cellsFrom (C+1) scope.names [])\/(X.env.cells.lookup x=some c/\scope.names.lookup x=some .free):=λx c h=>by
  rw[rD]at h;rcases Mi.mp (PySem.mem_of_lookup h)with q|q
  exact .inl ⟨(ny x c q).1,(ny x c q).2.1,q⟩;exact .inr ⟨(c5 x c q).1,nr S.mG (c5 x c q).2⟩
 have nz:∀x c,X.env.cells.lookup x=some c->c<s2.heap.objs.size:=λx c h=>by
  obtain⟨v,z⟩:=I2.cell x c h;exact z.lt
 have cM:∀x c,(cellsFrom (C+1) scope.names cl).lookup x=some c->c≠C/\c≠acc/\H2 c=none/\∀b∈fp,c≠b:=λx c h=>by
  rcases lk x c h with⟨_,h1,_⟩|⟨h1,_⟩
  refine⟨uk ⋯,uk ⋯,I2.hok.fresh ⋯,λb hb z=>?_⟩;obtain⟨o,e,_⟩:=T.obj 0 _ st2 b hb;have:=ltN (LD e);rw[<- z]at this;lk
  have:=ltN (nz x c h1)
  exact⟨ku ⋯,ku ⋯,I2.b6 x c h1,λb hb=>(f2 b hb).2.2.2.2.1 x c h1⟩
 have jR:∀x,scope.names.lookup x=some .free->∃c,X.env.cells.lookup x=some c/\(cellsFrom (C+1) scope.names cl).lookup x=some c:=λx h=>by
  obtain⟨c,cK⟩:=fX x (PySem.mem_of_lookup h);have hc1:=(c5 x c cK).1;have hs:((cellsFrom (C+1) scope.names cl).lookup x).isSome=true:=by
   refine PySem.W.cellsFrom_some scope.names (C+1) cl (.inr ?_);cases q:cl.lookup x with
   |some d=>rfl
   |none =>
    exfalso;have:∀{l:List (Str×Addr)},(x,c)∈l->l.lookup x≠none:=by
     intro l
     induction l with
     |nil=>intro h;exact nomatch h
     |cons p r ih =>
      intro h z;obtain⟨k,v⟩:=p;rw[Mr]at z;cases hb:x == k with
      |true=>rw[hb]at z;cases z
      |false =>
       rw[hb]at z;rcases LO.mp h with e|h
       cases e;simp at hb;exact ih h z
    exact this cK q
  obtain⟨d,hd⟩:=Mj.mp hs;rcases lk x d hd with⟨_,_,h2⟩|⟨h1,_⟩
  have:=(ny x d h2).2.2
  rw[h]at this;cases this;rw[hc1]at h1;cases h1;exact⟨c,hc1,hd⟩
 have lr:∀b∈fp,b≠C/\b≠acc:=λb hb=>by
  obtain⟨o,e,_⟩:=T.obj 0 _ st2 b hb;have:=ltN (LD e);exact⟨ku ⋯,ku ⋯⟩
 have vI:(relabel scope X.env).kind=.function:=S.kind;have ok:(ai X (own ++ fr) scope (cellsFrom (C+1) scope.names cl) C fp s2 H2).Ok:=by
  refine⟨I2.ok.mod,vI,I2.ok.glob,I2.ok.blt,?_,λx y c h1 h2=>?_,λx hx=>?_,λx c hx h=>?_,I2.ok.hd,I2.ok.frames,.inl rfl,λb hb=>⟨(lr b hb).1,λx c h=>(cM x c h).2.2.2 b hb⟩,I2.bs,L5 I2.ok.je I2.sz,λb o e hb=>?_,λb hb z=>?_,I2.stack,I2.dn⟩;show s2.heap.objs.size<=C;lk;rcases lk x c h1 with⟨_,q1,q2⟩|⟨q1,_⟩
  rcases lk y c h2 with⟨_,r1,r2⟩|⟨r1,_⟩
  exact name_of_addr bO.apart q2 r2
  have:=ltN (nz y c r1);lk
  rcases lk y c h2 with⟨_,r1,r2⟩|⟨r1,_⟩
  have:=ltN (nz x c q1);lk
  exact I2.ok.inj x y c q1 r1;have hx':(relabel scope X.env).names.lookup x=some .cell\/(relabel scope X.env).names.lookup x=some .free:=hx;rcases um scope X.env x with⟨e,_⟩|⟨k,e1,e2⟩
  rcases hx' with z|z<;>(rw[e]at z;cases z)
  by_cases hk:k=.free;subst hk;obtain⟨c,_,h⟩:=jR x e1;exact⟨c,h⟩;have hk':k=.cell:=by
   have hb:(k == NameKind.free)=false:=beq_eq_false_iff_ne.mpr hk;rw[hb]at e2;simp only[Na,ML,if_false]at e2;rcases hx' with z|z
   rw[e2]at z;exact LH z;rw[e2]at z;exact absurd (LH z) hk
  subst hk';exact Mj.mp (PySem.W.cellsFrom_some scope.names (C+1) cl (.inl e1));have hx':scope.names.lookup x=some .cell:=of_decide_eq_true hx;show s2.heap.objs.size<=c;rcases lk x c h with⟨_,q,_⟩|⟨_,q⟩
  lk;rw[hx']at q;cases q;rcases(f2 b hb).2.2.2.1 with z|z
  exact I2.ok.gI b o e z;have h1:@LT.lt Nat _ b X.base.objs.size:=LD e;have h2:=I2.ok.je;lk;rcases LO.mp (I2.cj b z)with e|e
  exact(f2 b hb).2.1 e;exact(f2 b hb).2.2.1 e
 have I4:Inv (ai X (own ++ fr) scope (cellsFrom (C+1) scope.names cl) C fp s2 H2) [(acc,{ cls:=.type "list",data:=.seq ([]:List Value).toArray })] (bq own.length js U) H2 { s2 with heap:=h4 }:=by
  refine⟨ok,rfl,I2.bare,Un.kept old,⟨_,hns,λi x v e1 e2 e3=>?_⟩,λx c h=>?_,I2.hok.fresh (by show s2.heap.objs.size<=C;lk),λx c h=>(cM x c h).2.2.1,λp hp=>?_,I2.hok.kept old,?_⟩;have nA:(own ++ fr)[i]?=some x:=e1;unfold bq at e2;by_cases hi:i<own.length;rw[L0 (by simpa using hi),Ms]at e2;split at e2<;>cases e2;rw[LV (by simpa using hi),Mk,L3]at e2;rw[LV ⋯]at nA;cases hj:js[i-own.length]? with
  |none=>rw[hj]at e2;cases e2
  |some j =>
   rw[hj]at e2;have jh:U.getD j none=some v:=LH e2;have hN:X.N[j]?=some x:=by
    have q:=congrArg (λl=>l[i-own.length]?) S.ix;simp only[L3,hj,nA,Option.map_some]at q;exact LH q
   have hσ:U[j]?=some (some v):=by
    rw[MA]at jh;cases q:U[j]? with
    |none=>rw[q]at jh;cases jh
    |some o=>rw[q]at jh;exact congrArg some jh
   have hfr:scope.names.lookup x=some .free:=S.vH x (L6 nA);have hk:=S.free _ (PySem.mem_of_lookup hfr) rfl;obtain⟨m,_,hl⟩:=I2.loc;obtain⟨u,ru,lo⟩:=hl j x v hN hσ (by rcases hk with k|k;exact .inr (.inl k);exact .inr (.inr k));refine⟨u,ru,.inr ⟨?_,?_⟩⟩;rcases um scope X.env x with⟨_,e⟩|⟨k,q1,q2⟩
   rw[hfr]at e;cases e;rw[hfr]at q1;cases q1;have vJ:(compEnvC scope (cellsFrom (C+1) scope.names cl) C X.env).kindOf x=some (if(NameKind.free == .free && X.env.scope.kind == .function && X.env.kindOf x == some .cell)=true then .cell else .free):=q2;rw[show(ai X (own ++ fr) scope (cellsFrom (C+1) scope.names cl) C fp s2 H2).env.kindOf x=_ from vJ];split;exact .inl rfl;exact .inr rfl;rcases lo with⟨k,_⟩|⟨_,c,hc1,hc2⟩
   rcases hk with k'|k'<;>(rw[k]at k';cases k')
   obtain⟨d,hd1,hd2⟩:=jR x hfr;rw[hc1]at hd1;cases hd1;exact⟨c,hd2,hc2.keeps old⟩
  rcases lk x c h with⟨q,_,_⟩|⟨q,_⟩
  exact⟨_,q⟩;obtain⟨v,z⟩:=I2.cell x c q;exact⟨v,z.keeps old⟩;have e:p=(acc,{ cls:=.type "list",data:=.seq ([]:List Value).toArray }):=by simpa[ai]using hp
  subst e;refine⟨hacc,I2.hok.fresh ⋯,nu,λz=>?_,λv z=>nomatch z⟩;rcases LO.mp (I2.cj acc z)with e|e
  have:=ltN I2.lt
  rw[<- e]at this;lk;exact I2.oG ⋯ e;show(bq own.length js U).length=(own ++ fr).length;have q:=congrArg List.length S.ix;simp only[LG]at q;unfold bq;rw[LP,Mk,LG,LP,q]
 have nC:∀{H':Hp} {ob:Obj},(∀b∈fp,H' b=none)->∀b∈fp,bp (ai X (own ++ fr) scope (cellsFrom (C+1) scope.names cl) C fp s2 H2) [(acc,ob)] H' b:=λ{H' ob} hn b hb =>
  ⟨hn b hb,(lr b hb).1,λz=>by
   rcases LO.mp (I2.cj b z)with e|e
   exact(f2 b hb).2.1 e;exact(f2 b hb).2.2.1 e,.inl hb,λx c h=>(cM x c h).2.2.2 b hb,λp hp=>by
   have e:p=(acc,ob):=by simpa[ai]using hp
   subst e
   exactλz=>(lr b hb).2 z.symm⟩
 have loop:codeAny (model X.prog X.w) X.A (.compLoop (.ListComp elt [⟨tg,iter,ifs,0⟩] scope pos) 0 (.ref it) (.ref acc) (compEnvC scope (cellsFrom (C+1) scope.names cl) C X.env)) (RR (.ref acc) C) { s2 with heap:=h4 }:=by
  refine Dp (λm s'=>∃(i:Nat) (ys:List V) (its:List Value) (n:Nat) (U':St) (H':Hp),Inv (ai X (own ++ fr) scope (cellsFrom (C+1) scope.names cl) C fp s2 H2) [(acc,{ cls:=.type "list",data:=.seq its.toArray n })] U' H' s'/\Vals ys its/\tn i s'.heap/\(∀b∈fp,H' b=none)/\W i m ys U' H') ?_ m0
   ⟨0,[],[],0,_,H2,I4,.nil,T.keep _ _ _ st2 λb _ o e=>old b o e,λb hb=>(f2 b hb).1,w0⟩
  rintro n s5 ⟨i,ys,its,en,U5,H5,I5,rv,fQ,og,w5⟩;obtain⟨hz,alt⟩:=turn i n ys U5 H5 w5;rcases alt with⟨stop,qn⟩|⟨go,step⟩
  refine aP (T.done (ai X (own ++ fr) scope (cellsFrom (C+1) scope.names cl) C fp s2 H2) rfl rfl rfl hc i _ s5 U5 H5 _ I5 (nC og) fQ stop) λr s6 ⟨hr,I6⟩=>?_;subst hr;show RR (.ref acc) C (.ok .next) s6;have u:Un (frs X.stack) fp H2 H5 s2.heap s6.heap:=I6.base;have J6:Inv X pins U H5 s6:=I2.iS I6.os u I6.hok I6.bare λb hb=>⟨(f2 b hb).2.2.2.1,(f2 b hb).2.1,(f2 b hb).2.2.2.2.1,(f2 b hb).2.2.2.2.2⟩;have pacc:=I6.pin (acc,_) (LK _ LL);have nD:bp X pins H5 acc:=I2.fM ⋯ pacc.2.1;have fC:bp X pins H5 C:=I2.fM ⋯ I6.free;have K6:Inv X pins U (upd H5 acc (.lst ys)) s6:=J6.nt nD ⟨MG hz,its,en,rv,pacc.1⟩;obtain⟨m,hm,_⟩:=I6.loc;exact fin acc C _ s6 (.ref acc) rfl K6 ⟨by rw[bg nu.symm];exact fC.1,fC.2⟩ ⟨m,hm⟩ (qn acc pacc.2.1);refine aP (T.item (ai X (own ++ fr) scope (cellsFrom (C+1) scope.names cl) C fp s2 H2) rfl rfl rfl hc i _ s5 U5 H5 _ I5 (nC og) fQ go) λr s6 ⟨u,hr,h6⟩=>?_;subst hr;refine aP h6 λ_ s7 ⟨x,H7,I7,r7,y7,mH,vK⟩=>?_;have vL:=I7.pinned (nC vK) (T.obj _ _ mH);refine aP (hg _ _ _ _ _ _ s7 U5 H7 x u _ vL r7 (step x H7 y7)) λ_ s8 ⟨U8,H8,I8,q8⟩=>?_;refine aP (hf _ _ _ _ _ _ s8 U8 H8 _ I8 q8) λb s9 ⟨H9,I9,q9⟩=>?_;have lu:∀{s':Shared} {U':St} {H':Hp},Inv (ai X (own ++ fr) scope (cellsFrom (C+1) scope.names cl) C fp s2 H2) ([(acc,{ cls:=.type "list",data:=.seq its.toArray en })] ++ fu fp s7.heap) U' H' s'->tn (i+1) s'.heap/\∀b∈fp,H' b=none:=λ{s' U' H'} I' =>
   ⟨T.keep _ _ _ mH λb hb o e=>(I'.pin (b,o) (LK _ (LK _ (pK hb e)))).1,λb hb=>by
    obtain⟨o,e,d⟩:=T.obj _ _ mH b hb
    exact(I'.pin (b,o) (LK _ (LK _ (pK hb e)))).2.1⟩
  cases b with
  |false =>
   obtain⟨m',hm,w9⟩:=q9;exact⟨m',hm,i+1,ys,its,en,U8,H9,I9.cX,rv,(lu I9).1,(lu I9).2,w9⟩
  |true =>
   refine aP (he _ _ _ _ _ _ s9 U8 H9 _ I9 q9) λy l6 ⟨yv,nE,kh,vM,m',hm,vN⟩=>?_;have pacc:=kh.pin (acc,_) (LK _ (Mm _ LL));have hlen:=rv.length;refine wpAny_list_append_plain (items:=its.toArray) ⟨en,pacc.1⟩ (λh11 ⟨pV,nF⟩ jS=>?_) (by simp only[LU];lk);have cA:∀x c,(cellsFrom (C+1) scope.names cl).lookup x=some c->c≠acc:=λx c h=>(cM x c h).2.1;have Ia:Inv (ai X (own ++ fr) scope (cellsFrom (C+1) scope.names cl) C fp s2 H2) [] U8 nE l6:=kh.cL λp hp=>nomatch hp;have Ib:Inv (ai X (own ++ fr) scope (cellsFrom (C+1) scope.names cl) C fp s2 H2) [] U8 nE { l6 with heap:=h11 }:=Ia.turned (it:=acc) (t':=l6.toks) (λb o hb e=>(jS.2 b hb).trans e) pacc.2.1 nu (.inr (by show s2.heap.objs.size<=acc;lk)) cA λp hp=>nomatch (show p∈([]:List (Addr×Obj))from by simpa[ai]using hp);refine⟨m',hm,i+1,ys ++ [yv],its ++ [y],pV,U8,nE,Ib.cL λp hp=>?_,rv.append (.cons vM .nil),T.keep _ _ _ (lu kh).1 λb hb o e=>(jS.2 b (lr b hb).2).trans e,(lu kh).2,vN⟩;have e:p=(acc,{ cls:=.type "list",data:=.seq (its ++ [y]).toArray pV }):=by simpa using hp
   subst e;exact⟨by simpa using nF,pacc.2.1,pacc.2.2.1,pacc.2.2.2.1,λv z=>nomatch z⟩
 exact codeAny_compStart_list loop (T.self X.A 0 _ _ _ (T.keep _ _ _ st2 λb _ o e=>old b o e) loop)
def yM(hc:X.calm=true)(S:bH X scope own fr js)(hi:PI X tg iter wi)(hg:∀cells C fp s H,PG (ai X (own ++ fr) scope cells C fp s H) tg g)(hf:∀cells C fp s H,PF (ai X (own ++ fr) scope cells C fp s H) ifs tc)(he:∀cells C fp s H,PE (ai X (own ++ fr) scope cells C fp s H) elt te)
  (hs:∀x,foldedSetIterable iter X.env x=pure x:=by intro _;rfl):PE X (.ListComp elt [⟨tg,iter,ifs,0⟩] scope pos) (gA wi own.length js g tc te):=by
 intro pins s U H Q I h;obtain⟨cl,hcl,c5,fX⟩:=yL (scope:=scope) (env:=X.env) λy hy hk=>I.ok.has y.1 (S.free y hy hk);rw[eval_ListComp];refine wpAny_comprehension_free (use:=none) rfl hs hcl S.kind (λy hy hk=>by rw[<- hk];exact nr S.mG hy) (aP (hi pins s U H _ I h) λv s1 h1=>aP h1 λitv s2 h2=>?_);obtain⟨it,fp,tn,J,H2,e,I2,T,st2,f2,W,⟨m0,w0⟩,turn⟩:=h2;subst e;refine Dq (RR:=λacc C=>compPost (model X.prog X.w) X.A X.xe none (EP X pins U Q) acc C) hc S hg hf he I2 T st2 f2 c5 fX W m0 w0 turn ?_;intro acc C H' s' v hv I' fC ⟨m,hm⟩ q;subst hv;obtain⟨f0,f1,yN,f3,f4,f5⟩:=fC;exact⟨m,hm,λh'' ji=>⟨.ref acc,H',I'.turned (it:=C) (t':=s'.toks) (λb o hb e=>(ji.2 b hb).trans e) f0 f1 f3 f4 f5,rfl,q⟩⟩
def Ds{i:Nat}{x:Str}{pos' spos:Pos}(hc:X.calm=true)(hN:X.N.Nodup)(hx:X.N[i]?=some x)(hl:X.env.scope.names.lookup x=some .local)(S:bH X scope own fr js)(hi:PI X tg iter wi)(hg:∀cells C fp s H,PG (ai X (own ++ fr) scope cells C fp s H) tg g)(hf:∀cells C fp s H,PF (ai X (own ++ fr) scope cells C fp s H) ifs tc)(he:∀cells C fp s H,PE (ai X (own ++ fr) scope cells C fp s H) elt te)
  (hsw:swapsWith (.ListComp elt [⟨tg,iter,ifs,0⟩] scope pos) (some (.Name x pos')) spos.line X.env=pure true:=by rfl)
  (hs:∀x,foldedSetIterable iter X.env x=pure x:=by intro _;rfl):PS X (.Assign [.Name x pos'] (.ListComp elt [⟨tg,iter,ifs,0⟩] scope pos) spos) (mX (gA wi own.length js g tc te) (iX i)):=by
 intro pins s U H D I h;obtain⟨cl,hcl,c5,fX⟩:=yL (scope:=scope) (env:=X.env) λy hy hk=>I.ok.has y.1 (S.free y hy hk);rw[exec_Assign_Name_used _ _ _ _ hsw];refine wpAny_bind (wpAny_standAt (wpAny_bind ?_));show wpAny _ X.A (do let _ <- comprehension (.ListComp elt [⟨tg,iter,ifs,0⟩] scope pos) scope X.env _ (newList []) false (eval iter X.env) (some (assign (.Name x pos') X.env))) _ _ s
 refine wpAny_bind (wpAny_mono (wpAny_comprehension_free (use:=some (assign (.Name x pos') X.env)) (Q:=λ_ s'=>SP X pins D .next s') rfl hs hcl S.kind (λy hy hk=>by rw[<- hk];exact nr S.mG hy)
  (aP (hi pins s U H _ I h) λv s1 h1=>aP h1 λitv s2 h2=>?_)) (λ_ s' hq=>wpAny_pure (wpAny_pure hq)) λ_ _ e=>e)
 obtain⟨it,fp,tn,J,H2,e,I2,T,st2,f2,W,⟨m0,w0⟩,turn⟩:=h2;subst e;refine Dq (Q:=λv H'=>iX i v U H' D.nx) (RR:=λacc C=>compPost (model X.prog X.w) X.A X.xe (some (assign (.Name x pos') X.env)) (λ_ s'=>SP X pins D .next s') acc C) hc S hg hf he I2 T st2 f2 c5 fX W m0 w0 turn ?_;intro acc C H' s' v hv I' fC ⟨m,hm⟩ q;subst hv;obtain⟨f0,f1,yN,f3,f4,f5⟩:=fC;show wpAny _ X.A (assign (.Name x pos') X.env (.ref acc)) _ _ _;refine wpAny_assign_Name (CG I' hN hx (.inl hl) (show RelV (.ref acc) (.ref acc)from rfl) (λs'' GA ⟨a,hs1,ha⟩=>?_) (.inr hl));have haC:a≠C:=by
  rcases ha with e|e
  rw[e];exact f1.symm;exact f4 _ _ e
 exact⟨m,hm.sameBut hs1 haC.symm,λh'' ji=>⟨_,H',GA.turned (it:=C) (t':=s''.toks) (λb o hb e=>(ji.2 b hb).trans e) f0 f1 f3 f4 f5,q⟩⟩
end
section
variable {X:Cx}
def Dt:∀{bs:List Bool} {us:List Value} {i:Nat} {v:Value},Vals (bs.map V.bl) us->us[i]?=some v->∃b,bs[i]?=some b/\v=.bool b
 |[],_,i,v,r,h=>by cases r;simp at h
 |b :: bs,_,0,v,r,h=>by
  cases r with
  |cons r1 r2 =>
   cases(show _=Value.bool b from r1);simp at h;exact⟨b,rfl,h.symm⟩
 |b :: bs,_,i+1,v,r,h=>by
  cases r with
  |cons r1 r2 =>
   obtain⟨c,e1,e2⟩:=Dt (i:=i) r2 (by simpa using h);exact⟨c,by simpa using e1,e2⟩
def AH(hc:X.calm=true):dX X (.builtin "all") (λxs H Q=>∃(p:Addr) (bs:List Bool),xs=[.ref p]/\ez X.K H p (bs.map V.bl)/\Q (.bl (bs.all id)) H):=by
 intro pins s U H xs us Q I r h;obtain⟨p,bs,rfl,hq,q⟩:=h;obtain⟨u,rfl,ru⟩:=vals1 r;cases ru;obtain⟨its,rv,pl,_⟩:=I.list hq;have hl:=pl.isList;have hlt:p<s.heap.objs.size:=by obtain⟨_,e,_⟩:=hl;exact LD e
 have hlen:=rv.length;rw[LG]at hlen;have hh:X.A.in1.handled=none:=I.ok.hd hc;refine call_all_walk (wpAny_pyIter_list hl ?_)
 refine⟨s.heap.objs.size,[s.heap.objs.size,p],[s.heap.objs.size],its.toArray.size,_,_,λi=>(bs[i]?).getD true,rfl,Walks.list (A:=X.A.in1) hh _ p (L7 hlt) its.toArray,
  ⟨⟨_,LJ _ rfl,rfl,rfl⟩,hl.push _⟩,λi v s' Q' E' hP hQ=>?_,λh' tk hk=>?_⟩
 obtain⟨b,e,rfl⟩:=Dt rv (by simpa using hP);simp only[e,Option.getD_some]at hQ;exact wpAny_truthy_bool hQ;have e:((List.range its.toArray.size).all λi=>(bs[i]?).getD true)=bs.all id:=by
  rw[LU,<- hlen];exact PyProof.Rows.LSm.range_all bs
 rw[e];exact⟨.bl _,H,I.kept (PyProof.Rows.LSm.kept_iter hk),rfl,q⟩
end
section
variable {prog:Program}{w:World}{A:Around}{E:Value->Shared->Prop}{s:Shared}
def GB{j t:Addr}{i:Nat}{ys:Array Value}{y:Value}{Q:Value->Shared->Prop}(hj:s.heap.IsTupleIter j t i)(ht:s.heap.IsTuple t ys)(hy:ys[i]?=some y)
  (hQ:∀h',h'.IsTupleIter j t (i+1)->Heap.SameBut j s.heap h'->Q y { s with heap:=h' }):wpAny (model prog w) A (Builtin.SmallTypes.nextOf (.ref j)) Q E s:=by
 obtain⟨r,hr,rc,rd⟩:=id hj;obtain⟨q,hq,_,nq,dq⟩:=ht;unfold Builtin.SmallTypes.nextOf;refine wpAny_bind (wpAny_callSpecial?_slot (name:=Str.ofString "__next__") hj.typeIs F.slot_tuple_iterator_next (wpAny_call_entry F.slot_tuple_iterator_next hj.typeIs F.entry_tuple_iterator_next ?_ (F.args_tuple_iterator_next_1 _)));show wpAny _ _ (PySem.field (.ref j) 0 >>= _) _ _ s;refine wpAny_bind (wpAny_field hr rd (x:=.ref t) rfl ?_);show wpAny _ _ (if(Value.ref t == Value.none)=true then _ else _) _ _ s;rw[if_neg (λz:(Value.ref t == Value.none)=true=>LC z)];show wpAny _ _ (PySem.field (.ref j) 1 >>= _) _ _ s;refine wpAny_bind (wpAny_field hr rd (x:=.int i 0) rfl ?_);show wpAny _ _ (seqItems? (.ref t) >>= _) _ _ s;refine wpAny_bind (wpAny_seqItems hq dq ?_);simp only[MF,hy];refine wpAny_bind (wpAny_setField hr rd (by simp) (wpAny_pure ⟨y,rfl,wpAny_pure (hQ _ ⟨_,Ma _ hr (Obj.isFreed_of_fields (Obj.data_mapFields rd _)),(Obj.cls_mapFields ..).trans rc,by rw[Obj.data_mapFields rd];simp[rawInt]⟩ (Heap.SameBut.update ..))⟩))
def GC{j t:Addr}{i:Nat}{ys:Array Value}{Q:Value->Shared->Prop}(hh:A.handled=none)(hj:s.heap.IsTupleIter j t i)(ht:s.heap.IsTuple t ys)(hy:ys[i]?=none)
  (hE:∀h' e,Heap.ExtBut j s.heap h'->(∃o,h'.get? e=some o/\o.cls=.type "StopIteration")->E (.ref e) { s with heap:=h' }):wpAny (model prog w) A (Builtin.SmallTypes.nextOf (.ref j)) Q E s:=by
 obtain⟨r,hr,rc,rd⟩:=id hj;obtain⟨q,hq,_,nq,dq⟩:=ht;unfold Builtin.SmallTypes.nextOf;refine wpAny_bind (wpAny_callSpecial?_slot (name:=Str.ofString "__next__") hj.typeIs F.slot_tuple_iterator_next (wpAny_call_entry F.slot_tuple_iterator_next hj.typeIs F.entry_tuple_iterator_next ?_ (F.args_tuple_iterator_next_1 _)));show wpAny _ _ (PySem.field (.ref j) 0 >>= _) _ _ s;refine wpAny_bind (wpAny_field hr rd (x:=.ref t) rfl ?_);show wpAny _ _ (if(Value.ref t == Value.none)=true then _ else _) _ _ s;rw[if_neg (λz:(Value.ref t == Value.none)=true=>LC z)];show wpAny _ _ (PySem.field (.ref j) 1 >>= _) _ _ s;refine wpAny_bind (wpAny_field hr rd (x:=.int i 0) rfl ?_);show wpAny _ _ (seqItems? (.ref t) >>= _) _ _ s;refine wpAny_bind (wpAny_seqItems hq dq ?_);simp only[MF,hy];refine wpAny_bind (wpAny_rule (wpAny_bind (wpAny_setField hr rd (by simp) ?_)));show wpAny _ _ (newExc (.type "StopIteration") [] >>= _) _ _ _;refine wpAny_bind ?_;simp only[newExc,newTuple];refine wpAny_bind (wpAny_newObj_type ?_ (by size_fits));refine wpAny_bind (m:=firstArgMember _ _) (wpAny_of_eq (a:=Value.none) (by first|rfl|(simp only[firstArgMember];rfl)) ?_);refine wpAny_newObj_type ?_ (by size_fits);simp only[raiseNew];refine wpAny_bind (wpAny_handled ?_);first|rw[show A.in1.handled=none from hh]|rw[hh]
 exact wpAny_bind (wpAny_pure (wpAny_throw (hE _ _ (((Heap.SameBut.update ..).extBut.push _).push _) ⟨_,LJ _ rfl,rfl⟩)))
end
def nG{prog:Program}{w:World}{A:Around}(hh:A.handled=none)(j t:Addr)(hne:t≠j)(ys:Array Value):
  Draws prog w A j [j,t] ys.size (λi v=>ys[i]?=some v) (λi h=>h.IsTupleIter j t i/\h.IsTuple t ys) where
 live:=λ_ _ st=>let ⟨o,ho,_⟩:=st.1;⟨o,ho⟩
 frame:=λ_ _ _ st k=>⟨st.1.at λo e=>k j (by simp) o e,let ⟨o,e,r⟩:=st.2;⟨o,k t (by simp) o e,r⟩⟩
 item:=λi s Q E hi st hQ=>GB st.1 st.2 (y:=ys[i]) (by simp[hi]) λh' a b=>hQ _ h' s.toks (by simp[hi]) ⟨a,st.2.extBut b.extBut hne⟩ b
 done:=λs Q E st hE=>GC hh st.1 st.2 (by simp) hE
section
variable {X:Cx}{pins:List (Addr×Obj)}{U:St}{H:Hp}{s:Shared}{h':Heap}
def Inv.lx{t':Nat}{ch:List Addr}(I:Inv X pins U H s)(k:∀b o,b ∉ ch->s.heap.get? b=some o->h'.get? b=some o)(f:∀b∈ch,bp X pins H b):Inv X pins U H { s with heap:=h',toks:=t' }:=by
 have uY:∀b u,H b=some u->b ∉ ch:=λb u e z=>by rw[(f b z).1]at e;cases e
 refine I.step (g':=s.gens) (d':=s.drawn) (ch:=ch) (λb hb=>⟨(f b hb).2.2.2.1,(f b hb).2.1,(f b hb).2.2.2.2.1,(f b hb).2.2.2.2.2⟩) (λb o _ _ hc e _=>k b o hc e) (λb o _ _ hc e _=>⟨o.slots,k b o hc e⟩) (λ_ _ _ _ n=>n)
  (λb o hc e=>⟨o,k b o hc e⟩) (λ_ _ e=>e) (λ_ _ _ e=>e) (λb ps e=>⟨#[],by rw[e];simp⟩) (λm hm=>?_) (λb u e=>?_) I.bare
 obtain⟨o,es,ep,ho,r⟩:=hm;exact⟨o,es,ep,k _ o (λz=>(f _ z).2.1 rfl) ho,r⟩;refine(I.hok b u e).stay (λc v hc q=>k c v ?_ q) (λ_ q=>q) λ_ _ q=>q;rcases hc with z|z
 rw[z];exact uY b u e;exact uY c _ z
end
section
variable {X:Cx}{K:Zfr}
def Du{es:List Expr}{k:Nat}{t:mW}{n:Nat}{pos:Pos}(hK:X.K=K)(hc:X.calm=true)(h:va X es t)
  (hn:(assignEach es X.env).length=n:=by rfl) (hst:(assignEach es X.env).findIdx? (·.1)=none:=by rfl):PG X (.Tuple es k pos) (qP K n t):=by subst hK;exact CL hc h hn hst
end
open Builtin.Str
section
variable {X:Cx}{K:Zfr}
def Dv:∀{xs:List Str} {us:List Value},Vals (xs.map V.str) us->∃l:List (Str×Tok),us=strValues l/\l.map (·.1)=xs
 |[],us,h=>by
  cases us with
  |nil=>exact⟨[],rfl,rfl⟩
  |cons a b=>cases h
 |x :: xs,us,h=>by
  cases us with
  |nil=>cases h
  |cons u us =>
   cases h with
   |cons r t =>
    obtain⟨l,e1,e2⟩:=Dv t;obtain⟨tk,rfl⟩:=r;exact⟨(x,tk) :: l,by rw[e1];rfl,by rw[Mt,e2]⟩
def Dw(sep:Str)(hs:sep.length<=10):∀(ts:List Str),(∀y∈ts,y.length<=100)->(Str.join sep ts).length<=110*ts.length
 |[],_=>Mx _
 |[x],h=>by have:=h x (by simp);show x.length<=_;simp only[LZ,M5];lk
 |x :: y :: r,h=>by
  have h1:=h x (by simp);have h2:=Dw sep hs (y :: r) λz hz=>h z (LQ _ hz);have e:(Str.join sep (x :: y :: r)).length=x.length+sep.length+(Str.join sep (y :: r)).length:=by
   show(x ++ sep ++ Str.join sep (y :: r)).length=_;show(Str.append (Str.append x sep) (Str.join sep (y :: r))).cps.size=_;simp only[Str.append,Array.size_append,Str.length]
  rw[e];simp only[LZ]at h2 ⊢;lk
abbrev rJoin(K:Zfr):V->List V->Hp->VK->Prop:=λx vs H Q=>∃(sep:Str) (a:Addr) (xs:List Str),x=.str sep/\vs=[.ref a]/\ez K H a (xs.map V.str)/\xs.length<=100000/\sep.length<=10/\(∀y∈xs,y.length<=100)/\Q (.str (Str.join sep xs)) H
def vO:De X "str.join" (rJoin X.K):=by
 intro pins s U H x xs v us Q I rx rv h;obtain⟨sep,a,ts,rfl,rfl,hq,h1,h2,h3,q⟩:=h;obtain⟨t,rfl⟩:=rx;obtain⟨u,rfl,ru⟩:=vals1 rv;cases ru;obtain⟨its,r,pl,hz⟩:=I.list hq;obtain⟨l,rfl,e2⟩:=Dv r;have hfit:tooLong ((l.map (·.1)).toArray.foldl (· + ·.length+sep.length) 0)=false:=by
  rw[e2];have a1:ts.length*sep.length<=100000*10:=Nat.mul_le_mul h1 h2;exact StrLaws.joinFits (B:=100) h3 ⋯
 refine call_meets F.slot_str_join (typeIs_str s sep t) F.entry_str_join (F.args_str_join_2 _ _) (meets_str_join_list sep t a l hfit) ⟨pl.isList,?_⟩;have fin:∀tk k,EP X pins U Q (.str (Str.join sep ts) tk) { s with toks:=k }:=λtk k=>⟨.str _,H,I.tok _,⟨_,rfl⟩,q⟩;have hlen:=Dw sep h2 ts h3;have hz2:(Str.join sep ts).length<=sizeLine:=by
  have e:sizeLine=16777216:=rfl;lk
 match l,e2 with
 |[],e2 =>
  cases e2;exact⟨hz2,fin _ _⟩
 |[p],e2 =>
  cases e2;exact fin p.2 s.toks
 |p :: p2 :: r,e2 =>
  show(glued sep ((p :: p2 :: r).map (·.1))).length<=sizeLine/\_;rw[StrLaws.glued_eq_join,e2];exact⟨hz2,fin _ _⟩
end
abbrev AI(x:Str):It:=⟨λi _=>i<x.cps.size,λi H y H'=>H'=H/\∃c,x.cps[i]?=some c/\y=.str ⟨#[c]⟩,λi _=>x.cps.size<=i⟩
def GD{P:Program}{w:World}{K:Zfr}{tg:Expr}(it:Addr)(x:Str)(t:Tok):Turn P w K tg (AI x) [it] it (λi h=>h.IsStrIter it "str_ascii_iterator" x t i) where
 mem:=by simp
 obj:=λi h st b hb=>by
  have e:b=it:=by simpa using hb
  subst e;obtain⟨o,e,c,d⟩:=st;exact⟨o,e,λv z=>by rw[d]at z;cases z⟩
 keep:=λi h h' st k=>let ⟨o,ho,r⟩:=st;⟨o,k it (by simp) o ho,r⟩
 item:=by
  intro X hP hw hK hc i pins s U H E I hf st hg;subst hP hw hK;have hg:i<x.cps.size:=hg;obtain⟨f0,f1,f2,f3,f4,f5⟩:=hf it (by simp);refine wpAny_pyNext_ascii_item st (c:=x.cps[i]) (by simp[hg]) λh' st' sb=>?_;have I1:Inv X pins U H { s with heap:=h',toks:=s.toks+1 }:=I.turned (λb o hb e=>(sb.2 b hb).trans e) f0 f1 f3 f4 f5;obtain⟨o,e,c,d⟩:=id st';exact⟨_,rfl,ug (s:={ s with heap:=h',toks:=s.toks+1 }) e c d ∅ ⟨.str ⟨#[x.cps[i]]⟩,H,I1,⟨_,rfl⟩,⟨rfl,_,by simp[hg],rfl⟩,st',λb hb=>(hf b hb).1⟩⟩
 done:=by
  intro X hP hw hK hc i pins s U H E I hf st hg;subst hP hw hK;have hg:x.cps.size<=i:=hg;obtain⟨f0,f1,f2,f3,f4,f5⟩:=hf it (by simp);exact wpAny_pyNext_ascii_end (I.ok.hd hc) st (by simp[hg]) λh' eb=>⟨rfl,I.turned (t':=s.toks) (λb o hb e=>eb b o hb e) f0 f1 f3 f4 f5⟩
 self:=λ_ _ _ _ _ st h=>wpAny_pyIter_striter_ascii st h
def GF{P:Program}{w:World}{K:Zfr}{tg:Expr}(it:Addr)(x:Str)(t:Tok):Turn P w K tg (AI x) [it] it (λi h=>h.IsStrIter it "str_iterator" x t i) where
 mem:=by simp
 obj:=λi h st b hb=>by
  have e:b=it:=by simpa using hb
  subst e;obtain⟨o,e,c,d⟩:=st;exact⟨o,e,λv z=>by rw[d]at z;cases z⟩
 keep:=λi h h' st k=>let ⟨o,ho,r⟩:=st;⟨o,k it (by simp) o ho,r⟩
 item:=by
  intro X hP hw hK hc i pins s U H E I hf st hg;subst hP hw hK;have hg:i<x.cps.size:=hg;obtain⟨f0,f1,f2,f3,f4,f5⟩:=hf it (by simp);refine wpAny_pyNext_wide_item st (c:=x.cps[i]) (by simp[hg]) λh' st' sb=>?_;have I1:Inv X pins U H { s with heap:=h',toks:=s.toks+1 }:=I.turned (λb o hb e=>(sb.2 b hb).trans e) f0 f1 f3 f4 f5;obtain⟨o,e,c,d⟩:=id st';exact⟨_,rfl,ug (s:={ s with heap:=h',toks:=s.toks+1 }) e c d ∅ ⟨.str ⟨#[x.cps[i]]⟩,H,I1,⟨_,rfl⟩,⟨rfl,_,by simp[hg],rfl⟩,st',λb hb=>(hf b hb).1⟩⟩
 done:=by
  intro X hP hw hK hc i pins s U H E I hf st hg;subst hP hw hK;have hg:x.cps.size<=i:=hg;obtain⟨f0,f1,f2,f3,f4,f5⟩:=hf it (by simp);exact wpAny_pyNext_wide_end (I.ok.hd hc) st (by simp[hg]) λh' eb=>⟨rfl,I.turned (t':=s.toks) (λb o hb e=>eb b o hb e) f0 f1 f3 f4 f5⟩
 self:=λ_ _ _ _ _ st h=>wpAny_pyIter_striter_wide st h
section
variable {X:Cx}{tg:Expr}
abbrev vP(tl:TE):TI:=λU H R=>tl U H λx H1=>∃z,x=.str z/\R (AI z) H1
def Dx{l:Expr}{tl:TE}(hl:PE X l tl):PI X tg l (vP tl):=by
 intro pins s U H R I h;refine aP (hl pins s U H _ I h) λv s1 ⟨x,H1,I1,r1,q1⟩=>?_;obtain⟨z,e,q⟩:=q1;subst e;obtain⟨t,rfl⟩:=r1;have fp:∀b∈[s1.heap.objs.size],bp X pins H1 b:=λb hb=>by
  have e:b=s1.heap.objs.size:=by simpa using hb
  subst e;exact I1.fM (LI _) (I1.hok.fresh (LI _))
 cases ha:z.cps.all (· < 128);refine wpAny_pyIter_wide ha ?_;exact⟨s1.heap.objs.size,[s1.heap.objs.size],_,_,H1,rfl,I1.kept (t':=s1.toks) λb o e=>LA _ e,GF _ z t,⟨_,LJ _ rfl,rfl,rfl⟩,fp,q⟩;refine wpAny_pyIter_ascii ha ?_;exact⟨s1.heap.objs.size,[s1.heap.objs.size],_,_,H1,rfl,I1.kept (t':=s1.toks) λb o e=>LA _ e,GD _ z t,⟨_,LJ _ rfl,rfl,rfl⟩,fp,q⟩
end
end L2
namespace L2
open PySem PySem.Spec PyProof.Rows
open Builtin.Str
section
variable {prog:Program}{w:World}{A:Around}{E:Value->Shared->Prop}{s:Shared}
structure fY(z TI TO i1 i2:Addr)(iI g9:List Addr):Prop where
 TIz:TI≠z
 TOz:TO≠z
 i1z:i1≠z
 i2z:i2≠z
 TITO:TI≠TO
 TOi1:TO≠i1
 TOi2:TO≠i2
 i12:i1≠i2
 m1:i1∈iI
 m2:i2∈g9
 z1:∀b∈iI,b≠z/\b≠TO/\b≠i2
 z2:∀b∈g9,b≠z/\b≠TO/\b≠i1
def GG{z TI TO i1 i2:Addr}{iI g9:List Addr}{n1 n2 k:Nat}{P1 P2:Nat->Value->Prop}{kE ki:Nat->Heap->Prop}{a b:Value}{Q:Value->Shared->Prop}(D:fY z TI TO i1 i2 iI g9)
  (D1:Draws prog w A i1 iI n1 P1 kE) (D2:Draws prog w A i2 g9 n2 P2 ki)
  (hz:IsZip s.heap z TI TO .none) (hTI:IsPair s.heap TI (.ref i1) (.ref i2)) (hTO:IsPair s.heap TO a b)
  (h1:kE k s.heap) (h2:ki k s.heap) (hk1:k<n1) (hk2:k<n2)
  (hQ:∀x y h' tk,P1 k x->P2 k y->IsZip h' z TI TO (rawInt s.heap.objs.size)->IsPair h' TO x y->kE (k+1) h'->ki (k+1) h'->IsPair h' s.heap.objs.size x y->h'.objs.size=s.heap.objs.size+1 ->
   (∀c o,c≠z->c≠TO->c≠i1->c≠i2->s.heap.get? c=some o->h'.get? c=some o)->Q (.ref s.heap.objs.size) { s with heap:=h',toks:=tk }) :
  wpAny (model prog w) A (Builtin.«zip.__next__» ⟨[.ref z],[]⟩) (λfin s'=>∃v,fin=.done (.ret v)/\Q v s') E s:=by
 show wpAny _ _ (field (.ref z) 2 >>= _) _ _ _;refine wpAny_bind (wpAny_field hz rfl (x:=.bool false) rfl ?_);show wpAny _ _ (field (.ref z) 3 >>= _) _ _ _;refine wpAny_bind (wpAny_field hz rfl (x:=.ref TI) rfl ?_);refine wpAny_bind (wpAny_seqItems hTI rfl ?_);show wpAny _ _ (Builtin.SmallTypes.ownedTupleIsFree (.ref z) >>= _) _ _ _;refine wpAny_bind ?_;unfold Builtin.SmallTypes.ownedTupleIsFree;refine wpAny_bind (wpAny_field hz rfl (x:=.none) rfl (wpAny_pure ?_));simp only[if_true];refine wpAny_bind (wpAny_rule ?_);refine wpAny_bind (wpAny_field hz rfl (x:=.ref TO) rfl ?_);refine wpAny_bind (wpAny_setField_rec hz (by simp) λh₁ hz₁ hs₁=>?_);replace hz₁:IsZip h₁ z TI TO .ellipsis:=hz₁;refine wpAny_bind ?_;simp only[List.zipIdx_cons,List.zipIdx_nil,M4,Nb];refine wpAny_bind (wpAny_bind (wpAny_onRaise ?_));show wpAny _ _ (Builtin.SmallTypes.nextOf (.ref i1) >>= _) _ _ _;refine wpAny_bind (D1.item k { s with heap:=h₁ } _ _ hk1 (D1.frame _ _ _ h1 λc hc o e=>hs₁.extBut _ _ (D.z1 c hc).1 e) λx h₂ tk₂ hx h1₂ hs₂=>wpAny_pure ?_);replace hs₂:Heap.SameBut i1 h₁ h₂:=hs₂;have hTO₂:IsPair h₂ TO a b:=hs₂.extBut _ _ D.TOi1 (hs₁.extBut _ _ D.TOz hTO);refine wpAny_bind (wpAny_seqItems hTO₂ rfl ?_);refine wpAny_bind (wpAny_updateSeq_pair hTO₂ λh₃ hTO₃ hs₃=>?_);replace hs₃:Heap.SameBut TO h₂ h₃:=hs₃;replace hTO₃:IsPair h₃ TO x b:=hTO₃;refine wpAny_bind (wpAny_letGo (wpAny_pure ?_));refine wpAny_bind (wpAny_bind (wpAny_onRaise ?_));show wpAny _ _ (Builtin.SmallTypes.nextOf (.ref i2) >>= _) _ _ _;have h2₃:ki k h₃:=D2.frame _ _ _ h2 λc hc o e=>hs₃.extBut _ _ (D.z2 c hc).2.1 (hs₂.extBut _ _ (D.z2 c hc).2.2 (hs₁.extBut _ _ (D.z2 c hc).1 e));refine wpAny_bind (D2.item k { s with heap:=h₃,toks:=tk₂ } _ _ hk2 h2₃ λy h₄ tk₄ hy h2₄ hs₄=>wpAny_pure ?_);replace hs₄:Heap.SameBut i2 h₃ h₄:=hs₄;have hTO₄:IsPair h₄ TO x b:=hs₄.extBut _ _ D.TOi2 hTO₃;refine wpAny_bind (wpAny_seqItems hTO₄ rfl ?_);refine wpAny_bind (wpAny_updateSeq_pair hTO₄ λh₅ hTO₅ hs₅=>?_);replace hs₅:Heap.SameBut TO h₄ h₅:=hs₅;replace hTO₅:IsPair h₅ TO x y:=hTO₅;refine wpAny_bind (wpAny_letGo (wpAny_pure (wpAny_pure ?_)));refine wpAny_bind (wpAny_seqItems hTO₅ rfl ?_);refine wpAny_bind (wpAny_newTuple ?_);have hsz:h₅.objs.size=s.heap.objs.size:=by rw[hs₅.1,hs₄.1,hs₃.1,hs₂.1,hs₁.1]
 have hz₅:IsZip h₅ z TI TO .ellipsis:=hs₅.extBut _ _ D.TOz.symm (hs₄.extBut _ _ D.i2z.symm (hs₃.extBut _ _ D.TOz.symm (hs₂.extBut _ _ D.i1z.symm hz₁)));have hk₅:∀c o,c≠z->c≠TO->c≠i1->c≠i2->s.heap.get? c=some o->h₅.get? c=some o:=λc o c1 c2 c3 c4 e =>
  hs₅.extBut _ _ c2 (hs₄.extBut _ _ c4 (hs₃.extBut _ _ c2 (hs₂.extBut _ _ c3 (hs₁.extBut _ _ c1 e))))
 have h1₅:kE (k+1) h₅:=D1.frame _ _ _ h1₂ λc hc o e=>hs₅.extBut _ _ (D.z1 c hc).2.1 (hs₄.extBut _ _ (D.z1 c hc).2.2 (hs₃.extBut _ _ (D.z1 c hc).2.1 e));have h2₅:ki (k+1) h₅:=D2.frame _ _ _ h2₄ λc hc o e=>hs₅.extBut _ _ (D.z2 c hc).2.1 e;have vQ:z<h₅.objs.size:=LD hz₅;show wpAny _ _ (Builtin.SmallTypes.ownedTupleHandOut (.ref z) (.ref h₅.objs.size) >>= _) _ _ _;refine wpAny_bind ?_;unfold Builtin.SmallTypes.ownedTupleHandOut;have hz₆:IsZip (h₅.push { cls:=.type "tuple",data:=.seq #[x,y] }) z TI TO .ellipsis:=LA _ hz₅;refine wpAny_bind (wpAny_setField_rec hz₆ (by simp) λh₇ hz₇ hs₇=>?_);replace hz₇:IsZip h₇ z TI TO (rawInt h₅.objs.size):=hz₇;refine wpAny_setField_rec hz₇ (by simp) λh₈ hz₈ hs₈=>?_;replace hz₈:IsZip h₈ z TI TO (rawInt h₅.objs.size):=hz₈;replace hs₇:Heap.SameBut z (h₅.push { cls:=.type "tuple",data:=.seq #[x,y] }) h₇:=hs₇;replace hs₈:Heap.SameBut z h₇ h₈:=hs₈;have up:∀c o,c≠z->h₅.get? c=some o->h₈.get? c=some o:=λc o c1 e=>hs₈.extBut _ _ c1 (hs₇.extBut _ _ c1 (LA _ e));have hT₈:IsPair h₈ h₅.objs.size x y:=hs₈.extBut _ _ (MH vQ) (hs₇.extBut _ _ (MH vQ) (LJ _ rfl));have Dy:h₈.objs.size=h₅.objs.size+1:=by rw[hs₈.1,hs₇.1,Ml]
 rw[hsz]at hz₈ hT₈ Dy;refine wpAny_pure ⟨_,rfl,?_⟩;show Q (.ref h₅.objs.size) _;rw[hsz];exact hQ x y h₈ tk₄ hx hy hz₈ (up _ _ D.TOz hTO₅) (D1.frame _ _ _ h1₅ λc hc o e=>up _ o (D.z1 c hc).1 e) (D2.frame _ _ _ h2₅ λc hc o e=>up _ o (D.z2 c hc).1 e) hT₈ Dy λc o c1 c2 c3 c4 e=>up c o c1 (hk₅ c o c1 c2 c3 c4 e)
def GH{z TI TO i1 i2:Addr}{iI g9:List Addr}{n1 n2 k:Nat}{P1 P2:Nat->Value->Prop}{kE ki:Nat->Heap->Prop}{a b:Value}{Q:Fin->Shared->Prop}(D:fY z TI TO i1 i2 iI g9)
  (D1:Draws prog w A i1 iI n1 P1 kE) (D2:Draws prog w A i2 g9 n2 P2 ki)
  (hz:IsZip s.heap z TI TO .none) (hTI:IsPair s.heap TI (.ref i1) (.ref i2)) (hTO:IsPair s.heap TO a b)
  (h1:kE k s.heap) (h2:ki k s.heap) (hend:k=n1\/(k<n1/\k=n2))
  (hE:∀h' tk e,(∀c o,c≠z->c≠TO->c≠i1->c≠i2->s.heap.get? c=some o->h'.get? c=some o)->(∃o,h'.get? e=some o/\o.cls=.type "StopIteration")->E (.ref e) { s with heap:=h',toks:=tk }) :
  wpAny (model prog w) A (Builtin.«zip.__next__» ⟨[.ref z],[]⟩) Q E s:=by
 show wpAny _ _ (field (.ref z) 2 >>= _) _ _ _;refine wpAny_bind (wpAny_field hz rfl (x:=.bool false) rfl ?_);show wpAny _ _ (field (.ref z) 3 >>= _) _ _ _;refine wpAny_bind (wpAny_field hz rfl (x:=.ref TI) rfl ?_);refine wpAny_bind (wpAny_seqItems hTI rfl ?_);show wpAny _ _ (Builtin.SmallTypes.ownedTupleIsFree (.ref z) >>= _) _ _ _;refine wpAny_bind ?_;unfold Builtin.SmallTypes.ownedTupleIsFree;refine wpAny_bind (wpAny_field hz rfl (x:=.none) rfl (wpAny_pure ?_));simp only[if_true];refine wpAny_bind (wpAny_rule ?_);refine wpAny_bind (wpAny_field hz rfl (x:=.ref TO) rfl ?_);refine wpAny_bind (wpAny_setField_rec hz (by simp) λh₁ hz₁ hs₁=>?_);replace hz₁:IsZip h₁ z TI TO .ellipsis:=hz₁;refine wpAny_bind ?_;simp only[List.zipIdx_cons,List.zipIdx_nil,M4,Nb];refine wpAny_bind (wpAny_bind (wpAny_onRaise ?_));show wpAny _ _ (Builtin.SmallTypes.nextOf (.ref i1) >>= _) _ _ _;have h1₁:kE k h₁:=D1.frame _ _ _ h1 λc hc o e=>hs₁.extBut _ _ (D.z1 c hc).1 e;rcases hend with rfl|⟨hk1,rfl⟩
 refine wpAny_bind (D1.done { s with heap:=h₁ } _ _ h1₁ λh₂ e hs₂ he=>?_);obtain⟨oe,mI,hce⟩:=he;replace hs₂:Heap.ExtBut i1 h₁ h₂:=hs₂;have hz₂:IsZip h₂ z TI TO .ellipsis:=hs₂ _ _ D.i1z.symm hz₁;have AJ:e≠z:=λx=>by subst x;rw[hz₂]at mI;cases mI;simp at hce
 refine wpAny_setField_rec hz₂ (by simp) λh₃ _ hs₃=>hE h₃ s.toks e (λc o c1 _ c3 _ x=>hs₃.extBut _ _ c1 (hs₂ _ _ c3 (hs₁.extBut _ _ c1 x))) ⟨oe,hs₃.extBut _ _ AJ mI,hce⟩;refine wpAny_bind (D1.item k { s with heap:=h₁ } _ _ hk1 h1₁ λx h₂ tk₂ hx h1₂ hs₂=>wpAny_pure ?_);replace hs₂:Heap.SameBut i1 h₁ h₂:=hs₂;have hTO₂:IsPair h₂ TO a b:=hs₂.extBut _ _ D.TOi1 (hs₁.extBut _ _ D.TOz hTO);refine wpAny_bind (wpAny_seqItems hTO₂ rfl ?_);refine wpAny_bind (wpAny_updateSeq_pair hTO₂ λh₃ hTO₃ hs₃=>?_);replace hs₃:Heap.SameBut TO h₂ h₃:=hs₃;refine wpAny_bind (wpAny_letGo (wpAny_pure ?_));refine wpAny_bind (wpAny_bind (wpAny_onRaise ?_));show wpAny _ _ (Builtin.SmallTypes.nextOf (.ref i2) >>= _) _ _ _;have h2₃:ki k h₃:=D2.frame _ _ _ h2 λc hc o e=>hs₃.extBut _ _ (D.z2 c hc).2.1 (hs₂.extBut _ _ (D.z2 c hc).2.2 (hs₁.extBut _ _ (D.z2 c hc).1 e));refine wpAny_bind (D2.done { s with heap:=h₃,toks:=tk₂ } _ _ h2₃ λh₄ e hs₄ he=>?_);obtain⟨oe,mI,hce⟩:=he;replace hs₄:Heap.ExtBut i2 h₃ h₄:=hs₄;have hz₄:IsZip h₄ z TI TO .ellipsis:=hs₄ _ _ D.i2z.symm (hs₃.extBut _ _ D.TOz.symm (hs₂.extBut _ _ D.i1z.symm hz₁));have AJ:e≠z:=λx=>by subst x;rw[hz₄]at mI;cases mI;simp at hce
 refine wpAny_setField_rec hz₄ (by simp) λh₅ _ hs₅=>hE h₅ tk₂ e (λc o c1 c2 c3 c4 x=>hs₅.extBut _ _ c1 (hs₄ _ _ c4 (hs₃.extBut _ _ c2 (hs₂.extBut _ _ c3 (hs₁.extBut _ _ c1 x))))) ⟨oe,hs₅.extBut _ _ AJ mI,hce⟩
def GJ{z TI TO i1 i2:Addr}{iI g9:List Addr}{n1 n2 k:Nat}{P1 P2:Nat->Value->Prop}{kE ki:Nat->Heap->Prop}{a b:Value}{Q:Option Value->Shared->Prop}(D:fY z TI TO i1 i2 iI g9)
  (D1:Draws prog w A.in1 i1 iI n1 P1 kE) (D2:Draws prog w A.in1 i2 g9 n2 P2 ki)
  (hz:IsZip s.heap z TI TO .none) (hTI:IsPair s.heap TI (.ref i1) (.ref i2)) (hTO:IsPair s.heap TO a b)
  (h1:kE k s.heap) (h2:ki k s.heap) (hk1:k<n1) (hk2:k<n2)
  (hQ:∀x y h' tk,P1 k x->P2 k y->IsZip h' z TI TO (rawInt s.heap.objs.size)->IsPair h' TO x y->kE (k+1) h'->ki (k+1) h'->IsPair h' s.heap.objs.size x y->h'.objs.size=s.heap.objs.size+1 ->
   (∀c o,c≠z->c≠TO->c≠i1->c≠i2->s.heap.get? c=some o->h'.get? c=some o)->Q (some (.ref s.heap.objs.size)) { s with heap:=h',toks:=tk }) :
  wpAny (model prog w) A (pyNext (.ref z)) Q E s:=by
 have hT:s.TypeIs (.ref z) "zip" := ⟨_,hz,rfl⟩;unfold pyNext
 exact wpAny_bind (wpAny_attempt (wpAny_callSpecial?_slot (name:=Str.ofString "__next__") hT F.slot_zip_next
  (wpAny_call_entry F.slot_zip_next hT F.entry_zip_next
   (GG D D1 D2 hz hTI hTO h1 h2 hk1 hk2 λx y h' tk p1 p2 a1 a2 a3 a4 a5 a6 a7=>wpAny_pure (hQ x y h' tk p1 p2 a1 a2 a3 a4 a5 a6 a7)) (F.args_zip_next_1 _))))
def AK{z TI TO i1 i2:Addr}{iI g9:List Addr}{n1 n2 k:Nat}{P1 P2:Nat->Value->Prop}{kE ki:Nat->Heap->Prop}{a b:Value}{Q:Option Value->Shared->Prop}(D:fY z TI TO i1 i2 iI g9)
  (D1:Draws prog w A.in1 i1 iI n1 P1 kE) (D2:Draws prog w A.in1 i2 g9 n2 P2 ki)
  (hz:IsZip s.heap z TI TO .none) (hTI:IsPair s.heap TI (.ref i1) (.ref i2)) (hTO:IsPair s.heap TO a b)
  (h1:kE k s.heap) (h2:ki k s.heap) (hend:k=n1\/(k<n1/\k=n2))
  (hQ:∀h' tk,(∀c o,c≠z->c≠TO->c≠i1->c≠i2->s.heap.get? c=some o->h'.get? c=some o)->Q none { s with heap:=h',toks:=tk }):wpAny (model prog w) A (pyNext (.ref z)) Q E s:=by
 have hT:s.TypeIs (.ref z) "zip" := ⟨_,hz,rfl⟩;unfold pyNext
 refine wpAny_bind (wpAny_attempt (wpAny_callSpecial?_slot (name:=Str.ofString "__next__") hT F.slot_zip_next
  (wpAny_call_entry F.slot_zip_next hT F.entry_zip_next (GH D D1 D2 hz hTI hTO h1 h2 hend λh' tk e hk he=>?_) (F.args_zip_next_1 _))))
 obtain⟨o,ho,hc⟩:=he;refine wpAny_bind (wpAny_isInstance (T:="StopIteration") (b:=true) ⟨o,ho,hc⟩ isSubtype_stop ?_);exact wpAny_pure (hQ _ _ hk)
end
set_option genInjectivity false in
inductive ZS where
 |tup (a:Addr)|lst (a:Addr)|str (x:Str)
abbrev ZS.it(j:Addr)(i:Nat)(h:Heap):ZS->Prop
 |.tup a=>h.IsTupleIter j a i
 |.lst a=>h.IsListIter j a i
 |.str x=>∃t,h.IsStrIter j "str_ascii_iterator" x t i\/h.IsStrIter j "str_iterator" x t i
abbrev ZS.has(K:Zfr)(H:Hp)(i:Nat)(v:V):ZS->Prop
 |.tup a=>∃xs,ej K H a xs/\xs[i]?=some v
 |.lst a=>∃xs,ez K H a xs/\xs[i]?=some v
 |.str x=>∃c,x.cps[i]?=some c/\v=.str ⟨#[c]⟩
abbrev ZS.fin(K:Zfr)(H:Hp)(i:Nat):ZS->Prop
 |.tup a=>∃xs,ej K H a xs/\xs.length=i
 |.lst a=>∃xs,ez K H a xs/\xs.length=i
 |.str x=>x.cps.size=i
def ZS.it.at{j:Addr}{i:Nat}{h h':Heap}{src:ZS}(t:src.it j i h)(k:∀o,h.get? j=some o->h'.get? j=some o):src.it j i h':=by
 cases src with
 |tup a=>exact Heap.IsTupleIter.at t k
 |lst a=>exact Heap.IsListIter.at t k
 |str x =>
  obtain⟨tk,t⟩:=t;refine⟨tk,?_⟩;rcases t with⟨o,ho,r⟩|⟨o,ho,r⟩
  exact .inl ⟨o,k o ho,r⟩;exact .inr ⟨o,k o ho,r⟩
def ZS.it.obj{j:Addr}{i:Nat}{h:Heap}{src:ZS}(t:src.it j i h):∃o,h.get? j=some o/\(∀v,o.data≠.cell v)/\(∃n,o.cls=.type n/\n≠"tuple" /\ n≠"list" /\ n≠"zip"):=by
 cases src with
 |tup a=>obtain⟨o,e,c,d⟩:=t;exact⟨o,e,(λv z=>by rw[d]at z;cases z),_,c,by decide,by decide,by decide⟩
 |lst a=>obtain⟨o,e,c,d⟩:=t;exact⟨o,e,(λv z=>by rw[d]at z;cases z),_,c,by decide,by decide,by decide⟩
 |str x =>
  obtain⟨tk,t⟩:=t;rcases t with⟨o,e,c,d⟩|⟨o,e,c,d⟩
  exact⟨o,e,(λv z=>by rw[d]at z;cases z),_,c,by decide,by decide,by decide⟩;exact⟨o,e,(λv z=>by rw[d]at z;cases z),_,c,by decide,by decide,by decide⟩
structure ZS.Dr(P:Program)(w:World)(A:Around)(s:Shared)(j:Addr)(i:Nat)(src:ZS)(fp:List Addr)(n:Nat)(R:Value->Prop):Prop where
 ex:∃(Pv:Nat->Value->Prop) (St:Nat->Heap->Prop),Draws P w A j fp n Pv St/\St i s.heap/\(∀u,Pv i u->R u)/\∀h,St (i+1) h->src.it j (i+1) h
 mem:j∈fp
section
variable {X:Cx}{pins:List (Addr×Obj)}{U:St}{H:Hp}{s:Shared}
def Inv.jj{a b:Addr}{xs:List V}(I:Inv X pins U H s)(h:ej X.K H a xs)(f:bp X pins H b):a≠b:=by
 intro z;subst z;rcases h with(h|⟨o,h⟩)|⟨o,its,n,hk,_⟩
 rw[f.1]at h;cases h;rw[f.1]at h;cases h;have hb:=I.ok.mod.oF a o hk;rcases f.2.2.2.1 with he|he
 exact I.ok.gI a o hb he
 have:=LD hb
 have:=I.ok.je;exact absurd (LR (LR ‹a<X.base.objs.size› this) he) (MK _)
def Inv.jk{a b:Addr}{xs:List V}(I:Inv X pins U H s)(h:ez X.K H a xs)(f:bp X pins H b):a≠b:=by
 intro z;subst z;rcases h with(h|⟨o,h⟩)|⟨o,its,n,hk,_⟩
 rw[f.1]at h;cases h;rw[f.1]at h;cases h;have hb:=I.ok.mod.oF a o hk;rcases f.2.2.2.1 with he|he
 exact I.ok.gI a o hb he
 have:=LD hb
 have:=I.ok.je;exact absurd (LR (LR ‹a<X.base.objs.size› this) he) (MK _)
def ZS.drawn{j:Addr}{i:Nat}{src:ZS}{v:V}(I:Inv X pins U H s)(hc:X.calm=true)(t:src.it j i s.heap)(fj:bp X pins H j)(h:src.has X.K H i v):∃fp n,i<n/\ZS.Dr X.prog X.w X.A.in1 s j i src fp n (RelV v)/\∀b,bp X pins H b->b≠j->b ∉ fp:=by
 cases src with
 |tup a =>
  obtain⟨xs,hq,hx⟩:=h;obtain⟨its,rv,p,hz⟩:=I.tuple hq;obtain⟨u,hu,ru⟩:=rv.get hx;have ht:s.heap.IsTuple a its.toArray:=p;have hi:i<its.toArray.size:=by
   obtain⟨q,_⟩:=LN.mp hu;simpa using q
  refine⟨[j,a],its.toArray.size,hi,⟨⟨_,_,nG (A:=X.A.in1) (I.ok.hd hc) j a (I.jj hq fj) its.toArray,⟨t,ht⟩,λu' h'=>?_,λh hst=>hst.1⟩,by simp⟩,λb fb hb=>?_⟩
  have:its.toArray[i]?=some u:=by simpa using hu
  rw[this]at h';cases h';exact ru
  have:=I.jj hq fb
  simp only[LO,Mb,or_false,not_or];exact⟨hb,λz=>this z.symm⟩
 |lst a =>
  obtain⟨xs,hq,hx⟩:=h;obtain⟨its,rv,p,hz⟩:=I.list hq;obtain⟨u,hu,ru⟩:=rv.get hx;have ht:s.heap.IsList a its.toArray:=p.isList;have hi:i<its.toArray.size:=by
   obtain⟨q,_⟩:=LN.mp hu;simpa using q
  refine⟨[j,a],its.toArray.size,hi,⟨⟨_,_,Draws.list (A:=X.A.in1) (I.ok.hd hc) j a (I.jk hq fj) its.toArray,⟨t,ht⟩,λu' h'=>?_,λh hst=>hst.1⟩,by simp⟩,λb fb hb=>?_⟩
  have:its.toArray[i]?=some u:=by simpa using hu
  rw[this]at h';cases h';exact ru
  have:=I.jk hq fb
  simp only[LO,Mb,or_false,not_or];exact⟨hb,λz=>this z.symm⟩
 |str x =>
  obtain⟨c,hx,rfl⟩:=h;have hi:i<x.cps.size:=(LS.mp hx).1;obtain⟨tk,t⟩:=t;have hR:∀u,SignAt x i u->RelV (.str ⟨#[c]⟩) u:=λu hu=>by
   obtain⟨c',u',h1,rfl⟩:=hu;rw[hx]at h1;cases h1;exact⟨_,rfl⟩
  rcases t with t|t
  exact⟨[j],x.cps.size,hi,⟨⟨_,_,Draws.strAscii (A:=X.A.in1) (I.ok.hd hc) j x tk,t,hR,λh hst=>⟨tk,.inl hst⟩⟩,by simp⟩,λb fb hb=>by simpa using hb⟩;exact⟨[j],x.cps.size,hi,⟨⟨_,_,Draws.strWide (A:=X.A.in1) (I.ok.hd hc) j x tk,t,hR,λh hst=>⟨tk,.inr hst⟩⟩,by simp⟩,λb fb hb=>by simpa using hb⟩
def ZS.ended{j:Addr}{i:Nat}{src:ZS}(I:Inv X pins U H s)(hc:X.calm=true)(t:src.it j i s.heap)(fj:bp X pins H j)(h:src.fin X.K H i):∃fp,ZS.Dr X.prog X.w X.A.in1 s j i src fp i (λ_=>True)/\∀b,bp X pins H b->b≠j->b ∉ fp:=by
 cases src with
 |tup a =>
  obtain⟨xs,hq,hx⟩:=h;obtain⟨its,rv,p,hz⟩:=I.tuple hq;have ht:s.heap.IsTuple a its.toArray:=p;have hl:=rv.length;have ei:its.toArray.size=i:=by simp;lk
  subst ei;refine⟨[j,a],⟨⟨_,_,nG (A:=X.A.in1) (I.ok.hd hc) j a (I.jj hq fj) its.toArray,⟨t,ht⟩,λ_ _=>trivial,λh hst=>hst.1⟩,by simp⟩,λb fb hb=>?_⟩;have:=I.jj hq fb;simp only[LO,Mb,or_false,not_or];exact⟨hb,λz=>this z.symm⟩
 |lst a =>
  obtain⟨xs,hq,hx⟩:=h;obtain⟨its,rv,p,hz⟩:=I.list hq;have ht:s.heap.IsList a its.toArray:=p.isList;have hl:=rv.length;have ei:its.toArray.size=i:=by simp;lk
  subst ei;refine⟨[j,a],⟨⟨_,_,Draws.list (A:=X.A.in1) (I.ok.hd hc) j a (I.jk hq fj) its.toArray,⟨t,ht⟩,λ_ _=>trivial,λh hst=>hst.1⟩,by simp⟩,λb fb hb=>?_⟩;have:=I.jk hq fb;simp only[LO,Mb,or_false,not_or];exact⟨hb,λz=>this z.symm⟩
 |str x =>
  have h:x.cps.size=i:=h;subst h;obtain⟨tk,t⟩:=t;rcases t with t|t
  exact⟨[j],⟨⟨_,_,Draws.strAscii (A:=X.A.in1) (I.ok.hd hc) j x tk,t,λ_ _=>trivial,λh hst=>⟨tk,.inl hst⟩⟩,by simp⟩,λb fb hb=>by simpa using hb⟩;exact⟨[j],⟨⟨_,_,Draws.strWide (A:=X.A.in1) (I.ok.hd hc) j x tk,t,λ_ _=>trivial,λh hst=>⟨tk,.inr hst⟩⟩,by simp⟩,λb fb hb=>by simpa using hb⟩
end
abbrev AL(K:Zfr)(s1 s2:ZS):It :=
 ⟨λi H=>∃x y,s1.has K H i x/\s2.has K H i y,λi H v H'=>∃p x y,v=.ref p/\H p=none/\H'=upd H p (.tup [x,y])/\(∀z,s1.has K H i z->z=x)/\∀z,s2.has K H i z->z=y,λi H=>(s1.fin K H i/\(s2.fin K H i\/∃y,s2.has K H i y))\/((∃x,s1.has K H i x)/\s2.fin K H i)⟩
def ZS.lz{X:Cx}{pins:List (Addr×Obj)}{U:St}{H:Hp}{s:Shared}{src:ZS}{i:Nat}{x y:V}(I:Inv X pins U H s)(a:src.has X.K H i x)(b:src.has X.K H i y):y=x:=by
 cases src with
 |tup p =>
  obtain⟨xs,h1,e1⟩:=a;obtain⟨ys,h2,e2⟩:=b;rw[I.iU h2 h1]at e2;rw[e1]at e2;exact(LH e2).symm
 |lst p =>
  obtain⟨xs,h1,e1⟩:=a;obtain⟨ys,h2,e2⟩:=b;rw[I.jL h2 h1]at e2;rw[e1]at e2;exact(LH e2).symm
 |str z =>
  obtain⟨c,h1,rfl⟩:=a;obtain⟨d,h2,rfl⟩:=b;rw[h1]at h2;cases h2;rfl
def GK{P:Program}{w:World}{K:Zfr}{es:List Expr}{x1}{pos:Pos}(s1 s2:ZS)(z TI TO i1 i2:Addr)(hd:TI≠z/\TO≠z/\i1≠z/\i2≠z/\TI≠TO/\TO≠i1/\TO≠i2/\i1≠i2/\TI≠i1/\TI≠i2):
  Turn P w K (.Tuple es x1 pos) (AL K s1 s2) [z,TI,TO,i1,i2] z (λi h=>IsZip h z TI TO .none/\IsPair h TI (.ref i1) (.ref i2)/\(∃a b,IsPair h TO a b)/\s1.it i1 i h/\s2.it i2 i h) where
 mem:=by simp
 obj:=λi h st b hb=>by
  obtain⟨hz,hTI,⟨a,c,hTO⟩,h1,h2⟩:=st;have cl:∀{o:Obj} {vs:Array Value},o.data=.fields vs->∀v,o.data≠.cell v:=λd v z=>by rw[d]at z;cases z
  have cs:∀{o:Obj} {vs:Array Value} {n:Nat},o.data=.seq vs n->∀v,o.data≠.cell v:=λd v z=>by rw[d]at z;cases z
  simp only[LO,Mb,or_false]at hb;rcases hb with rfl|rfl|rfl|rfl|rfl
  exact⟨_,hz,cl rfl⟩;exact⟨_,hTI,cs rfl⟩;exact⟨_,hTO,cs rfl⟩;obtain⟨o,e,n,_⟩:=h1.obj;exact⟨o,e,n⟩;obtain⟨o,e,n,_⟩:=h2.obj;exact⟨o,e,n⟩
 keep:=λi h h' st k=>⟨k z (by simp) _ st.1,k TI (by simp) _ st.2.1,let ⟨a,b,e⟩:=st.2.2.1;⟨a,b,k TO (by simp) _ e⟩,st.2.2.2.1.at λo q=>k i1 (by simp) o q,st.2.2.2.2.at λo q=>k i2 (by simp) o q⟩
 item:=by
  intro X hP hw hK hc i pins s U H E I hf st hg;subst hP hw hK;obtain⟨x,y,hx,hy⟩:=hg;obtain⟨hz,hTI,⟨a,b,hTO⟩,h1,h2⟩:=st;have fz:=hf z (by simp);have vR:=hf TO (by simp);have f1:=hf i1 (by simp);have f2:=hf i2 (by simp);obtain⟨iI,n1,k1,⟨⟨P1,S1,D1,st1,r1,GL⟩,pW⟩,gK⟩:=ZS.drawn I hc h1 f1 hx;obtain⟨g9,n2,k2,⟨⟨P2,S2,D2,st2,r2,GN⟩,oS⟩,fZ⟩:=ZS.drawn I hc h2 f2 hy;obtain⟨d1,d2,d3,d4,d5,d6,d7,d8,d9,Dz⟩:=hd
  have ap:fY z TI TO i1 i2 iI g9:=⟨d1,d2,d3,d4,d5,d6,d7,d8,pW,oS,
   λc cK=>⟨λe=>gK z fz (Ne.symm d3) (e ▸ cK),λe=>gK TO vR d6 (e ▸ cK),λe=>gK i2 f2 (Ne.symm d8) (e ▸ cK)⟩,
   λc cK=>⟨λe=>fZ z fz (Ne.symm d4) (e ▸ cK),λe=>fZ TO vR d7 (e ▸ cK),λe=>fZ i1 f1 d8 (e ▸ cK)⟩⟩
  refine GJ ap D1 D2 hz hTI hTO st1 st2 k1 k2 λu v DA tk p1 p2 hz' AO g1 g2 hT hsz kk=>?_;refine⟨_,rfl,wpAny_letOwnedTupleGo_zip hz' λh2' hz2 sb=>?_⟩;replace sb:Heap.SameBut z DA h2':=sb;have GO:H s.heap.objs.size=none:=I.hok.fresh (LI _);have ru:=r1 u p1;have rv:=r2 v p2;have I1:Inv X pins U (upd H s.heap.objs.size (.tup [x,y])) { s with heap:=s.heap.push { cls:=.type "tuple",data:=.seq #[u,v] },toks:=s.toks } :=
   I.laid (λb u e=>LA _ e) (LI _) ⟨(by decide:2<=sizeLine),[u,v],.cons ru (.cons rv .nil),⟨_,LJ _ rfl,rfl,rfl,_,rfl⟩⟩
  have hlt:∀c∈[z,TI,TO,i1,i2],@LT.lt Nat _ c s.heap.objs.size:=λc cK=>by
   simp only[LO,Mb,or_false]at cK;rcases cK with rfl|rfl|rfl|rfl|rfl
   exact LD hz;exact LD hTI;exact LD hTO;obtain⟨o,e,_⟩:=h1.obj;exact LD e;obtain⟨o,e,_⟩:=h2.obj;exact LD e
  have hn:∀c∈[z,TI,TO,i1,i2],upd H s.heap.objs.size (.tup [x,y]) c=none:=λc cK=>by
   unfold upd;rw[if_neg (L7 (hlt c cK))];exact(hf c cK).1
  have I2:Inv X pins U (upd H s.heap.objs.size (.tup [x,y])) { s with heap:=h2',toks:=tk }:=by
   refine Inv.lx (s:={ s with heap:=s.heap.push { cls:=.type "tuple",data:=.seq #[u,v] },toks:=s.toks }) (h':=h2') I1 (ch:=[z,TI,TO,i1,i2]) (t':=tk) (λc o cK q=>?_) λc cK=>⟨hn c cK,(hf c cK).2⟩;simp only[LO,Mb,or_false,not_or]at cK;obtain⟨DB,Lo,GP,GQ,GR⟩:=cK;refine(sb.2 c DB).trans ?_;rcases Heap.get?_push_cases q with⟨rfl,rfl⟩|q
   exact hT;exact kk c o DB GP GQ GR q
  have up:∀c o,c≠z->DA.get? c=some o->h2'.get? c=some o:=λc o n e=>(sb.2 c n).trans e;refine⟨.ref s.heap.objs.size,_,I2,rfl,⟨_,x,y,rfl,GO,rfl,λw hw=>ZS.lz I hx hw,λw hw=>ZS.lz I hy hw⟩,⟨hz2,?_,⟨u,v,up _ _ d2 AO⟩,(GL _ g1).at λo q=>up _ o d3 q,(GN _ g2).at λo q=>up _ o d4 q⟩,hn⟩;exact up _ _ d1 (kk _ _ d1 d5 d9 Dz hTI)
 done:=by
  intro X hP hw hK hc i pins s U H E I hf st hg;subst hP hw hK;obtain⟨hz,hTI,⟨a,b,hTO⟩,h1,h2⟩:=st;have fz:=hf z (by simp);have vR:=hf TO (by simp);have f1:=hf i1 (by simp);have f2:=hf i2 (by simp);obtain⟨d1,d2,d3,d4,d5,d6,d7,d8,d9,Dz⟩:=hd;have fin:∀h' tk,(∀c o,c≠z->c≠TO->c≠i1->c≠i2->s.heap.get? c=some o->h'.get? c=some o)->Inv X pins U H { s with heap:=h',toks:=tk }:=λh' tk kk=>by
   refine Inv.lx I (ch:=[z,TO,i1,i2]) (t':=tk) (λc o cK q=>?_) λc cK=>hf c ?_;simp only[LO,Mb,or_false,not_or]at cK;exact kk c o cK.1 cK.2.1 cK.2.2.1 cK.2.2.2 q;simp only[LO,Mb,or_false]at cK ⊢;rcases cK with rfl|rfl|rfl|rfl<;>simp
  have rH:∀{iI g9:List Addr},i1∈iI->i2∈g9->(∀b,bp X pins H b->b≠i1->b ∉ iI)->(∀b,bp X pins H b->b≠i2->b ∉ g9)->fY z TI TO i1 i2 iI g9:=λpW oS gK fZ=>⟨d1,d2,d3,d4,d5,d6,d7,d8,pW,oS,
   λc cK=>⟨λe=>gK z fz (Ne.symm d3) (e ▸ cK),λe=>gK TO vR d6 (e ▸ cK),λe=>gK i2 f2 (Ne.symm d8) (e ▸ cK)⟩,
   λc cK=>⟨λe=>fZ z fz (Ne.symm d4) (e ▸ cK),λe=>fZ TO vR d7 (e ▸ cK),λe=>fZ i1 f1 d8 (e ▸ cK)⟩⟩
  rcases hg with⟨hx,hy⟩|⟨⟨x,hx⟩,hy⟩
  obtain⟨iI,⟨⟨P1,S1,D1,st1,_,_⟩,pW⟩,gK⟩:=ZS.ended I hc h1 f1 hx;rcases hy with hy|⟨y,hy⟩
  obtain⟨g9,⟨⟨P2,S2,D2,st2,_,_⟩,oS⟩,fZ⟩:=ZS.ended I hc h2 f2 hy;exact AK (rH pW oS gK fZ) D1 D2 hz hTI hTO st1 st2 (.inl rfl) λh' tk kk=>⟨rfl,fin h' tk kk⟩;obtain⟨g9,n2,k2,⟨⟨P2,S2,D2,st2,_,_⟩,oS⟩,fZ⟩:=ZS.drawn I hc h2 f2 hy;exact AK (rH pW oS gK fZ) D1 D2 hz hTI hTO st1 st2 (.inl rfl) λh' tk kk=>⟨rfl,fin h' tk kk⟩;obtain⟨iI,n1,k1,⟨⟨P1,S1,D1,st1,_,_⟩,pW⟩,gK⟩:=ZS.drawn I hc h1 f1 hx;obtain⟨g9,⟨⟨P2,S2,D2,st2,_,_⟩,oS⟩,fZ⟩:=ZS.ended I hc h2 f2 hy;exact AK (rH pW oS gK fZ) D1 D2 hz hTI hTO st1 st2 (.inr ⟨k1,rfl⟩) λh' tk kk=>⟨rfl,fin h' tk kk⟩
 self:=λ_ _ _ _ _ st h=>wpAny_pyIter_zip st.1 h
abbrev ZS.val(K:Zfr)(H:Hp)(x:V):ZS->Prop
 |.tup a=>x=.ref a/\∃xs,ej K H a xs
 |.lst a=>x=.ref a/\∃xs,ez K H a xs
 |.str z=>x=.str z
def ZS.iter{X:Cx}{pins:List (Addr×Obj)}{U:St}{H:Hp}{s s':Shared}{src:ZS}{x:V}{u:Value}(I:Inv X pins U H s)(r:RelV x u)(hv:src.val X.K H x)(up:∀c o,s.heap.get? c=some o->s'.heap.get? c=some o):
  ∃o,src.it s'.heap.objs.size 0 (s'.heap.push o)/\∀(prog:Program) (w:World) (A:Around) (E:Value->Shared->Prop) (Q:Value->Shared->Prop),Q (.ref s'.heap.objs.size) { s' with heap:=s'.heap.push o }->wpAny (model prog w) A (pyIter u) Q E s':=by
 cases src with
 |tup a =>
  obtain⟨rfl,xs,hq⟩:=hv;cases r;obtain⟨its,rv,p,hz⟩:=I.tuple hq;obtain⟨o,e,c,n,d⟩:=(show s.heap.IsTuple a its.toArray from p);exact⟨_,⟨_,LJ _ rfl,rfl,rfl⟩,λprog w A E Q h=>wpAny_pyIter_tuple ⟨o,up _ _ e,c,n,d⟩ h⟩
 |lst a =>
  obtain⟨rfl,xs,hq⟩:=hv;cases r;obtain⟨its,rv,p,hz⟩:=I.list hq;obtain⟨o,e,c,n,d⟩:=p.isList;exact⟨_,⟨_,LJ _ rfl,rfl,rfl⟩,λprog w A E Q h=>wpAny_pyIter_list ⟨o,up _ _ e,c,n,d⟩ h⟩
 |str z =>
  cases hv;obtain⟨t,rfl⟩:=r;cases ha:z.cps.all (· < 128);exact⟨_,⟨t,.inr ⟨_,LJ _ rfl,rfl,rfl⟩⟩,λprog w A E Q h=>wpAny_pyIter_wide ha h⟩;exact⟨_,⟨t,.inl ⟨_,LJ _ rfl,rfl,rfl⟩⟩,λprog w A E Q h=>wpAny_pyIter_ascii ha h⟩
@[reducible]def vS(h:Heap)(o1 o2:Obj):Heap:=((h.push o1).push o2).push { cls:=.type "tuple",data:=.seq #[.ref h.objs.size,.ref (h.push o1).objs.size] }
@[reducible]def yO(h:Heap)(o1 o2:Obj):Heap:=(vS h o1 o2).push { cls:=.type "tuple",data:=.seq #[.none,.none] }
@[reducible]def rJ(h:Heap)(o1 o2:Obj):Heap:=(yO h o1 o2).push { cls:=.type "zip",data:=.fields #[.none,.bool false,.bool false,.ref ((h.push o1).push o2).objs.size,.ref (vS h o1 o2).objs.size] }
def GS(u1 u2:Value)(o1 o2:Obj):
  Meets (Builtin.«zip.__new__» ⟨[.type "zip",u1,u2],[]⟩) (λ_ R s =>
   (∀(prog:Program) (w:World) (A:Around) (E:Value->Shared->Prop) (Q:Value->Shared->Prop),Q (.ref s.heap.objs.size) { s with heap:=s.heap.push o1 }->wpAny (model prog w) A (pyIter u1) Q E s) /\
   (∀(prog:Program) (w:World) (A:Around) (E:Value->Shared->Prop) (Q:Value->Shared->Prop),Q (.ref (s.heap.push o1).objs.size) { s with heap:=(s.heap.push o1).push o2 }->wpAny (model prog w) A (pyIter u2) Q E { s with heap:=s.heap.push o1 }) /\
   R (.ok (.ret (.ref (yO s.heap o1 o2).objs.size))) { s with heap:=rJ s.heap o1 o2 }) :=
 .of_wp λprog w A R s h=>by
  obtain⟨hp,g,d,tk,os⟩:=s;obtain⟨h1,h2,h⟩:=h;have hsub:=sub_zip;have GU:∀{A:Around} {E:Value->Shared->Prop} {Q:Value->Shared->Prop},Q (.ref hp.objs.size) ⟨hp.push o1,g,d,tk,os⟩->wpAny (model prog w) A (pyIter u1) Q E ⟨hp,g,d,tk,os⟩:=λq=>h1 prog w _ _ _ q;have GV:∀{A:Around} {E:Value->Shared->Prop} {Q:Value->Shared->Prop},Q (.ref (hp.push o1).objs.size) ⟨(hp.push o1).push o2,g,d,tk,os⟩->wpAny (model prog w) A (pyIter u2) Q E ⟨hp.push o1,g,d,tk,os⟩:=λq=>h2 prog w _ _ _ q
  wp_walk using GU,GV
  exact⟨_,rfl,h⟩
abbrev vT(K:Zfr)(ta:TA):TI:=λU H R=>ta U H λvs H1=>∃(x y:V) (s1 s2:ZS),vs=[x,y]/\s1.val K H1 x/\s2.val K H1 y/\R (AL K s1 s2) H1
def rK{X:Cx}{es:List Expr}{x1}{p0:Pos}{l l':Expr}{ta:TA}{p pos:Pos}(hg:Gl X "zip")(hm:X.mg "zip" = none)(ha:PA X [l,l'] ta)(hs:starEach [l,l'] X.env=[(false,eval l X.env),(false,eval l' X.env)]:=by rfl)(hs2:starEach [l'] X.env=[(false,eval l' X.env)]:=by rfl):
  PI X (.Tuple es x1 p0) (.Call (.Name "zip" p) [l,l'] [] pos) (vT X.K ta):=by
 intro pins s U H R I h;refine Call_ (ua I hg hm rm (PyProof.Rows.callWith_type1 (aP (ha pos pins s U H _ I h) λus s1 ⟨vs,H1,I1,r1,q1⟩=>?_) (by rw[hs,hs2]) (by rw[hs2];rfl)));obtain⟨x,y,z1,z2,e,hv1,hv2,q⟩:=q1;subst e;cases r1 with
 |cons ru rr =>
  cases rr with
  |cons rv rr =>
   cases rr;obtain⟨o1,t1,GW⟩:=ZS.iter (s':=s1) I1 ru hv1 λ_ _ e=>e;obtain⟨o2,t2,GX⟩:=ZS.iter (s':={ s1 with heap:=s1.heap.push o1 }) I1 rv hv2 λ_ _ e=>LA _ e;refine callType_new F.called_zip ∅ (F.typeCall_zip_2 _ _) (F.newCall_zip_2 _ _) (λobj=>F.args_object_init_3 obj _ _) F.entry_zip_new (GS _ _ o1 o2) ⟨GW,GX,?_⟩;have w1:(s1.heap.push o1).objs.size=s1.heap.objs.size+1:=Ml ..;have w2:((s1.heap.push o1).push o2).objs.size=s1.heap.objs.size+2:=by rw[Ml,w1]
   have w3:(vS s1.heap o1 o2).objs.size=s1.heap.objs.size+3:=by rw[Ml,w2]
   have w4:(yO s1.heap o1 o2).objs.size=s1.heap.objs.size+4:=by rw[Ml,w3]
   have GY:∀c o,s1.heap.get? c=some o->(rJ s1.heap o1 o2).get? c=some o:=λc o e=>LA _ (LA _ (LA _ (LA _ (LA _ e))));have g5:IsZip (rJ s1.heap o1 o2) (yO s1.heap o1 o2).objs.size ((s1.heap.push o1).push o2).objs.size (vS s1.heap o1 o2).objs.size .none:=LJ _ rfl;have g4:IsPair (rJ s1.heap o1 o2) (vS s1.heap o1 o2).objs.size .none .none:=LA _ (LJ _ rfl);have g3:IsPair (rJ s1.heap o1 o2) ((s1.heap.push o1).push o2).objs.size (.ref s1.heap.objs.size) (.ref (s1.heap.push o1).objs.size):=LA _ (LA _ (LJ _ rfl));have g2:z2.it (s1.heap.push o1).objs.size 0 (rJ s1.heap o1 o2):=t2.at λo e=>LA _ (LA _ (LA _ e));have g1:z1.it s1.heap.objs.size 0 (rJ s1.heap o1 o2):=t1.at λo e=>LA _ (LA _ (LA _ (LA _ e)));refine⟨⟨_,g5,rfl⟩,?_⟩;refine wpAny_pyIter_zip g5 ?_;rw[w1]at g2 g3;rw[w2]at g3 g5;rw[w3]at g4 g5;rw[w4]at g5;have tz:Turn X.prog X.w X.K (.Tuple es x1 p0) (AL X.K z1 z2) [s1.heap.objs.size+4,s1.heap.objs.size+2,s1.heap.objs.size+3,s1.heap.objs.size,s1.heap.objs.size+1] (s1.heap.objs.size+4) (λi h=>IsZip h (s1.heap.objs.size+4) (s1.heap.objs.size+2) (s1.heap.objs.size+3) .none/\IsPair h (s1.heap.objs.size+2) (.ref s1.heap.objs.size) (.ref (s1.heap.objs.size+1))/\(∃a b,IsPair h (s1.heap.objs.size+3) a b)/\z1.it s1.heap.objs.size i h/\z2.it (s1.heap.objs.size+1) i h):=by
    refine GK z1 z2 _ _ _ _ _ ?_;have ne:∀{m n:Nat},m≠n->∀{a:Nat},a+m≠a+n:=λh a z=>h (Nat.add_left_cancel z);exact⟨ne (m:=2) (n:=4) ∅,ne (m:=3) (n:=4) ∅,ne (m:=0) (n:=4) ∅,ne (m:=1) (n:=4) ∅,ne (m:=2) (n:=3) ∅,ne (m:=3) (n:=0) ∅,ne (m:=3) (n:=1) ∅,ne (m:=0) (n:=1) ∅,ne (m:=2) (n:=0) ∅,ne (m:=2) (n:=1) ∅⟩
   refine⟨_,_,_,_,H1,by rw[w4],I1.kept (t':=s1.toks) GY,tz,⟨g5,g3,⟨_,_,g4⟩,g1,g2⟩,λb hb=>?_,q⟩;have hb':@LE.le Nat _ s1.heap.objs.size b:=by
    simp only[LO,Mb,or_false]at hb;rcases hb with rfl|rfl|rfl|rfl|rfl
    exact MI _ _;exact MI _ _;exact MI _ _;exact LI _;exact MI _ _
   exact I1.fM hb' (I1.hok.fresh hb')
end L2
namespace L2
open PySem PySem.Spec PyProof.Rows
section
variable {X:Cx}{K:Zfr}
abbrev eD(us:List Value)(ds:List PyData)(dx:PyData)(u:Value):Bool:=@decide (∃(i:Nat) (d:PyData),us[i]?=some u/\ds[i]?=some d/\PyData.eqv d dx=true) (Classical.propDecidable _)
def cZ.get:∀{H:Hp} {vs:List V} {ds:List PyData},cZ K H vs ds->∀{i:Nat} {v:V},vs[i]?=some v->∃d,ds[i]?=some d/\Rep K H v d
 |_,_,_,.nil,i,v,e=>by simp at e
 |_,_,_,.cons (d:=d) a b,0,v,e=>⟨d,by simp,by have:_=v:=LH (by simpa using e);rw[<- this];exact a⟩
 |_,_,_,.cons a b,i+1,v,e=>by
  obtain⟨d,e1,r⟩:=cZ.get b (i:=i) (by simpa using e);exact⟨d,by simpa using e1,r⟩
def cZ.oU:∀{H:Hp} {vs:List V} {ds:List PyData},cZ K H vs ds->vs.length=ds.length
 |_,_,_,.nil=>rfl
 |_,_,_,.cons _ r=>by rw[LZ,LZ,cZ.oU r]
def Vals.AQ{xs:List V}{us:List Value}(r:Vals xs us){i:Nat}{u:Value}(h:us[i]?=some u):∃v,xs[i]?=some v/\RelV v u:=by have hi:=(LN.mp h).1;have hl:=r.length;obtain⟨u',hu,ru⟩:=r.get (i:=i) (x:=xs[i]'⋯) (L9 _);rw[h]at hu;cases hu;exact⟨_,L9 _,ru⟩
open Classical in
def yP{pins:List (Addr×Obj)}{U:St}{H:Hp}{s:Shared}{xs:List V}{us:List Value}{ds:List PyData}{x:V}{v:Value}{dx:PyData}(hu:X.A.units+64<cLine)(I:Inv X pins U H s)(r:Vals xs us)(hr:cZ X.K H xs ds)(rx:RelV x v)(hx:Rep X.K H x dx)(c1:∀d∈ds,d.canLay0=true)(c2:dx.canLay0=true)(c3:dx.depth<=60):
  ∀u∈us,SeqAt.EqAt X.A.in1 s u v (eD us ds dx u):=by
 intro u hm;obtain⟨bs,rb⟩:=hx.reads I rx;have key:∀(i:Nat) (d:PyData),us[i]?=some u->ds[i]?=some d->SeqAt.EqAt X.A.in1 s u v (PyData.eqv d dx):=λi d h1 h2=>by
  obtain⟨y,hy,ry⟩:=r.AQ h1;obtain⟨d',hd',rd⟩:=hr.get hy;rw[h2]at hd';cases hd';obtain⟨as,ra⟩:=rd.reads I ry;intro prog w E Q q;refine SeqAt.eqBoolOverData prog w X.A.in1 E s u v d dx as bs Q ra rb (c1 _ (L6 h2)) c2 ?_ q;have:X.A.in1.units<=X.A.units+2:=by
   first|exact MI _ _|(show X.A.units<=_;lk)|(show X.A.units+1<=_;lk)
  lk
 obtain⟨i,hi⟩:=List.getElem?_of_mem hm;have hl1:=r.length;have hl2:=hr.oU;have hil:=(LN.mp hi).1;unfold eD;by_cases h:∃(i:Nat) (d:PyData),us[i]?=some u/\ds[i]?=some d/\PyData.eqv d dx=true;rw[decide_eq_true h];obtain⟨j,d,h1,h2,h3⟩:=h;have:=key j d h1 h2
 rwa [h3]at this
 rw[decide_eq_false h];have h2:ds[i]?=some (ds[i]'⋯):=L9 _;have k:=key i _ hi h2;cases hb:PyData.eqv (ds[i]'⋯) dx with
 |true=>exact absurd ⟨i,_,hi,h2,hb⟩ h
 |false=>rwa [hb]at k
open Classical in
def DC{xs:List V}{us:List Value}{ds:List PyData}{dx:PyData}(h1:us.length=ds.length):us.any (eD us ds dx)=ds.any λd=>PyData.eqv d dx:=by rw[MD,Nk,Nk];constructor;rintro⟨u,hu,h⟩;unfold eD at h;obtain⟨i,d,_,h2,h3⟩:=of_decide_eq_true h;exact⟨d,L6 h2,h3⟩;rintro⟨d,hd,h⟩;obtain⟨i,hi⟩:=List.getElem?_of_mem hd;have hil:=(LN.mp hi).1;refine⟨us[i]'⋯,Nj _,?_⟩;unfold eD;exact decide_eq_true ⟨i,d,L9 _,hi,h⟩
abbrev rL(K:Zfr)(neg:Bool):R2:=λx y H Q=>∃p xs ds dx,y=.ref p/\(ez K H p xs\/ej K H p xs)/\cZ K H xs ds/\Rep K H x dx/\(∀d∈ds,PyData.canLay0 d=true)/\PyData.canLay0 dx=true/\PyData.depth dx<=60/\Q (.bl (if neg then !ds.any (λd=>PyData.eqv d dx)else ds.any λd=>PyData.eqv d dx)) H
def DE(hu:X.A.units+64<cLine):eY X (compareOp .In) (rL X.K false):=by
 intro pins s U H x y v u Q I rx ry h;obtain⟨p,xs,ds,dx,rfl,hq,hr,hx,c1,c2,c3,q⟩:=h;cases ry;have e2:∀{its:List Value},Vals xs its->its.toArray.any (eD its ds dx)=ds.any λd=>PyData.eqv d dx:=λ{its} r=>by
  rw[show its.toArray.any (eD its ds dx)=its.any (eD its ds dx) by simp];exact DC (xs:=xs) (by rw[<- r.length];exact hr.oU)
 rcases hq with hq|hq
 obtain⟨its,r,pl,hz⟩:=I.list hq;refine SeqAt.in_listAt (eD its ds dx) pl.isList (λw hw=>yP hu I r hr rx hx c1 c2 c3 w (by simpa using hw)) ⟨.bl _,H,I,rfl,?_⟩;rw[e2 r];exact q;obtain⟨its,r,pl,hz⟩:=I.tuple hq;refine SeqAt.in_tupleAt (eD its ds dx) pl (λw hw=>yP hu I r hr rx hx c1 c2 c3 w (by simpa using hw)) ⟨.bl _,H,I,rfl,?_⟩;rw[e2 r];exact q
def GZ(hu:X.A.units+64<cLine):eY X (compareOp .NotIn) (rL X.K true):=by
 intro pins s U H x y v u Q I rx ry h;obtain⟨p,xs,ds,dx,rfl,hq,hr,hx,c1,c2,c3,q⟩:=h;cases ry;have e2:∀{its:List Value},Vals xs its->its.toArray.any (eD its ds dx)=ds.any λd=>PyData.eqv d dx:=λ{its} r=>by
  rw[show its.toArray.any (eD its ds dx)=its.any (eD its ds dx) by simp];exact DC (xs:=xs) (by rw[<- r.length];exact hr.oU)
 rcases hq with hq|hq
 obtain⟨its,r,pl,hz⟩:=I.list hq;refine SeqAt.notIn_listAt (eD its ds dx) pl.isList (λw hw=>yP hu I r hr rx hx c1 c2 c3 w (by simpa using hw)) ⟨.bl _,H,I,rfl,?_⟩;rw[e2 r];exact q;obtain⟨its,r,pl,hz⟩:=I.tuple hq;refine SeqAt.notIn_tupleAt (eD its ds dx) pl (λw hw=>yP hu I r hr rx hx c1 c2 c3 w (by simpa using hw)) ⟨.bl _,H,I,rfl,?_⟩;rw[e2 r];exact q
end
open Builtin.Str
end L2
namespace L2
open PySem PySem.Spec PyProof.Rows
open Builtin
end L2
namespace L2
open PySem PySem.Spec PyProof.Rows
abbrev DU(a:Addr)(xs:List (List Int×Addr×Value)):HO:=.ext λh=>(a == sysModules)=false/\xs.length<=sizeLine/\∃o es ep,h.get? a=some o/\o.ExactDict/\o.data=.dict es ep /\
 (∃(P:Program) (w:World),es.toList=xs.map (entryOfKey (tupleKind (intKind P w))))/\(xs.map (·.1)).Nodup
end L2
namespace L2
open PySem PySem.Spec PyProof.Rows PySem.SeqAt PySem.MeetsSeq
end L2
namespace L2
open PySem PySem.Spec PyProof.Rows PySem.W
section
variable {lt:Nat->Nat->Bool}{n0:Nat}{cmp:Nat->Nat->(Bool->Shared->Prop)->Shared->Prop}{s:Shared}
structure Ord(lt:Nat->Nat->Bool):Prop where
 tr:∀a b c,lt b a=false->lt c b=false->lt c a=false
 as:∀a b,lt a b=true->lt b a=false
abbrev P(p:Array Nat)(i:Nat):Nat:=p.getD i 0
variable (o:Ord lt)(hn:0<n0)(hc:∀i j (C:Bool->Shared->Prop),i<n0->j<n0->C (lt i j) s->cmp i j C s)
include o hn hc
end
end L2
namespace L2
open PySem PySem.Spec PyProof.Rows
end L2
namespace L2
open PySem PySem.Spec PyProof.Rows PySem.W
end L2
namespace L2
open PySem PySem.Spec PyProof.Rows
structure pX(fs:List Addr)(e:Addr)(oe:Obj)(vs:Array Value)(T:Addr)(h h':Heap):Prop where
 exc:∃o ws,h'.get? e=some o/\o.cls=oe.cls/\o.dict=oe.dict/\o.data=.fields ws/\ws.size=vs.size/\ws[1]?=some (.ref T)/\ws[2]?=vs[2]?
 new:h.objs.size<=T
 head:∃o ts,h'.get? T=some o/\o.data=.fields ts/\ts[3]?=some .none
 keep:∀b o,h.get? b=some o->b≠e->vs[1]?≠some (.ref b)->b ∉ fs->h'.get? b=some o
 slot:∀b o,h.get? b=some o->b≠e->vs[1]?≠some (.ref b)->∃sl,h'.get? b=some { o with slots:=sl }
 old:∀b,b≠e->vs[1]?=some (.ref b)->∃o ts,h'.get? b=some o/\o.data=.fields ts/\ts[3]?=some .none
section
variable {M:Model}{A:Around}{E:Value->Shared->Prop}{s:Shared}
def AR{base:Heap}{env:Env}{outer:List Env}{L e:Addr}{oe:Obj}{vs:Array Value}{hd0:Value}{hn:Bool}{Q:Unit->Shared->Prop}(hfr:A.frames=some (env :: outer))(hl:s.heap.FunFrames base (env :: outer))
  (hf:env.frame=some L) (he:s.heap.get? e=some oe) (hd:oe.data=.fields vs) (hs:1<vs.size)
  (h:∀h' T,(∃o ws,h'.get? e=some o/\o.cls=oe.cls/\o.dict=oe.dict/\o.data=.fields ws/\ws.size=vs.size/\ws[1]?=some (.ref T)/\ws[2]?=vs[2]?)->s.heap.objs.size<=T->(∃o ts,h'.get? T=some o/\o.data=.fields ts/\ts[3]?=some .none) ->
   (∀b o,s.heap.get? b=some o->b≠e->b ∉ frs (env :: outer)->h'.get? b=some o)->(∀b o,s.heap.get? b=some o->b≠e->∃sl,h'.get? b=some { o with slots:=sl })->Q () { s with heap:=h' }) :
  wpAny M A (do let a <- frameOf env;let pl <- entryPlaceOf L hn;let b <- EntryCells.newEntry hd0 a .none (rawInt L) .none pl;setField (.ref e) 1 b) (λ_ s'=>wpAny M A (setFlight (.ref e) none) Q E s') E s:=by
 have ne:e ∉ frs (env :: outer):=λz=>by
  obtain⟨_,o,q,nf⟩:=hl.mem z;rw[he]at q;cases q;exact nf vs hd
 refine wpAny_bind (wpAny_frameOf_fun hfr hl hf λh1 so=>wpAny_bind (wpAny_entryPlaceOf λpl ip=>?_));obtain⟨AU,vU,AV⟩:=so;have e1:h1.get? e=some oe:=by rw[vU e ne];exact he
 unfold EntryCells.newEntry newFields;refine wpAny_bind (wpAny_newObj_type ?_ (ip.sizeOk5 _ _ _ _ _));generalize htd:([hd0,Value.ref L,Value.none,rawInt L,Value.none] ++ (if pl.isEmpty then List.replicate 6 Value.none else pl)).toArray=td;have t3:3<td.size:=by
  rw[<- htd];simp only[LU,LP,LZ,M5];lk
 generalize hob:({ cls:=.type "traceback",dict:=none,data:=.fields td }:Obj)=ob;have yQ:ob.data=.fields td:=by rw[<- hob]
 have AW:ob.isFreed=false:=by rw[<- hob];rfl
 have e2:=LA ob e1;refine wpAny_setField e2 hd hs ?_;have nT:h1.objs.size≠e:=MH (LD e1);have d3:=Obj.data_mapFields hd (·.setIfInBounds 1 (Value.ref h1.objs.size));have e3:=Ma (Obj.mapFields (·.setIfInBounds 1 (Value.ref h1.objs.size))) e2 (Obj.isFreed_of_fields d3);have T3:((h1.push ob).update e (Obj.mapFields (·.setIfInBounds 1 (Value.ref h1.objs.size)))).get? h1.objs.size=some ob:=by
  rw[LY _ _ (Ne.symm nT)];exact LJ h1 AW
 unfold setFlight;refine wpAny_bind (wpAny_field e3 d3 (x:=.ref h1.objs.size) (by simp[hs]) ?_);rw[if_pos (by simp)];have d4:=Obj.data_mapFields yQ (·.setIfInBounds 3 ((none:Option Addr).elim Value.none λf=>rawInt f));refine wpAny_setField T3 yQ t3 (h _ h1.objs.size ⟨_,_,?_,Obj.cls_mapFields _ _,?_,d3,by simp,by simp[hs],by simp⟩ ?_ ⟨_,_,Ma _ T3 (Obj.isFreed_of_fields d4),d4,?_⟩ (λb o q n1 n2=>?_) λb o q n1=>?_);rw[LY _ _ nT];exact e3;obtain⟨c0,d0,yR,s0⟩:=oe;cases yR<;>first|rfl|cases hd
 rw[AU];exact LI _;simp[t3];have q1:h1.get? b=some o:=by rw[vU b n2];exact q
 rw[LY _ _ (MH (LD q1)),LY _ _ (Ne.symm n1)];exact LA _ q1;obtain⟨sl,q1⟩:=AV b o q;refine⟨sl,?_⟩;rw[LY _ _ (MH (LD q1)),LY _ _ (Ne.symm n1)];exact LA _ q1
def noted{base:Heap}{env:Env}{outer:List Env}{L e:Addr}{oe:Obj}{vs:Array Value}{Q:Unit->Shared->Prop}(hfr:A.frames=some (env :: outer))(hl:s.heap.FunFrames base (env :: outer))(hf:env.frame=some L)
  (he:s.heap.get? e=some oe) (hd:oe.data=.fields vs) (ht:vs[1]?=some .none\/∃T oT ts,vs[1]?=some (.ref T)/\T≠e/\s.heap.get? T=some oT/\oT.data=.fields ts/\ts[3]?=some .none)
  (h:∀h' T,pX (frs (env :: outer)) e oe vs T s.heap h'->Q () { s with heap:=h' }):wpAny M A (noteFrame (.ref e) env) (λ_ s'=>wpAny M A (setFlight (.ref e) none) Q E s') E s:=by
 unfold noteFrame;simp only[hf];rcases ht with h1|⟨T0,oT,ts,h1,nT,hT,dT,h3⟩
 refine wpAny_bind (wpAny_field he hd h1 ?_);rw[if_neg ∅];refine AR hfr hl hf he hd (LS.mp h1).1 λh' T a1 a2 a3 a4 a5=>h h' T ⟨a1,a2,a3,λb o q n1 _ n3=>a4 b o q n1 n3,λb o q n1 _=>a5 b o q n1,λb _ z=>by rw[h1]at z;cases z⟩;refine wpAny_bind (wpAny_field he hd h1 ?_);rw[if_pos (by simp)];refine wpAny_bind (wpAny_field hT dT h3 ?_);rw[if_neg (by simp[rawInt])];refine wpAny_bind (wpAny_setField hT dT (LS.mp h3).1 ?_);have d2:=Obj.data_mapFields dT (·.setIfInBounds 3 Value.none);have T2:=Ma (Obj.mapFields (·.setIfInBounds 3 Value.none)) hT (Obj.isFreed_of_fields d2);have gU:∀b,b≠T0->(s.heap.update T0 (Obj.mapFields (·.setIfInBounds 3 Value.none))).get? b=s.heap.get? b:=λb n=>LY _ _ (Ne.symm n);have rec':∀b o,s.heap.get? b=some o->(∀ws,o.data≠.fields ws)->b≠T0:=λb o q n z=>by rw[z,hT]at q;cases q;exact n ts dT
 have vV:(ts.setIfInBounds 3 Value.none)[3]?=some .none:=by simp[(LS.mp h3).1]
 have vW:T0 ∉ frs (env :: outer):=λz=>by
  obtain⟨_,o,q,nf⟩:=hl.mem z;rw[hT]at q;cases q;exact nf ts dT
 refine AR hfr (hl.of_keeps λb o q n=>⟨o,by rw[gU b (rec' b o q n)];exact q,rfl⟩) hf (by rw[gU e (Ne.symm nT)];exact he) hd (LS.mp h1).1 λh' T a1 a2 a3 a4 a5=>h h' T ⟨a1,?_,a3,λb o q n1 n2 n3=>?_,λb o q n1 n2=>?_,λb n1 z=>?_⟩;have z:=a2;dsimp only at z;rw[MW]at z;exact z;have nb:b≠T0:=λz=>n2 (by rw[z];exact h1);exact a4 b o (by dsimp only;rw[gU b nb];exact q) n1 n3;have nb:b≠T0:=λz=>n2 (by rw[z];exact h1);exact a5 b o (by dsimp only;rw[gU b nb];exact q) n1;rw[h1]at z;cases z;exact⟨_,_,a4 T0 _ T2 n1 vW,d2,vV⟩
end
abbrev oi:Option Addr->Value
 |none=>.none
 |some T=>.ref T
abbrev XO(a C:Addr)(dx tr:Option Addr):HO:=.ext λh=>∃o vs,h.get? a=some o/\o.cls=.ref C/\o.dict=dx/\o.data=.fields vs/\vs[1]?=some (oi tr)/\vs[2]?=some .none
abbrev XT(T:Addr):HO:=.ext λh=>∃o ts,h.get? T=some o/\o.data=.fields ts/\ts[3]?=some .none
abbrev Exc(H:Hp)(a C:Addr)(dx:Option Addr):Prop:=∃tr,H a=some (XO a C dx tr)/\∀T,tr=some T->T≠a/\H T=some (XT T)
abbrev XS(a:Addr)(H H':Hp):Prop:=(∃C dx tr nH,H a=some (XO a C dx tr)/\H' a=some (XO a C dx nH))/\∀b,b≠a->∀o,H b=some o->H' b=some o
section
variable {P:Program}{w:World}{H H' H2:Hp}{h h':Heap}{a C T:Addr}{dx tr:Option Addr}{o:HO}
def XO.ok(e:∃o vs,h.get? a=some o/\o.cls=.ref C/\o.dict=dx/\o.data=.fields vs/\vs[1]?=some (oi tr)/\vs[2]?=some .none):aT P w H h a (XO a C dx tr) :=
 ⟨e,let ⟨o,_,q,_⟩:=e;⟨o,q⟩,λh1 h2 ⟨o,vs,q,r⟩ k=>⟨o,vs,k o q,r⟩⟩
def XT.ok(e:∃o ts,h.get? T=some o/\o.data=.fields ts/\ts[3]?=some .none):aT P w H h T (XT T) :=
 ⟨e,let ⟨o,_,q,_⟩:=e;⟨o,q⟩,λh1 h2 ⟨o,vs,q,r⟩ k=>⟨o,vs,k o q,r⟩⟩
def XO.of(ok:ey P w H h)(e:H a=some (XO a C dx tr)):∃o vs,h.get? a=some o/\o.cls=.ref C/\o.dict=dx/\o.data=.fields vs/\vs[1]?=some (oi tr)/\vs[2]?=some .none:=(ok a _ e).1
def XT.of(ok:ey P w H h)(e:H T=some (XT T)):∃o ts,h.get? T=some o/\o.data=.fields ts/\ts[3]?=some .none:=(ok T _ e).1
def aT.there(x:aT P w H h a o):∃ob,h.get? a=some ob:=by
 cases o with
 |lst xs=>obtain⟨_,_,_,_,e⟩:=x;exact⟨_,e⟩
 |tup xs=>obtain⟨_,_,_,_,e,_⟩:=x;exact⟨_,e⟩
 |dK kvs=>obtain⟨_,_,_,_,o,_,_,e,_⟩:=x;exact⟨_,e⟩
 |dT kvs=>obtain⟨_,_,_,_,o,_,_,e,_⟩:=x;exact⟨_,e⟩
 |set S n=>obtain⟨o,_,_,_,e,_⟩:=x;exact⟨_,e⟩
 |ins C dx fs=>obtain⟨_,_,_,e,_⟩:=x;exact⟨_,e⟩
 |own y=>obtain⟨_,e⟩:=x;exact⟨_,e⟩
 |xd fs=>obtain⟨_,⟨_,_,_,e,_⟩,_⟩:=x;exact⟨_,e⟩
 |jE lo hi=>obtain⟨_,_,_,e⟩:=x;exact⟨_,e⟩
 |gR ob u=>obtain⟨e,_⟩:=x;exact⟨_,e⟩
 |pB ps=>exact⟨_,(show h.get? a=some _ from x)⟩
 |met f y=>exact⟨_,(show h.get? a=some _ from x)⟩
 |ext Y=>obtain⟨_,e,_⟩:=x;exact e
def ey.none_of(ok:ey P w H h)(e:h.get? a=none):H a=none:=by
 cases q:H a with
 |none=>rfl
 |some o=>obtain⟨ob,z⟩:=(ok a o q).there;rw[e]at z;cases z
def XO.inj{C':Addr}{uo nH:Option Addr}(e:XO a C dx tr=XO a C' uo nH):C=C'/\dx=uo:=by
 have q:(λh:Heap=>∃o vs,h.get? a=some o/\o.cls=.ref C/\o.dict=dx/\o.data=.fields vs/\vs[1]?=some (oi tr)/\vs[2]?=some .none)=(λh:Heap=>∃o vs,h.get? a=some o/\o.cls=.ref C'/\o.dict=uo/\o.data=.fields vs/\vs[1]?=some (oi nH)/\vs[2]?=some .none):=by
  unfold XO at e;injection e
 let ob:Obj:={ cls:=.ref C,dict:=dx,data:=.fields #[.none,oi tr,.none] }
 let h0:Heap:={ objs:=Array.replicate (a+1) ob }
 have e0:h0.get? a=some ob:=by
  refine Heap.get?_some_iff.mpr ⟨?_,rfl⟩;simp[h0]
 have z:=(congrFun q h0).mp ⟨ob,_,e0,rfl,rfl,rfl,rfl,rfl⟩;obtain⟨o',vs,e1,e2,e3,_⟩:=z;rw[e0]at e1;cases e1;exact⟨Value.ref.inj e2,e3⟩
def XS.trans(x:XS a H H')(y:XS a H' H2):XS a H H2:=by obtain⟨⟨C,dx,tr,AX,e1,e2⟩,k⟩:=x;obtain⟨⟨C',uo,DF,G0,e3,e4⟩,k'⟩:=y;rw[e2]at e3;obtain⟨rfl,rfl⟩:=XO.inj (LH e3);exact⟨⟨C,dx,tr,G0,e1,e4⟩,λb n o q=>k' b n o (k b n o q)⟩
end
section
variable {X:Cx}{pins:List (Addr×Obj)}{U:St}{H:Hp}{s:Shared}{a C:Addr}{dx:Option Addr}
def Inv.noted{A:Around}{E:Value->Shared->Prop}{Q:Unit->Shared->Prop}(I:Inv X pins U H s)(hst:X.stack=X.env :: X.outer)(hf:X.env.frame=some X.env.locals)(hA:A.frames=some X.stack)(x:Exc H a C dx)
  (h:∀h' H',XS a H H'->Exc H' a C dx->Inv X pins U H' { s with heap:=h' }->Q () { s with heap:=h' }) :
  wpAny (model X.prog X.w) A (noteFrame (.ref a) X.env) (λ_ s'=>wpAny (model X.prog X.w) A (setFlight (.ref a) none) Q E s') E s:=by
 obtain⟨tr,ea,et⟩:=x;obtain⟨oe,vs,he,hc,hdx,hd,h1,h2⟩:=XO.of I.hok ea;have jl:∀b,H b=none->vs[1]?≠some (.ref b):=λb nb z=>by
  rw[h1]at z;cases tr with
  |none=>cases z
  |some T=>cases z;rw[(et _ rfl).2]at nb;cases nb
 have fw:∀b,H b=none->b≠a:=λb nb z=>by rw[z,ea]at nb;cases nb
 refine L2.noted (by rw[hA,hst]) (hst ▸ I.stack) hf he hd ?_ λh' T N=>?_;cases tr with
 |none=>exact .inl h1
 |some T=>obtain⟨oT,ts,q1,q2,q3⟩:=XT.of I.hok (et T rfl).2;exact .inr ⟨T,oT,ts,h1,(et T rfl).1,q1,q2,q3⟩
 have HT:H T=none:=I.hok.fresh N.new;have Ta:T≠a:=fw T HT;have gT:∀b o,s.heap.get? b=some o->b≠T:=λb o q=>L7 (LR (LD q) N.new)
 let H':Hp:=upd (upd H a (XO a C dx (some T))) T (XT T)
 have Hb:∀b,b≠a->∀o,H b=some o->H' b=some o:=λb n o q=>by
  show upd (upd H a _) T _ b=_;rw[bg (λz=>by rw[z,HT]at q;cases q),bg n];exact q
 have Ha:H' a=some (XO a C dx (some T)):=by
  show upd (upd H a _) T _ a=_;rw[bg (Ne.symm Ta),gw]
 have pY:H' T=some (XT T):=gw;have Hn:∀b o,s.heap.get? b=some o->H b=none->H' b=none:=λb o q n=>by
  show upd (upd H a _) T _ b=_;rw[bg (gT b o q),bg (fw b n)];exact n
 have xs:XS a H H':=⟨⟨C,dx,tr,some T,ea,Ha⟩,Hb⟩;have gL:∀b u,H b=some u->(∀Y,u≠.ext Y)->b≠a:=λb u q n z=>by rw[z,ea]at q;cases q;exact n _ rfl
 have un:Un (frs X.stack) [] H H' s.heap h':=by
  rw[hst]
  refine⟨λb o q n1 n2 _=>N.keep b o q (fw b n1) (jl b n1) n2,λb o q n1 _ _=>N.slot b o q (fw b n1) (jl b n1),λb o q n _=>Hn b o q n,λb o q _=>?_,
   λb xs q=>Hb b (gL b _ q λY z=>nomatch z) _ q,λb o u q=>Hb b (gL b _ q λY z=>nomatch z) _ q,λb ps q=>⟨#[],by rw[Mv];exact Hb b (gL b _ q λY z=>nomatch z) _ q⟩⟩
  by_cases n1:b=a;subst n1;obtain⟨o',_,q',_⟩:=N.exc;exact⟨o',q'⟩;by_cases n2:vs[1]?=some (.ref b);obtain⟨o',_,q',_⟩:=N.old b n1 n2;exact⟨o',q'⟩;obtain⟨sl,q'⟩:=N.slot b o q n1 n2;exact⟨_,q'⟩
 have hok:ey X.prog X.w H' h':=λb u q=>by
  by_cases n0:b=T;subst n0;rw[pY]at q;cases q;exact XT.ok N.head;by_cases n1:b=a;subst n1;rw[Ha]at q;cases q;obtain⟨o',ws,p1,p2,p3,p4,p5,p6,p7⟩:=N.exc;exact XO.ok ⟨o',ws,p1,by rw[p2];exact hc,by rw[p3];exact hdx,p4,p6,by rw[p7];exact h2⟩;have qb:H b=some u:=by
   have z:upd (upd H a (XO a C dx (some T))) T (XT T) b=some u:=q;rw[bg n0,bg n1]at z;exact z
  by_cases n2:vs[1]?=some (.ref b);rw[h1]at n2;cases tr with
  |none=>cases n2
  |some T0 =>
   cases n2;rw[(et b rfl).2]at qb;cases qb;exact XT.ok (N.old b n1 h1)
  have oj:∀c v,H c=some v->c ∉ frs X.stack:=λc v z y=>by rw[I.dn c y]at z;cases z
  refine(I.hok b u qb).stay (λc v hc' r=>?_) (λc r=>Hb c (gL c _ r λY z=>nomatch z) _ r) λc xs r=>Hb c (gL c _ r λY z=>nomatch z) _ r;rcases hc' with rfl|hc'
  exact N.keep c v r n1 n2 (hst ▸ oj c u qb);refine N.keep c v r (gL c _ hc' λY z=>nomatch z) (λz=>?_) (hst ▸ oj c _ hc');rw[h1]at z;cases tr with
  |none=>cases z
  |some T0=>cases z;rw[(et c rfl).2]at hc';cases hc'
 exact h h' H' xs ⟨some T,Ha,λT' e=>by cases e;exact⟨Ta,pY⟩⟩ (I.call (ch:=[]) un hok I.bare λb z=>absurd z (by simp))
abbrev gM(P:Program)(w:World):iY:=λouter H s E e s'=>∃a C dx H',e=.ref a/\s'.os=s.os/\AllBare s'.gens/\Un (frs outer) [] H H' s.heap s'.heap/\ey P w H' s'.heap/\Exc H' a C dx/\∀i6,XS a H' i6->E (.ref a) none i6
end
section
variable {P:Program}{w:World}{K:Zfr}{mg:Str->Option Value}{base:Heap}{N:List Str}{qual:Str}{scope:Scope}{f:Addr}{cd:Value}{A:Around}{outer:List Env}{s0:Shared}{H0:Hp}{E:XK}
def leave{pins:List (Addr×Obj)}{U:St}{H:Hp}{s:Shared}{a C:Addr}{dx:Option Addr}(I:Inv (bC (gM P w) P w K mg base N qual scope f cd A outer s0 H0 E) pins U H s)(x:Exc H a C dx)(h:∀i6,XS a H i6->E (.ref a) none i6):
  (bC (gM P w) P w K mg base N qual scope f cd A outer s0 H0 E).xe (.ref a) s:=by
 show wpAny _ _ («leaving» _ (.ref a)) _ _ s;unfold «leaving»;refine wpAny_bind (Inv.noted I rfl rfl I.ok.frames x λh' H' xs x' I'=>?_);exact⟨a,C,dx,H',rfl,I'.os,I'.bare,I'.base,I'.hok,x',λi6 y=>h i6 (xs.trans y)⟩
end
section
variable {X:Cx}{pins:List (Addr×Obj)}{U:St}{H:Hp}{s:Shared}{a C:Addr}{dx:Option Addr}
def Inv.AY{h':Heap}{o:HO}(I:Inv X pins U H s)(kp:∀b u,s.heap.get? b=some u->h'.get? b=some u)(hn:s.heap.get? a=none)(new:aT X.prog X.w (upd H a o) h' a o):Inv X pins U (upd H a o) { s with heap:=h' }:=by
 have Ha:H a=none:=I.hok.none_of hn;have ne:∀b u,H b=some u->b≠a:=λb u q=>qG q Ha;have up:∀b u,H b=some u->upd H a o b=some u:=λb u q=>by rw[bg (ne b u q)];exact q
 have hok:ey X.prog X.w (upd H a o) h':=λb u q=>by
  by_cases hb:b=a;subst hb;rw[gw]at q;cases q;exact new;rw[bg hb]at q;exact(I.hok b u q).stay (λc v _ r=>kp c v r) (λc r=>up c _ r) λc xs r=>up c _ r
 have un:Un (frs X.stack) [] H (upd H a o) s.heap h' :=
  ⟨λb u q _ _ _=>kp b u q,λb u q _ _ _=>⟨u.slots,kp b u q⟩,λb u q n _=>by rw[bg (λz=>by rw[z,hn]at q;cases q)];exact n,λb u q _=>⟨u,kp b u q⟩,λb xs q=>up b _ q,λb x y q=>up b _ q,λb ps q=>⟨#[],by rw[Mv];exact up b _ q⟩⟩
 exact I.call (ch:=[]) un hok I.bare λb z=>absurd z (by simp)
def Inv.flight{M:Model}{A:Around}{E:Value->Shared->Prop}{Q:Unit->Shared->Prop}(I:Inv X pins U H s)(x:Exc H a C dx)(h:∀h',Inv X pins U H { s with heap:=h' }->Q () { s with heap:=h' }):wpAny M A (setFlight (.ref a) none) Q E s:=by
 obtain⟨tr,ea,et⟩:=x;obtain⟨oe,vs,he,hc,hdx,hd,h1,h2⟩:=XO.of I.hok ea;cases tr with
 |none =>
  unfold setFlight;refine wpAny_bind (wpAny_field he hd h1 ?_);exact wpAny_pure (h s.heap I)
 |some T =>
  obtain⟨Ta,eT⟩:=et T rfl;obtain⟨oT,ts,q1,q2,q3⟩:=XT.of I.hok eT;have lt:3<ts.size:=(LS.mp q3).1;have d2:=Obj.data_mapFields q2 (·.setIfInBounds 3 Value.none);have T2:=Ma (Obj.mapFields (·.setIfInBounds 3 Value.none)) q1 (Obj.isFreed_of_fields d2);have gU:∀b u,b≠T->s.heap.get? b=some u->(s.heap.update T (Obj.mapFields (·.setIfInBounds 3 Value.none))).get? b=some u:=λb u n q=>by rw[LY _ _ (Ne.symm n)];exact q
  have nT:∀b,H b=none->b≠T:=λb n z=>by rw[z,eT]at n;cases n
  refine wpAny_setFlight_none he hd h1 q1 q2 lt (h _ (I.call (ch:=[]) ⟨λb u q n _ _=>gU b u (nT b n) q,λb u q n _ _=>⟨u.slots,gU b u (nT b n) q⟩,λb u q n _=>n,λb u q _=>?_,λ_ _ q=>q,λ_ _ _ q=>q,λb ps q=>⟨#[],by rw[Mv];exact q⟩⟩ ?_ I.bare λb z=>absurd z (by simp)));by_cases z:b=T;subst z;exact⟨_,T2⟩;exact⟨u,gU b u z q⟩;intro b u q;by_cases z:b=T;subst z;rw[eT]at q;cases q;exact XT.ok ⟨_,_,T2,d2,by simp[lt]⟩;refine(I.hok b u q).stay (λc v hc' r=>gU c v ?_ r) (λc r=>r) λc xs r=>r;rcases hc' with rfl|hc'
  exact z;rintro rfl;rw[eT]at hc';cases hc'
end
@[reducible]def Cx.tr(X:Cx)(pins:List (Addr×Obj))(W:St->Addr->Hp->Prop):Cx :=
 { X with pn:=X.pn ++ pins,xe:=λe s=>∃U H a C dx,e=.ref a/\Inv X pins U H s/\Exc H a C dx/\∀H2,XS a H H2->W U a H2 }
@[reducible]def Cx.held(X:Cx)(a:Addr):Cx:={ X with A:=X.A.mark (some (.ref a)),calm:=false,xe:=λ_ _=>False }
section
variable {X:Cx}{pins:List (Addr×Obj)}{U:St}{H:Hp}{s:Shared}{W:St->Addr->Hp->Prop}{a:Addr}
def Cx.Ok.tr(ok:X.Ok):(X.tr pins W).Ok:=⟨ok.mod,ok.kind,ok.glob,ok.blt,ok.above,ok.inj,ok.has,ok.pD,ok.hd,ok.frames,ok.stk,ok.uW,ok.bs,ok.je,ok.gI,ok.kr,ok.eX,ok.mR⟩
def Cx.Ok.gO(ok:(X.tr pins W).Ok):X.Ok:=⟨ok.mod,ok.kind,ok.glob,ok.blt,ok.above,ok.inj,ok.has,ok.pD,ok.hd,ok.frames,ok.stk,ok.uW,ok.bs,ok.je,ok.gI,ok.kr,ok.eX,ok.mR⟩
def Inv.tr(I:Inv X pins U H s):Inv (X.tr pins W) [] U H s:=⟨I.ok.tr,I.os,I.bare,I.base,I.loc,I.cell,I.free,I.b6,λp hp=>I.pin p (by rw[Mp]at hp;exact hp),I.hok,I.len⟩
def Inv.gO{gy:List (Addr×Obj)}(I:Inv (X.tr pins W) gy U H s):Inv X pins U H s:=⟨I.ok.gO,I.os,I.bare,I.base,I.loc,I.cell,I.free,I.b6,λp hp=>I.pin p (Mm _ hp),I.hok,I.len⟩
def SP.gO{gy:List (Addr×Obj)}{D:Ends}{f:Flow}{s':Shared}(h:SP (X.tr pins W) gy D f s'):SP X pins D f s':=by
 cases f with
 |next=>obtain⟨U',H',I,q⟩:=h;exact⟨U',H',I.gO,q⟩
 |brk=>obtain⟨U',H',I,q⟩:=h;exact⟨U',H',I.gO,q⟩
 |cont=>obtain⟨U',H',I,q⟩:=h;exact⟨U',H',I.gO,q⟩
 |ret u=>obtain⟨v,U',H',I,r,q⟩:=h;exact⟨v,U',H',I.gO,r,q⟩
def Cx.Ok.held(ok:X.Ok):(X.held a).Ok:=⟨ok.mod,ok.kind,ok.glob,ok.blt,ok.above,ok.inj,ok.has,ok.pD,λz=>(by cases z),ok.frames,ok.stk,ok.uW,ok.bs,ok.je,ok.gI,ok.kr,ok.eX,ok.mR⟩
def Inv.held(I:Inv X pins U H s):Inv (X.held a) pins U H s:=⟨I.ok.held,I.os,I.bare,I.base,I.loc,I.cell,I.free,I.b6,I.pin,I.hok,I.len⟩
def Inv.jm(ok:X.Ok)(I:Inv (X.held a) pins U H s):Inv X pins U H s:=⟨ok,I.os,I.bare,I.base,I.loc,I.cell,I.free,I.b6,I.pin,I.hok,I.len⟩
def Inv.unbind{M:Model}{A:Around}{E:Value->Shared->Prop}{i:Nat}{n:Str}{pos:Pos}{Q:Unit->Shared->Prop}(I:Inv X pins U H s)(hN:X.N.Nodup)(hi:X.N[i]?=some n)(hk:X.env.scope.names.lookup n=some .local)
  (h:∀s',Inv X pins (U.set i none) H s'->Q () s'):wpAny M A (do bindName X.env n .none;unbindBehindTheSuite X.env n pos) Q E s:=by
 obtain⟨m,hn,hl⟩:=id I.loc;have hcls:(X.env.scope.kind == .class || (X.env.scope.kind == .module && X.env.locals != X.env.globals))=false:=by rw[I.ok.kind];rfl
 have mS:=I.mS;refine wpAny_nameGoes_keeps hk hn hcls λh' v hn' hs=>h _ ?_;have low:∀b o,X.s₀.heap.get? b=some o->b≠X.env.locals:=λb o e=>L7 (LR (LD e) I.ok.above);have up:∀b o,b≠X.env.locals->s.heap.get? b=some o->h'.get? b=some o:=λb o n q=>(hs.2 b n).trans q;refine⟨I.ok,I.os,I.bare,⟨λb o e n hb hx=>up b o (low b o e) (I.base.keep b o e n hb hx),λb o e n hb hx=>?_,I.base.free,λb o e hx=>?_,I.base.tups,I.base.iN,I.base.jc⟩,⟨_,hn',λj y v' e1 e2 e3=>?_⟩,λy c e=>?_,I.free,I.b6,λp hp=>?_,λb ob e=>?_,by simpa using I.len⟩;obtain⟨sl,e1⟩:=I.base.slot b o e n hb hx;exact⟨sl,up b _ (low b o e) e1⟩;obtain⟨o',e1⟩:=I.base.there b o e hx;exact⟨o',up b _ (low b o e) e1⟩;have hj:j≠i:=λz=>by
  subst z;by_cases hl':j<U.length;rw[L8 hl']at e2;cases e2;rw[List.getElem?_eq_none (by rw[Mq];lk)]at e2;cases e2
 rw[Mg (Ne.symm hj)]at e2;obtain⟨u',r',q⟩:=hl j y v' e1 e2 e3;refine⟨u',r',?_⟩;have yn:y≠n:=λz=>hj (Ac hN e1 (z ▸ hi));rcases q with⟨k,e⟩|⟨k,c,e,z⟩
 exact .inl ⟨k,by simp[yn,e]⟩;exact .inr ⟨k,c,e,z.sameBut hs (mS y c e)⟩;obtain⟨w',z⟩:=I.cell y c e;exact⟨w',z.sameBut hs (mS y c e)⟩;obtain⟨e,n',ne,nf,d⟩:=I.pin p hp;exact⟨up _ _ ne e,n',ne,nf,d⟩;refine(I.hok b ob e).stay (λc w' hc q=>up c w' ?_ q) (λ_ q=>q) λ_ _ q=>q;rintro rfl;rcases hc with rfl|hc
 rw[I.free]at e;cases e;rw[I.free]at hc;cases hc
end
abbrev nI(sp:Sp)(W:St->Addr->Hp->Prop)(t:TA):TE:=λU H Q=>t U H λvs H1=>sp vs H1 Q λu _ H2=>∃a,u=.ref a/\W U a H2
section
variable {X:Cx}{k:Nat}{f:Addr}{fd:FuncData}{ps:List Str}{sp:Sp}{x:Str}{p pos:Pos}{e:Expr}{es:List Expr}{t:TA}{pins:List (Addr×Obj)}{W:St->Addr->Hp->Prop}
def G1(F:aN X.prog X.w X.K X.mg X.base (gM X.prog X.w) k f fd ps sp)(hr:bL k X.A)(hg:Gl X x)(hm:X.mg x=some (.ref f))(hk:PySem.W.keepIn X.K (.ref f)=true)(hb:Binds X.K fd ps [])
  (ha:PA (X.tr pins W) (e :: es) t) (hdb:(x == ("__debug__" : Str))=false:=by decide) (he:starEach (e :: es) X.env=(false,eval e X.env) :: starEach es X.env:=by rfl) (hpl:(backTo pos (starEach es X.env)).any (·.1)=false:=by rfl) :
  PE (X.tr pins W) (.Call (.Name x p) (e :: es) [] pos) (nI sp W t):=by
 intro gy s U H Q I h;refine wpAny_Call_Name_kw (qK I hg hm ?_ hdb);refine PySem.W.callWith_K (h₀:=X.base) I.ok.mod.oF hk (aP (ha pos gy s U H _ I h) λus s1 ⟨vs,H1,I1,r,q⟩=>⟨I1.iG,?_⟩) he hpl;have hl:us.length=ps.length:=by rw[<- r.length];exact F.len _ _ _ _ q
 have hbd:=hb s1 us I1.iG (by rw[Mp];exact hl);rw[Mp]at hbd;refine wpAny_call (codeAny_mono (F.run X.A X.stack s1 H1 ⟨us,[]⟩ us vs Q _ hr I1.oN hbd r q) λr s' hq=>?_);cases r with
 |error e =>
  obtain⟨a,C,dx,H',rfl,os,bare,un,hok,x,hw⟩:=hq;refine⟨U,H',a,C,dx,rfl,(I1.iS os un hok bare λb z=>absurd z (by simp)).gO,x,λH2 y=>?_⟩;obtain⟨a',ea,w⟩:=hw H2 y;cases ea;exact w
 |ok fl =>
  cases fl with
  |ret u=>exact I1.after hq
  |next=>exact False.elim hq
  |brk=>exact False.elim hq
  |cont=>exact False.elim hq
end
end L2
namespace L2
open PySem PySem.Spec PyProof.Rows PySem.W
structure iO(K:Frag)(C:Addr):Prop where
 ga:findIn K (.ref C) "__getattribute__" = some (some (.builtin "BaseException.__getattribute__"))
 gt:findIn K (.ref C) "__getattr__" = some none
 hd:hasDictIn K C=true
 bx:mroIn K C (.type "BaseException")=some true
 ob:mroIn K C (.type "object")=some true
 cl:findIn K (.ref C) "__class__" = some (some (.builtin "object.__class__"))
 gs:specialIn K (.builtin "object.__class__") "__get__" = some (some (.builtin "getset_descriptor.__get__"))
 tk:takesIn K (.builtin "object.__class__")=some true
section
variable {prog:Program}{w:World}{A:Around}{E:Value->Shared->Prop}{s:Shared}{K:Frag}{a C:Addr}{ox:Obj}{odo:Option Obj}{name:Str}
def G2{M:Model}{nv:Value}{Q:Unit->Shared->Prop}(X:K.In s.heap)(I:InstAt s.heap a ox C odo)(e:iO K C)(hq:Q () s):wpAny M A (checkBuiltinCall "BaseException.__getattribute__" ⟨[.ref a,nv],[]⟩) Q E s:=by
 have hk:builtinKind "BaseException.__getattribute__" = some .slot:=by decide +kernel
 have hsplit:splitId "BaseException.__getattribute__" = some ("BaseException","__getattribute__"):=by decide +kernel
 have ha:=F.args_bexc_ga (.ref a) nv;have LT:=I.type (M:=M);have LB:=looks_mroIn (M:=M) X e.bx;obtain⟨h,g,d,t,os⟩:=s;simp only[checkBuiltinCall,hk,hsplit];refine wpAny_bind ?_;unfold isInstance;refine wpAny_bind (LT.at (LB.at ?_))
 repeat (first|assumption|wp_step)
def DG{tk:Tok}{fill expr:Bool}{Q:Value->Shared->Prop}(X:K.In s.heap)(I:InstAt s.heap a ox C odo)(e:iO K C)
  (h:∀A' (R:Fin->Shared->Prop) E',(∀v s',handedOut v=pure v->Q v s'->R (.done (.ret v)) s')->wpAny (model prog w) A' (Builtin.«object.__getattribute__» ⟨[.ref a,.str name tk],[]⟩) R E' s) :
  wpAny (model prog w) A (getAttrBy (.ref a) (.str name tk) fill expr) Q E s:=by
 have f3:=F.attrBase_ValueError.ga.bind (.ref a);have LT:=I.type (M:=model prog w);have L1:=looks_findIn (M:=model prog w) X e.ga;have L2:=looks_findIn (M:=model prog w) X e.gt;have Lp:(expr && onTheHeap (Value.builtin "BaseException.__getattribute__"))=false:=by cases expr<;>rfl
 have G3:(Value.builtin "BaseException.__getattribute__" == Value.builtin "object.__getattribute__")=false:=by decide +kernel
 have AZ:(onTheHeap (Value.ref C) && Value.builtin "BaseException.__getattribute__" == Value.builtin "object.__getattribute__")=false:=by rw[G3];rfl
 obtain⟨hh,g,d,t,os⟩:=s;unfold getAttrBy
 repeat (any_goals (first|assumption|with_reducible refine LT.at ?_|with_reducible refine L1.at ?_|with_reducible refine L2.at ?_|wp_step))
 refine codeAny_call_builtin F.attrBase_ValueError.ga.plain F.entry_bexc_ga (G2 X I e ?_);refine h _ _ _ λv s' hv q=>?_;dsimp only;rw[hv];exact wpAny_pure q
def G4{tk:Tok}{v:Value}{R:Fin->Shared->Prop}(X:K.In s.heap)(I:InstAt s.heap a ox C odo)(hf:findObj K C odo name=some (.value v))(h:R (.done (.ret v)) s):
  wpAny (model prog w) A (Builtin.«object.__getattribute__» ⟨[.ref a,.str name tk],[]⟩) R E s:=by
 have LT:=I.type (M:=model prog w);have LF:=looks_find (M:=model prog w) X I hf;obtain⟨hh,g,d,t,os⟩:=s
 repeat (any_goals (first|assumption|with_reducible refine LT.at ?_|with_reducible refine LF.at ?_|wp_step))
def G5{v:Value}{expr:Bool}{Q:Value->Shared->Prop}(X:K.In s.heap)(I:InstAt s.heap a ox C odo)(e:iO K C)(hf:findObj K C odo name=some (.value v))(hv:handedOut v=pure v)(h:Q v { s with toks:=s.toks+1 }):
  wpAny (model prog w) A (getAttr (.ref a) name expr) Q E s:=by
 obtain⟨hh,g,d,t,os⟩:=s;unfold getAttr
 repeat (any_goals (first|assumption|with_reducible refine DG (s:=⟨hh,g,d,t+1,os⟩) X I e (λA' R E' k=>G4 (s:=⟨hh,g,d,t+1,os⟩) X I hf (k _ _ hv ?_))|wp_step))
def G6{tk:Tok}{R:Fin->Shared->Prop}(X:K.In s.heap)(I:InstAt s.heap a ox C odo)(e:iO K C)(h:R (.done (.ret (.ref C))) s):
  wpAny (model prog w) A (Builtin.«object.__getattribute__» ⟨[.ref a,.str "__class__" tk],[]⟩) R E s:=by
 have LT:=I.type (M:=model prog w);have hf:findObj K C odo "__class__" = some (.bind (.builtin "getset_descriptor.__get__") (.builtin "object.__class__")):=by
  obtain⟨cd,hc,_⟩:=any_some e.hd;unfold findObj;rw[hc,MJ,e.cl,MJ];simp[e.gs,e.tk]
 have LF:=looks_find (M:=model prog w) X I hf;obtain⟨hh,g,d,t,os⟩:=s
 repeat (any_goals (first|assumption|with_reducible refine LT.at ?_|with_reducible refine LF.at ?_|wp_step))
 exact class_get (s:=⟨hh,g,d,t,os⟩) X I e.ob (wpAny_pure h)
def G7{Q:Option Value->Shared->Prop}(X:K.In s.heap)(I:InstAt s.heap a ox C odo)(e:iO K C)(h:Q (some (.ref C)) { s with toks:=s.toks+1 }):wpAny (model prog w) A (getAttr? (.ref a) "__class__") Q E s:=by
 obtain⟨hh,g,d,t,os⟩:=s;unfold getAttr? getAttrBy?
 repeat (any_goals (first|assumption|with_reducible refine DG (s:=⟨hh,g,d,t+1,os⟩) X I e (λA' R E' k=>G6 (s:=⟨hh,g,d,t+1,os⟩) X I e (k _ _ rfl ?_))|wp_step))
def DH(e:iO K C):KitX K (.ref a) (.ref C) (λh=>∃ox odo,InstAt h a ox C odo) where
 ty:=λ_ _ _ ⟨_,_,I⟩=>I.type
 it:=λ_ _ X _=>by
  obtain⟨cd,hc,_⟩:=any_some e.hd;unfold clsIn at hc;split at hc
  ·next c' d' G8 Aa ho =>
   intro A' Q' E' s' k q;unfold isType loadHead;exact wpAny_bind (wpAny_loadPart (k _ _ (X _ _ ho)) (wpAny_pure q))
  ·cases hc
 ne:=λh tp dd its n sl X htp=>by
  obtain⟨cd,hc,_⟩:=any_some e.hd;refine Bool.eq_false_iff.mpr λq=>?_;have z:C=tp:=Value.ref.inj (beq_iff_eq.mp q);subst z;unfold clsIn at hc;split at hc
  ·next c' d' G8 Aa ho =>
   have z:=(X _ _ ho).symm.trans htp;cases z
  ·cases hc
 ca:=λX ⟨_,_,I⟩ k=>G7 X I e k
end
def G9{P:Program}{w:World}{H:Hp}{h:Heap}{a C:Addr}{dx tr:Option Addr}(ok:ey P w H h)(ea:H a=some (XO a C dx tr))(hd:∀d,dx=some d->∃fs,H d=some (.xd fs)):∃ox odo,InstAt h a ox C odo:=by
 obtain⟨o,vs,he,hc,hdx,hdt,_⟩:=XO.of ok ea;have nc:notCls o=true:=by unfold notCls;rw[hdt]
 cases dx with
 |none=>exact⟨o,none,he,hc,nc,by rw[hdx];trivial⟩
 |some d =>
  obtain⟨fs,ed⟩:=hd d rfl;obtain⟨mA,⟨od,es,ep,e1,_⟩,_⟩:=(show aT P w H h d (.xd fs)from ok d _ ed);exact⟨o,some od,he,hc,nc,by rw[hdx];exact e1⟩
inductive hJ(K:Frag)(mg:Str->Option Value):Str->Value->V->Prop where
 |own {x:Str} {C:Addr}:mg x=some (.ref C)->hJ K mg x (.ref C) (.ref C)
 |blt {x:Str} {n:String}:mg x=none->bootBuiltins x=some (.type n)->x≠"__name__" -> hJ K mg x (.type n) (.ty n)
section
variable {X:Cx}{x:Str}{c:Value}{v:V}{p pos:Pos}{e:Expr}{te:TE}{b:Bool}
def pZ(h:hJ X.K X.mg x c v)(hg:Gl X x)(hdb:(x == ("__debug__" : Str))=false:=by decide):PE X (.Name x p) (tC v):=by
 cases h with
 |own m=>exact CH hg m rfl hdb
 |blt m b n=>exact jK hg m b rfl n hdb
end
abbrev oV:V->Option Value
 |.ref a=>some (.ref a)
 |.ty n=>some (.type n)
 |_=>none
abbrev lA:List V->Option (List Value)
 |[]=>some []
 |v :: r=>match oV v,lA r with
  |some c,some cs=>some (c :: cs)
  |_,_=>none
def DI{v:V}{c u:Value}(h:oV v=some c)(r:RelV v u):u=c:=by cases v<;>first|(cases h;exact r)|cases h
def DJ:∀{vs:List V} {cs us:List Value},lA vs=some cs->Vals vs us->us=cs
 |_,_,_,h,.nil=>by cases h;rfl
 |v :: r,cs,_,h,.cons a b=>by
  unfold lA at h;split at h
  ·next c cs' e1 e2=>cases h;rw[DI e1 a,DJ e2 b]
  ·cases h
abbrev vX(K:Frag):List V->Hp->VK->Prop:=λxs H Q=>∃a C dx tr v b,xs=[.ref a,v]/\H a=some (XO a C dx tr)/\(∀d,dx=some d->∃fs,H d=some (.xd fs))/\iO K C /\
 ((∃c,oV v=some c/\kitOne K (.ref C) c=some b)\/∃p vs cs,v=.ref p/\H p=some (.tup vs)/\lA vs=some cs/\kitAny K (.ref C) cs=some b)/\Q (.bl b) H
def p8{X:Cx}:dX X (.builtin "isinstance") (vX X.K):=by
 intro pins s U H xs us Q I r h;obtain⟨a,C,dx,tr,v,b,rfl,ea,hd,ei,hc,q⟩:=h;obtain⟨u,u',rfl,ru,vY⟩:=vals2 r;cases(show u=Value.ref a from ru);have J:=G9 I.hok ea hd;rcases hc with⟨c,e1,e2⟩|⟨p,vs,cs,rfl,hp,e1,e2⟩
 rw[DI e1 vY];exact kia_one (DH ei) I.iG J e2 (λz=>nomatch z) λtk=>⟨.bl b,H,I.tok tk,rfl,q⟩;cases(show u'=Value.ref p from vY);obtain⟨_,its,rv,o,h1,h2,h3,n,h4⟩:=(show aT X.prog X.w H s.heap p (.tup vs)from I.hok p _ hp);have ec:=DJ e1 rv;subst ec;obtain⟨oc,od,yS,osl⟩:=o;cases h2;cases h4;exact kia_tup (DH ei) I.iG J h1 e2 (λz=>nomatch z) λtk=>⟨.bl b,H,I.tok tk,rfl,q⟩
def mE.DK{P:Program}{w:World}{K:Frag}{mg:Str->Option Value}{base:Heap}{x qual:Str}{st:Stmt}{f:Addr}{fd:FuncData}{N ps:List Str}{k:Nat}{sp:Sp}(F:mE K x qual st f fd)(S:aA N ps (aq st))(len:∀vs H Q E,sp vs H Q E->vs.length=ps.length)
  (hbody:∀(cdv:Value) (A:Around) (outer:List Env) (s:Shared) (H:Hp) (vs:List V) (Q:VK) (E:XK),bL k (A.deeper (envOfC qual (aq st) s.heap.objs.size f cdv))->sp vs H Q E ->
   ∃t,iT (bC (gM P w) P w K mg base N qual (aq st) f cdv A outer s H E) (bU st) t/\t { nx:=λ_ H'=>Q .non H',rt:=Q } (start N vs) H):aN P w K mg base (gM P w) (k+1) f fd ps sp:=by
 obtain⟨oc,od,kV,doc,pm,an,cdv,ct,osl,rfl,lk,hcd⟩:=F.ex;exact pO lk hcd S len λA outer s H vs Q E hr jP=>hbody cdv A outer s H vs Q E hr jP
end L2
namespace L2
open PySem PySem.Spec PyProof.Rows
section
variable {X:Cx}{body:List Stmt}{h₀:ExceptHandler}{hs:List ExceptHandler}{pos:Pos}{t:TS}
abbrev nJ:V->List V->Hp->VK->Prop:=λx vs H Q=>∃a b:Str,x=.str a/\vs=[.str b]/\(b.length == 0)=false/\a.length<=sizeLine/\(Txt.split a b).length<=sizeLine/\∀l,H l=none->Q (.ref l) (upd H l (.lst ((Txt.split a b).map V.str)))
def DL:∀(xs:List Str) (tk:Nat),Vals (xs.map V.str) (strsFrom tk xs)
 |[],_=>.nil
 |x :: r,tk=>.cons ⟨_,rfl⟩ (DL r (tk+1))
def A0:Av X "str.split" nJ:=by
 intro pins s U H x vs v us Q I rx rv h;obtain⟨a,b,rfl,rfl,hb,ha,hz,q⟩:=h;obtain⟨t,rfl⟩:=rx;obtain⟨u,rfl,ru⟩:=rv.one;obtain⟨t2,rfl⟩:=ru;have fin:∀(xs:List Str) (us:List Value) (k:Nat),Txt.split a b=xs->Vals (xs.map V.str) us->EP X pins U Q (.ref s.heap.objs.size) { s with heap:=s.heap.push { cls:=.type "list",data:=.seq us.toArray },toks:=k }:=λxs us k e rv=>by
  have hf:H s.heap.objs.size=none:=I.hok.fresh (LI _);rw[e]at q hz;refine⟨.ref s.heap.objs.size,_,I.laid (t':=k) (o:=.lst (xs.map V.str)) (λb u e=>LA _ e) (LI _) ?_,rfl,q _ hf⟩;exact⟨by rw[LG];exact hz,us,0,rv,LJ _ rfl⟩
 cases h1:(decide (a.length<b.length) || decide (Builtin.Str.strKind a<Builtin.Str.strKind b))with
 |true =>
  refine call_meets F.slot_str_split (typeIs_str s a t) F.entry_str_split (F.args_str_split_2 _ _) (meets_str_split_cannot_occur a b t t2 h1) ?_;exact fin [a] _ s.toks (by unfold Txt.split;rw[if_pos h1]) (.cons ⟨_,rfl⟩ .nil)
 |false =>
  cases hf:(Builtin.Str.occurrences a b 0 a.length (a.length+1)).isEmpty with
  |true =>
   refine call_meets F.slot_str_split (typeIs_str s a t) F.entry_str_split (F.args_str_split_2 _ _) (meets_str_split_not_found a b t t2 h1 hb hf) ?_;exact fin [a] _ s.toks (by unfold Txt.split;rw[if_neg (by rw[h1];exact LC),if_pos hf]) (.cons ⟨_,rfl⟩ .nil)
  |false =>
   have e:Txt.split a b=Builtin.Str.partsBetween a (Builtin.Str.occurrences a b 0 a.length (a.length+1)) b.length:=by
    unfold Txt.split;rw[if_neg (by rw[h1];exact LC),if_neg (by rw[hf];exact LC)]
   refine call_meets F.slot_str_split (typeIs_str s a t) F.entry_str_split (F.args_str_split_2 _ _) (meets_str_split_sep a b t t2 h1 hb hf ha (by rw[<- e];exact hz)) ?_;exact fin _ _ _ e (DL _ _)
end
open Builtin
end L2
namespace L2
open PySem PySem.Spec PyProof.Rows
section
variable {X:Cx}{K:Zfr}
def A1:dX X (.type "int") (λxs H Q=>∃(x:Str) (n:Int),xs=[.str x]/\PySem.intText? x=some n/\x.length<=640/\Q (.int n) H):=by intro pins s U H xs us Q I r h;obtain⟨x,n,rfl,hn,hl,q⟩:=h;obtain⟨u,rfl,t,rfl⟩:=vals1 r;exact PySem.W.KIN.call_text hn hl ⟨.int n,H,I.tok _,⟨_,rfl⟩,q⟩
abbrev lB:V->List V->Hp->VK->Prop:=λx vs H Q=>∃a b:Str,x=.str a/\vs=[.str b]/\Q (.bl (Txt.startswith a b)) H
def He:Av X "str.startswith" lB:=by intro pins s U H x vs v us Q I rx rv h;obtain⟨a,b,rfl,rfl,q⟩:=h;obtain⟨t,rfl⟩:=rx;obtain⟨u,rfl,ru⟩:=rv.one;obtain⟨t2,rfl⟩:=ru;exact SC.startswith ⟨.bl _,H,I,rfl,q⟩
abbrev vZ:V->Option Int->Option Int->Hp->VK->Prop:=λx lo hi H Q=>∃z:Str,x=.str z/\z.length<=sizeLine/\Q (.str (Txt.slice z lo hi)) H
def nK:Aq X vZ:=by
 intro pins s U H x v vl vu lo hi sl Q I rx hs pl pu h;obtain⟨z,rfl,hz,q⟩:=h;obtain⟨t,rfl⟩:=rx;refine⟨"str",_,F.slot_str_getitem.lookup,typeIs_str _ _ _,?_⟩;have fin:∀(t':Tok) (k:Nat),EP X pins U Q (.str (Txt.slice z lo hi) t') { s with toks:=k }:=λt' k=>⟨.str _,H,I.tok _,⟨_,rfl⟩,q⟩;obtain⟨o,ho,hc,hd⟩:=hs;cases pl with
 |none =>
  cases pu with
  |none=>exact wpAny_getItem_str_slice (l:=none) (u:=none) (st:=none) ⟨o,ho,hc,hd⟩ rfl (post_val_or_str ⟨L5 (Txt.slice_le z _ _) hz,fin⟩)
  |int j u=>exact wpAny_getItem_str_slice (l:=none) (u:=some (j,u)) (st:=none) ⟨o,ho,hc,hd⟩ rfl (post_val_or_str ⟨L5 (Txt.slice_le z _ _) hz,fin⟩)
 |int i w =>
  cases pu with
  |none=>exact wpAny_getItem_str_slice (l:=some (i,w)) (u:=none) (st:=none) ⟨o,ho,hc,hd⟩ rfl (post_val_or_str ⟨L5 (Txt.slice_le z _ _) hz,fin⟩)
  |int j u=>exact wpAny_getItem_str_slice (l:=some (i,w)) (u:=some (j,u)) (st:=none) ⟨o,ho,hc,hd⟩ rfl (post_val_or_str ⟨L5 (Txt.slice_le z _ _) hz,fin⟩)
def v8(z:Str)(lo hi:Option Int):Txt.slice z lo hi=StrLaws.sliceText z lo hi:=rfl
end
end L2
namespace L2
open PySem PySem.Spec PyProof.Rows PySem.W PySem.Builtin PySem.Builtin.ObjectAttr
abbrev Hf:List Value:=[.type "ValueError",.type "Exception",.type "BaseException",.type "object"]
abbrev lD:List Value->Bool
 |[]=>false
 |v :: r=>(v :: r) == Hf || (match v with|.ref _=>lD r|_=>false)
def DM(self:Value):∀{l:List Value},lD l=true->refuseLoop self "__setattr__" l=pure ()/\l.contains (.type "object")=true
 |[],e=>by cases e
 |v :: r,e=>by
  unfold lD at e;rcases Bool.or_eq_true_iff.mp e with e|e
  ·rw[beq_iff_eq.mp e];exact⟨PySem.F.store_ValueError.passes self,by decide +kernel⟩
  ·split at e
   ·next c =>
    obtain⟨h1,h2⟩:=DM self (l:=r) e;exact⟨by rw[refuseLoop_ref];exact h1,by rw[List.contains_cons,h2,Bool.or_true]⟩
   ·cases e
structure om(K:Frag)(C:Addr):Prop where
 sa:findIn K (.ref C) "__setattr__" = some (some (.builtin "object.__setattr__"))
 hd:hasDictIn K C=true
 po:(clsIn K C).any (λcd=>lD cd.mro)=true
section
variable {prog:Program}{w:World}{A:Around}{E:Value->Shared->Prop}{s:Shared}{K:Frag}{a C:Addr}{ox:Obj}{odo:Option Obj}{name:Str}{v:Value}
def DN{R:Result->Shared->Prop}{tk:Tok}(X:K.In s.heap)(I:InstAt s.heap a ox C odo)(e:om K C)(ht:takerIn K C name=some none)
  (h:∀b,wpAny (model prog w) A.in1 (storeInOwnDict (.ref a) (.ref C) (.str name tk) name v b)
   (λfin s'=>match fin with|.done f=>R (.ok f) s'|.again c'=>c'.quiet=true/\codeAny (model prog w) A c' R s') (λe s'=>R (.error e) s') s) :
  codeAny (model prog w) A (.call (.builtin "object.__setattr__") ⟨[.ref a,.str name tk,v],[]⟩) R s:=by
 have SF:=PySem.F.store_object;obtain⟨cd,hc,ho⟩:=any_some e.po;obtain⟨o1,o2⟩:=DM (.ref a) ho;have ne:cd.mro.isEmpty=false:=by
  cases q:cd.mro with
  |nil=>rw[q]at ho;cases ho
  |cons _ _=>rfl
 have sub:Looks (model prog w) s.heap (isInstance (.ref a) (.type "object")) true:=I.type.andThen (looks_mroIn X (by unfold mroIn;rw[hc,MJ,if_neg (by rw[ne];decide),o2]));refine codeAny_call_builtin SF.slot.plain SF.entry (@check_slot (model prog w) _ _ s "object.__setattr__" "object" "__setattr__" (.ref a) [.str name tk,v] [] _ SF.kind SF.split sub (SF.args (.ref a) (.str name tk) v) ?_);obtain⟨attr,ha,hr⟩:=ME.mp ht;have LM:Looks (model prog w) s.heap (mroOf (.ref C)) cd.mro:=(looks_clsIn X hc).andThen .now;have LT:Looks (model prog w) s.heap (storeTaker? attr) none:=by
  cases attr with
  |none=>exact .now
  |some u =>
   obtain⟨b,hb,hn⟩:=Mc.mp hr;cases b with
   |true=>cases hn
   |false=>exact(looks_takesIn X hb).andThen .now
 rw[osa_eq,refuse_eq];refine wpAny_bind (wpAny_bind (I.type.here (wpAny_bind (LM.here ?_))));rw[o1];exact wpAny_pure (wpAny_bind (I.type.here (wpAny_bind ((looks_findIn X ha).here (wpAny_bind (LT.here (h _)))))))
def Hg{Q:Unit->Shared->Prop}(X:K.In s.heap)(hx:s.heap.get? a=some ox)(hc:ox.cls=.ref C)(hdx:ox.dict=none){vs:Array Value}(hdt:ox.data=.fields vs)(e:om K C)(ht:takerIn K C name=some none)
  (h:∀h' d tk,s.heap.objs.size<=d->h'.get? a=some { ox with dict:=some d }->h'.Ns1 d (λy=>if y=name then some v else none)->(∀b o,b≠a->s.heap.get? b=some o->h'.get? b=some o)->Q () { s with heap:=h',toks:=tk }) :
  wpAny (model prog w) A (setAttr (.ref a) name v) Q E s:=by
 obtain⟨oc,od,yS,osl⟩:=ox;dsimp only at hc hdx hdt;subst hc hdx hdt;have J:InstAt s.heap a ⟨.ref C,none,.fields vs,osl⟩ C none:=⟨hx,rfl,rfl,trivial⟩;refine set_plain X J e.sa (DN (s:={ s with toks:=s.toks+1 }) X J e ht λb=>?_);obtain⟨cd,hcd,hd'⟩:=any_some e.hd;refine wpAny_bind (wpAny_pure (wpAny_bind (wpAny_bind (wpAny_loadPart hx (wpAny_bind (Looks.here (s:={ s with toks:=s.toks+1 }) (looks_clsIn X hcd) ?_))))));rw[hd',if_neg ∅];dsimp only;rw[if_neg (by simp[typeHasDict])];have x1:(s.heap.push { cls:=.type "dict",data:=.dict #[] }).get? a=some ⟨.ref C,none,.fields vs,osl⟩:=LA _ hx;have ns:a≠s.heap.objs.size:=L7 (LD hx);refine wpAny_bind (wpAny_alloc' (wpAny_bind (wpAny_update' x1 (wpAny_pure ?_))));have gd:((s.heap.push { cls:=.type "dict",data:=.dict #[] }).update a λo=>{ cls:=o.cls,dict:=some s.heap.objs.size,data:=o.data,slots:=o.slots }).get? s.heap.objs.size=some { cls:=.type "dict",data:=.dict #[] } :=
  (Heap.get?_update_ne _ _ _ _ ns.symm).trans (Heap.get?_push_at rfl rfl)
 have nd:((s.heap.push { cls:=.type "dict",data:=.dict #[] }).update a λo=>{ cls:=o.cls,dict:=some s.heap.objs.size,data:=o.data,slots:=o.slots }).Ns s.heap.objs.size (λ_=>none) :=
  ⟨_,#[],_,gd,rfl,λe he=>absurd he (by simp),λ_=>rfl⟩
 show wpAny _ _ (storeInDict s.heap.objs.size (.str name s.toks) name v) _ _ _;unfold storeInDict newKeyGuard;refine wpAny_bind (wpAny_pure (wpAny_bind (wpAny_nsSet1 (Heap.Ns1.of_empty nd) λh' hn hs=>?_)));obtain⟨oD,esD,Hi,A2,A3,A4⟩:=hn.count (Within.cons name v Within.nil);refine wpAny_bind (wpAny_lookBehind A2 (by rw[A3];exact pastItsLine_dict (L5 A4 (by rw[LZ,M5,sizeLine_eq];lk))) ?_);refine wpAny_pure (h h' s.heap.objs.size _ (LI _) ((hs.2 a ns).trans (Ma _ x1 rfl)) hn λb o nb q=>?_);exact(hs.2 b (L7 (LD q))).trans ((Heap.get?_update_ne _ _ _ _ nb).trans (LA _ q))
def Hj{Q:Unit->Shared->Prop}{d:Addr}{mA:Str->Option Value}{nms:List Str}(X:K.In s.heap)(hx:s.heap.get? a=some ox)(hc:ox.cls=.ref C)(hdx:ox.dict=some d){vs:Array Value}(hdt:ox.data=.fields vs)(hn:s.heap.Ns1 d mA)(e:om K C)(ht:takerIn K C name=some none)
  (hw:Within mA nms) (hsz:nms.length+1<=sizeLine) (h:∀h' tk,Heap.SameBut d s.heap h'->h'.Ns1 d (λy=>if y=name then some v else mA y)->Q () { s with heap:=h',toks:=tk }) :
  wpAny (model prog w) A (setAttr (.ref a) name v) Q E s:=by
 obtain⟨oc,od,yS,osl⟩:=ox;dsimp only at hc hdx hdt;subst hc hdx hdt;obtain⟨odd,es,ep,e1,_⟩:=id hn;have J:InstAt s.heap a ⟨.ref C,some d,.fields vs,osl⟩ C (some odd):=⟨hx,rfl,rfl,e1⟩;refine set_plain X J e.sa (DN (s:={ s with toks:=s.toks+1 }) X J e ht λb=>?_);obtain⟨cd,hcd,hd'⟩:=any_some e.hd;refine wpAny_bind (wpAny_pure (wpAny_bind (wpAny_bind (wpAny_loadPart hx (wpAny_bind (Looks.here (s:={ s with toks:=s.toks+1 }) (looks_clsIn X hcd) ?_))))));rw[hd',if_neg ∅];refine wpAny_pure ?_;show wpAny _ _ (storeInDict d (.str name s.toks) name v) _ _ _;unfold storeInDict newKeyGuard;refine wpAny_bind (wpAny_pure (wpAny_bind (wpAny_nsSet1 (s:={ s with toks:=s.toks+1 }) hn λh' hn2 hs2=>?_)));obtain⟨oD,esD,Hi,A2,A3,A4⟩:=hn2.count (Within.cons name v hw);refine wpAny_bind (wpAny_lookBehind A2 (by rw[A3];exact pastItsLine_dict (L5 A4 (by rw[LZ];lk))) ?_);exact wpAny_pure (h h' _ hs2 hn2)
end
abbrev DO(K:Frag)(ta tv:TE)(f:Str):TS:=λD U H=>tv U H λy H1=>ta U H1 λx H2=>∃a C tr,x=.ref a/\om K C/\takerIn K C f=some none /\
 ((H2 a=some (XO a C none tr)/\∀ d,H2 d=none->d≠a->D.nx U (upd (upd H2 a (XO a C (some d) tr)) d (.xd [(f,y)]))) \/
   ∃d fs,H2 a=some (XO a C (some d) tr)/\H2 d=some (.xd fs)/\fs.length<=10/\D.nx U (upd H2 d (.xd ((f,y) :: fs))))
section
variable {X:Cx}{pins:List (Addr×Obj)}{U:St}{H:Hp}{s:Shared}{a C:Addr}{tr:Option Addr}{f:Str}{y:V}{u:Value}
def DP{fs:List (Str×V)}{mA:Str->Option Value}(r:∀g,ko (fs.lookup g) (mA g))(ry:RelV y u):∀g,ko (((f,y) :: fs).lookup g) (if g=f then some u else mA g):=λg=>by
 rw[Mr];by_cases e:g=f;subst e;rw[if_pos rfl,beq_self_eq_true];exact ry;rw[if_neg e,show(g == f)=false from by simpa using e];exact r g
def Inv.v9{A:Around}{E:Value->Shared->Prop}{Q:Unit->Shared->Prop}(I:Inv X pins U H s)(ea:H a=some (XO a C none tr))(e:om X.K C)(ht:takerIn X.K C f=some none)(ry:RelV y u)
  (h:∀s' d,H d=none->d≠a->Inv X pins U (upd (upd H a (XO a C (some d) tr)) d (.xd [(f,y)])) s'->Q () s'):wpAny (model X.prog X.w) A (setAttr (.ref a) f u) Q E s:=by
 obtain⟨ox,vs,hx,hc,hdx,hdt,h1,h2⟩:=XO.of I.hok ea;refine Hg I.iG hx hc hdx hdt e ht λh' d tk hd g1 g2 kp=>?_;have Hd:H d=none:=I.hok.fresh hd;have da:d≠a:=λz=>by rw[z,ea]at Hd;cases Hd
 refine h _ d Hd da ?_;have Hb:∀b o,b≠a->H b=some o->upd (upd H a (XO a C (some d) tr)) d (.xd [(f,y)]) b=some o:=λb o n q=>by rw[bg (λz=>by rw[z,Hd]at q;cases q),bg n];exact q
 have gL:∀b o,H b=some o->(∀Y,o≠.ext Y)->b≠a:=λb o q n z=>by rw[z,ea]at q;cases q;exact n _ rfl
 have low:∀b o,s.heap.get? b=some o->b≠d:=λb o q=>L7 (LR (LD q) hd)
 refine I.call (ch:=[]) ⟨λb o q n _ _=>kp b o (λz=>by rw[z,ea]at n;cases n) q,λb o q n _ _=>⟨o.slots,kp b o (λz=>by rw[z,ea]at n;cases n) q⟩,λb o q n _=>?_,λb o q _=>?_,
  λb xs q=>Hb b _ (gL b _ q λY z=>by cases z) q,λb o v q=>Hb b _ (gL b _ q λY z=>by cases z) q,λb ps q=>⟨#[],by rw[Mv];exact Hb b _ (gL b _ q λY z=>by cases z) q⟩⟩ ?_ I.bare λb z=>absurd z (by simp)
 rw[bg (low b o q),bg (λz=>by rw[z,ea]at n;cases n)];exact n;by_cases z:b=a;subst z;exact⟨_,g1⟩;exact⟨o,kp b o z q⟩;intro b o q;by_cases z:b=d;subst z;rw[gw]at q;cases q;exact⟨_,g2,DP (fs:=[]) (λg=>trivial) ry⟩;rw[bg z]at q;by_cases z2:b=a;subst z2;rw[gw]at q;cases q;exact XO.ok ⟨_,vs,g1,hc,rfl,hdt,h1,h2⟩;rw[bg z2]at q;refine(I.hok b o q).stay (λc w' hc' r=>kp c w' ?_ r) (λc r=>Hb c _ (gL c _ r λY z=>by cases z) r) λc xs r=>Hb c _ (gL c _ r λY z=>by cases z) r;rcases hc' with rfl|hc'
 exact z2;exact gL c _ hc' λY z=>by cases z
def Inv.wa{A:Around}{E:Value->Shared->Prop}{Q:Unit->Shared->Prop}{d:Addr}{fs:List (Str×V)}(I:Inv X pins U H s)(ea:H a=some (XO a C (some d) tr))(ed:H d=some (.xd fs))(hl:fs.length<=10)(e:om X.K C)(ht:takerIn X.K C f=some none)(ry:RelV y u)
  (h:∀s',Inv X pins U (upd H d (.xd ((f,y) :: fs))) s'->Q () s'):wpAny (model X.prog X.w) A (setAttr (.ref a) f u) Q E s:=by
 obtain⟨ox,vs,hx,hc,hdx,hdt,h1,h2⟩:=XO.of I.hok ea;obtain⟨mA,hn,rf⟩:=(show aT X.prog X.w H s.heap d (.xd fs)from I.hok d _ ed);have wi:Within mA (fs.map (·.1)):=λg hg=>by
  cases q:fs.lookup g with
  |some v =>
   have:=PySem.mem_of_lookup q;exact LX.mpr ⟨(g,v),this,rfl⟩
  |none =>
   have z:=rf g;rw[q]at z;cases m:mA g with
   |none=>exact absurd m hg
   |some w=>rw[m]at z;exact z.elim
 refine Hj I.iG hx hc hdx hdt hn e ht wi (by rw[LG,sizeLine_eq];lk) λh' tk sb hn2=>h _ ?_;have kp:∀b o,b≠d->s.heap.get? b=some o->h'.get? b=some o:=λb o n q=>(sb.2 b n).trans q;have nd:∀b o,H b=some o->(∀ws,o≠.xd ws)->b≠d:=λb o q n z=>by rw[z,ed]at q;cases q;exact n _ rfl
 have Hb:∀b o,H b=some o->(∀ws,o≠.xd ws)->upd H d (.xd ((f,y) :: fs)) b=some o:=λb o q n=>by rw[bg (nd b o q n)];exact q
 obtain⟨od,es,ep,gd,_⟩:=id hn2
 refine I.call (ch:=[]) ⟨λb o q n _ _=>kp b o (λz=>by rw[z,ed]at n;cases n) q,λb o q n _ _=>⟨o.slots,kp b o (λz=>by rw[z,ed]at n;cases n) q⟩,λb o q n _=>by rw[bg (λz=>by rw[z,ed]at n;cases n)];exact n,λb o q _=>?_,
  λb xs q=>Hb b _ q (λws z=>by cases z),λb o v q=>Hb b _ q (λws z=>by cases z),λb ps q=>⟨#[],by rw[Mv];exact Hb b _ q (λws z=>by cases z)⟩⟩ ?_ I.bare λb z=>absurd z (by simp)
 by_cases z:b=d;subst z;exact⟨_,gd⟩;exact⟨o,kp b o z q⟩;intro b o q;by_cases z:b=d;subst z;rw[gw]at q;cases q;exact⟨_,hn2,DP rf ry⟩;rw[bg z]at q;refine(I.hok b o q).stay (λc w' hc' r=>kp c w' ?_ r) (λc r=>Hb c _ r λws z=>by cases z) λc xs r=>Hb c _ r λws z=>by cases z
 rcases hc' with rfl|hc'
 exact z;exact nd c _ hc' λws z=>by cases z
variable {o value:Expr}{ta tv:TE}{pos pos':Pos}
def Hk(ha:PE X o ta)(hv:PE X value tv)(hs:swapsWith value (some (.Attribute o f pos')) pos.line X.env=pure false):PS X (.Assign [.Attribute o f pos'] value pos) (DO X.K ta tv f):=by
 intro pins s U H D I h;refine plainObj_wpAny_Assign_Attribute (aP (hv pins s U H _ I h) λu s1 ⟨y,H1,I1,ry,q⟩=>aP (ha pins s1 U H1 _ I1 q) λov s2 ⟨x,H2,I2,rx,a,C,tr,ex,e,ht,q2⟩=>?_) hs;subst ex;obtain rfl:ov=Value.ref a:=rx;rcases q2 with⟨ea,q2⟩|⟨d,fs,ea,ed,hl,q2⟩
 exact I2.v9 ea e ht ry λs3 d h1 h2 I3=>⟨U,_,I3,q2 d h1 h2⟩;exact I2.wa ea ed hl e ht ry λs3 I3=>⟨U,_,I3,q2⟩
end
end L2
namespace L2
open PySem PySem.Spec PyProof.Rows PySem.W
abbrev fx(K:Frag)(C:Addr)(bmB:List Value)(newId:String)(f:Addr):Bool:=match K.lookup C with
 |some ⟨.type "type",_,.cls cd,sl⟩=>(match cd.mro,sl.toList with
  |.ref C' :: bm,[_,_,_,_,some (.builtin n),_]=>C' == C && n == newId && !cd.hasDel && tailIn K bmB bm && nsOkIn K cd.ns && nsIn K cd.ns "__init__" == some (some (.ref f))
  |_,_=>false)
 |_=>false
def Hl{K:Frag}{h:Heap}{N:Addr}{mN:Str->Option Value}{n:Str}{v:Value}(X:K.In h)(G:h.Ns N mN)(e:nsIn K N n=some (some v)):mN n=some v:=by
 obtain⟨o,es,ep,ho,hd,_,hf⟩:=G;unfold nsIn at e;split at e
 ·next c d es' n' sl q =>
  have z:=X _ _ q;rw[ho]at z;cases z;cases hd;split at e
  ·next en he =>
   cases e;rw[<- hf];unfold nsFind findBy;rw[<- Array.find?_toList,he];rfl
  ·split at e<;>cases e
 ·cases e
def DQ{K:Frag}{h:Heap}{C f:Addr}{bmB:List Value}{newId:String}(X:K.In h)(q:fx K C bmB newId f=true):
  ∃bm N nm qn bs hdct sn sub ab col dd k0 k1 k2 k3 k5 mN,h.get? C=some (excClassObj nm qn C N bs bm hdct sn sub ab col dd k0 k1 k2 k3 k5 newId)/\h.Ns N mN/\mN "__init__" = some (.ref f)/\OwnTail h bmB bm:=by
 unfold fx at q;split at q
 ·next dd cd sl ho =>
  split at q
  ·next C' bm k0 k1 k2 k3 n k5 hm hs =>
   simp only[Mf,beq_iff_eq,Bool.not_eq_true']at q;obtain⟨⟨⟨⟨⟨e1,e2⟩,e3⟩,e4⟩,e5⟩,e6⟩:=q;subst e1 e2;obtain⟨nm,bs,mro,ns,qn,hd,sn,sub,ab,col,del⟩:=cd;obtain⟨l⟩:=sl;dsimp only at hm hs e3 e5 e6;subst hm e3 hs;have G:h.Ns ns (h.nsMap ns):=.of_isNs (isNs_of_in X e5);exact⟨bm,ns,nm,qn,bs,hd,sn,sub,ab,col,dd,k0,k1,k2,k3,k5,_,X _ _ ho,G,Hl X G e6,tail_of_in X e4⟩
  ·cases q
 ·cases q
section
variable {prog:Program}{w:World}{A:Around}{E:Value->Shared->Prop}{h:Heap}{g:Array GenState}{d:Drawn}{t:Nat}{os:OsState}
variable {nm q:Str}{C N:Addr}{bs bm bmB:List Value}{hdct:Bool}{sn:List Str}{sub:List Value}{ab:Bool}{col:Option Bool}{dd:Option Addr}{k0 k1 k2 k3 k5:Option Value}{B newId initId:String}
def Hm(F:ExcBaseFacts B newId initId bmB)(T:OwnTail h bmB bm){mN:Str->Option Value}{rest:List Value}{f:Addr}{oI:Obj}{Q:PySem.Fin->Shared->Prop}
  (hC:h.get? C=some (excClassObj nm q C N bs bm hdct sn sub ab col dd k0 k1 k2 k3 k5 newId)) (hn:h.Ns N mN) (hi:mN "__init__" = some (.ref f)) (hf:h.get? f=some oI) (hfc:oI.cls=.type "function")
  (hq:∀h' e,Heap.MadeExcOf h h' e (.ref C) rest->wpAny (model prog w) A (call (.ref f) (.ref e :: rest)) (λr s'=>r=.none/\Q (.done (.ret (.ref e))) s') E ⟨h',g,d,t,os⟩) (hrest:rest.length<=sizeLine) :
  wpAny (model prog w) A (Builtin.«type.__call__» ⟨.ref C :: rest,[]⟩) Q E ⟨h,g,d,t,os⟩:=by
 repeat (first|with_reducible refine wpAny_loadPart_at hC ?_|with_reducible refine wpAny_madeBy_exc hC ?_|wp_step)
 refine codeAny_call_builtin_code (Code.quiet_builtin _ F.quiet) (wpAny_check_new_subT F T hC (codeAny_exc_new_subT F T hC ?_ hrest));show wpAny _ _ _ _ _ _;generalize e1:({ cls:=.type "tuple",data:=.seq rest.toArray }:Obj)=o1;generalize e2:({ cls:=.ref C,data:=.fields #[.ref h.objs.size,.none,.none,.none,.bool false,.none] }:Obj)=o2;have f1:o1.isFreed=false:=by rw[<- e1];rfl
 have f2:o2.isFreed=false:=by rw[<- e2];rfl
 have kp:∀b o,h.get? b=some o->((h.push o1).push o2).get? b=some o:=λb o z=>LA _ (LA _ z);have gE:((h.push o1).push o2).get? (h.objs.size+1)=some o2:=Heap.get?_push_at (by simp only[Ml]) f2;have DR:((h.push o1).push o2).get? (h.objs.size+1)=some { cls:=.ref C,data:=.fields #[.ref h.objs.size,.none,.none,.none,.bool false,.none] }:=by rw[gE,<- e2]
 have cC:(Value.ref C :: bm).contains (.ref C)=true:=by simp
 have DS:=kp _ _ hC;have hn1:((h.push o1).push o2).Ns N mN:=hn.keeps kp;have T1:=T.keeps kp;unfold isInstance
 repeat (first|with_reducible refine wpAny_loadPart_at DR ?_|(with_reducible refine wpAny_isSubtype_exc DS ?_;rw[cC])|wp_step)
 show wpAny _ _ (typeLookup (.ref C) _) _ _ _;refine wpAny_typeLookup_tail DS hn1 T1 F.mroIs F.init.lookup ?_;rw[hi];refine wpAny_holding (wpAny_bind ?_);unfold bindSpecial;refine wpAny_bind (wpAny_typeOf (T:="function") ⟨_,kp _ _ hf,hfc⟩ ?_);rw[if_pos ∅];refine wpAny_pure (wpAny_bind (wpAny_mono (hq _ (h.objs.size+1) ⟨kp,M1 (Nat.le_succ _),h.objs.size,DR,M1 (LI _),?_⟩) (λr s' hr=>?_) λ_ _ x=>x))
 ·rw[LA o2 (Heap.get?_push_at rfl f1),e1]
 ·obtain⟨rfl,hQ⟩:=hr
  wp_walk
  exact hQ
def Ho(F:ExcBaseFacts B newId initId bmB)(T:OwnTail h bmB bm){mN:Str->Option Value}{rest:List Value}{f:Addr}{oI:Obj}{Q:Value->Shared->Prop}
  (hC:h.get? C=some (excClassObj nm q C N bs bm hdct sn sub ab col dd k0 k1 k2 k3 k5 newId)) (hn:h.Ns N mN) (hi:mN "__init__" = some (.ref f)) (hf:h.get? f=some oI) (hfc:oI.cls=.type "function")
  (hq:∀h' e,Heap.MadeExcOf h h' e (.ref C) rest->wpAny (model prog w) (A.under (.builtin "type.__call__" ⟨.ref C :: rest,[]⟩)) (call (.ref f) (.ref e :: rest)) (λr s'=>r=.none/\Q (.ref e) s') E ⟨h',g,d,t,os⟩) (hrest:rest.length<=sizeLine) :
  wpAny (model prog w) A (call (.ref C) rest) Q E ⟨h,g,d,t,os⟩:=by
 have f1:=tc_lookup;have f2:=tc_bind (.ref C);have hT:(⟨h,g,d,t,os⟩:Shared).TypeIs (.ref C) "type" := ⟨_,hC,rfl⟩;refine wpAny_call (codeAny_of_tree ?_);show wpAny _ _ (callAny (.ref C) _) _ _ _
 repeat (any_goals (first|assumption|with_reducible refine wpAny_loadPart_at hC ?_|wp_step))
 refine⟨rfl,?_⟩;exact codeAny_call_builtin_at (Code.quiet_builtin _ (by decide +kernel)) entry_typeCall (wpAny_check_type_call_sub hC (Hm F T hC hn hi hf hfc (λh' e hm=>hq h' e hm) hrest))
end
def DT{M:Model}{A:Around}{E:Value->Shared->Prop}{env:Env}{s:Shared}{x:Sem Value}{K:Frag}{Q:Flow->Shared->Prop}(hh:A.handled=none)
  (h:wpAny M A x (λv s1=>∃e C dx vs sl,v=.ref e/\K.In s1.heap/\s1.heap.get? e=some ⟨.ref C,dx,.fields vs,sl⟩/\vs[1]?=some .none/\mroIn K C (.type "BaseException")=some true/\typeIn K (.ref C)=some (.type "type")/\E (.ref e) s1) E s) :
  wpAny M A (raiseStmt env (some x) none) Q E s:=by
 unfold raiseStmt;refine wpAny_bind (wpAny_mono h (λv s1 h1=>?_) λ_ _ z=>z);obtain⟨e,C,dx,vs,sl,rfl,X,he,h1,hm,ht,hE⟩:=h1;obtain⟨oC,lC,cC⟩:=Mc.mp (show(K.lookup C).map (·.cls)=some (.type "type")from ht);have gC:=X _ _ lC;have LB:=looks_mroIn (M:=M) X hm;obtain⟨hp,g,d,tk,os⟩:=s1
 repeat (first|with_reducible refine wpAny_loadPart_at he ?_|(with_reducible refine wpAny_loadPart_at gC ?_;rw[cC])|with_reducible refine LB.at ?_|with_reducible refine wpAny_field he rfl h1 ?_|wp_step)
 exact wpAny_raiseNew_none hh hE
structure DV(K:Frag)(mg:Str->Option Value)(x:Str)(C f:Addr)(bmB:List Value)(newId:String):Prop where
 m:mg x=some (.ref C)
 k:fx K C bmB newId f=true
 fn:isFn K (.ref f)=true
 kp:keepIn K (.ref C)=true
abbrev nL(C:Addr)(sp:Sp)(t:TA):TE:=λU H Q=>t U H λvs H1=>vs.length<=10/\∀a,H1 a=none->sp (.ref a :: vs) (upd H1 a (XO a C none none)) (λv H2=>v=.non/\Q (.ref a) H2) E0
section
variable {X:Cx}{k:Nat}{f C:Addr}{fd:FuncData}{ps:List Str}{sp:Sp}{x:Str}{p pos:Pos}{e:Expr}{es:List Expr}{t:TA}{B newId initId:String}{bmB:List Value}
def Hq{pins:List (Addr×Obj)}{U:St}{H:Hp}{s:Shared}{Q:VK}{us:List Value}{vs:List V}(FB:ExcBaseFacts B newId initId bmB)(M:DV X.K X.mg x C f bmB newId)(F:aN X.prog X.w X.K X.mg X.base dm k f fd ps sp)(hr:bL (k+1) X.A)(hb:Binds X.K fd ps [])
  (I:Inv X pins U H s) (r:Vals vs us) (hl:vs.length<=10) (h:∀a,H a=none->sp (.ref a :: vs) (upd H a (XO a C none none)) (λv H2=>v=.non/\Q (.ref a) H2) E0) :
  wpAny (model X.prog X.w) X.A (call (.ref C) us) (EP X pins U Q) X.xe s:=by
 obtain⟨bm,NN,nm,qn,bs,hdct,sn,sub,ab,col,dd,k0,k1,k2,k3,k5,mN,hC,hN,hni,T⟩:=DQ I.iG M.k;obtain⟨oI,lI,cI⟩:=Mc.mp (show(X.K.lookup f).map (·.cls)=some (.type "function")from beq_iff_eq.mp M.fn);obtain⟨hp,g,d,tk,os⟩:=s;refine Ho FB T hC hN hni (I.iG _ _ lI) cI (λh' a hm=>?_) (by rw[<- r.length,sizeLine_eq];lk);obtain⟨t0,ht,_,_⟩:=hm.there;have I2:=I.AY (o:=XO a C none none) hm.keeps hm.new (XO.ok ⟨_,_,ht,rfl,rfl,rfl,rfl,rfl⟩);have hq:=h a (I.hok.none_of hm.new);have r2:Vals (V.ref a :: vs) (Value.ref a :: us):=.cons rfl r;have hl2:(Value.ref a :: us).length=ps.length:=by rw[<- r2.length];exact F.len _ _ _ _ hq
 have hbd:=hb _ (Value.ref a :: us) I2.iG (by rw[Mp];exact hl2);rw[Mp]at hbd;refine wpAny_call (codeAny_mono (F.run _ X.stack _ _ ⟨Value.ref a :: us,[]⟩ (Value.ref a :: us) _ _ E0 (hr.make C us []) (I2.oN.make C us []) hbd r2 hq) λr s' hq'=>?_);cases r with
 |error e=>exact hq'.elim
 |ok fl =>
  cases fl with
  |ret u =>
   obtain⟨v,H',I3,rv,ev,q3⟩:=I2.after hq';subst ev;exact⟨rv,V.ref a,H',I3,rfl,q3⟩
  |next=>exact False.elim hq'
  |brk=>exact False.elim hq'
  |cont=>exact False.elim hq'
def Hr(FB:ExcBaseFacts B newId initId bmB)(M:DV X.K X.mg x C f bmB newId)(F:aN X.prog X.w X.K X.mg X.base dm k f fd ps sp)(hr:bL (k+1) X.A)(hg:Gl X x)(hb:Binds X.K fd ps [])
  (ha:PA X (e :: es) t) (hdb:(x == ("__debug__" : Str))=false:=by decide) (he:starEach (e :: es) X.env=(false,eval e X.env) :: starEach es X.env:=by rfl) (hpl:(backTo pos (starEach es X.env)).any (·.1)=false:=by rfl) :
  PE X (.Call (.Name x p) (e :: es) [] pos) (nL C sp t):=by
 intro pins s U H Q I h;refine wpAny_Call_Name_kw (qK I hg M.m ?_ hdb);refine callWith_K (h₀:=X.base) I.ok.mod.oF M.kp (aP (ha pos pins s U H _ I h) λus s1 ⟨vs,H1,I1,r,hl,q⟩=>⟨I1.iG,?_⟩) he hpl;exact Hq FB M F hr hb I1 r hl q
end
abbrev lE(K:Frag)(te:TE)(E:XK):TS:=λ_ U H=>te U H λv H1=>∃a C dx,v=.ref a/\H1 a=some (XO a C dx none)/\mroIn K C (.type "BaseException")=some true/\typeIn K (.ref C)=some (.type "type")/\∀H2,XS a H1 H2->E (.ref a) none H2
section
variable {P:Program}{w:World}{K:Frag}{mg:Str->Option Value}{base:Heap}{N:List Str}{qual:Str}{scope:Scope}{f:Addr}{cd:Value}{A:Around}{outer:List Env}{s0:Shared}{H0:Hp}{E:XK}
def Hs{ex:Expr}{te:TE}{pos:Pos}(he:PE (bC (gM P w) P w K mg base N qual scope f cd A outer s0 H0 E) ex te):
  PS (bC (gM P w) P w K mg base N qual scope f cd A outer s0 H0 E) (.Raise (some ex) none pos) (lE K te E):=by
 intro pins s U H D I h;rw[arm_exec_Raise]
 first
  |refine wpAny_bind (wpAny_standAt (DT (K:=K) (I.ok.hd rfl) (wpAny_bind (wpAny_mono (he pins s U H _ I h) (λv s3 h3=>wpAny_bind (wpAny_standAt (wpAny_pure ?_))) λ_ _ x=>x))))
  |(simp only[evalOpt,Option.map];refine wpAny_bind (wpAny_standAt (DT (K:=K) (I.ok.hd rfl) (wpAny_bind (wpAny_mono (he pins s U H _ I h) (λv s3 h3=>wpAny_bind (wpAny_standAt (wpAny_pure ?_))) λ_ _ x=>x)))))
 obtain⟨y,H1,I1,ry,a,C,dx,rfl,ea,hm,ht,q⟩:=h3;obtain rfl:v=Value.ref a:=ry;obtain⟨oe,vs,g1,g2,g3,g4,g5,g6⟩:=XO.of I1.hok ea;obtain⟨c0,d0,yR,Ht⟩:=oe;dsimp only at g2 g3 g4;subst g2 g3 g4;exact⟨a,C,d0,vs,Ht,rfl,I1.iG,g1,g5,hm,ht,leave I1 ⟨none,ea,λT z=>by cases z⟩ q⟩
end
abbrev DW(K:Frag)(te:TE)(f:Str):TE:=λU H Q=>te U H λx H1=>∃a C d tr fs v,x=.ref a/\H1 a=some (XO a C (some d) tr)/\H1 d=some (.xd fs)/\fs.lookup f=some v/\iO K C/\findIn K (.ref C) f=some none/\Q v H1
section
variable {X:Cx}{e:Expr}{te:TE}{f:Str}{pos:Pos}
def Hu(he:PE X e te)(hb:attributeBase e f X.env (eval e X.env)=eval e X.env):PE X (.Attribute e f pos) (DW X.K te f):=by intro pins s U H Q I h;refine Gd hb (aP (he pins s U H _ I h) λu s1 ⟨x,H1,I1,rx,a,C,d,tr,fs,v,ex,ea,ed,l,ei,n,q⟩=>?_);subst ex;obtain rfl:u=Value.ref a:=rx;obtain⟨ox,vs,hx,hc,hdx,hdt,_⟩:=XO.of I1.hok ea;obtain⟨mA,hn,rf⟩:=(show aT X.prog X.w H1 s1.heap d (.xd fs)from I1.hok d _ ed);obtain⟨w',hw,rw'⟩:=ko.some_of (v:=v) (o:=mA f) (by rw[<- l];exact rf f);obtain⟨od,ho,hl⟩:=F9 hn;have J:InstAt s1.heap a ox C (some od):=⟨hx,hc,by unfold notCls;rw[hdt],by rw[hdx];exact ho⟩;exact G5 I1.iG J ei (findObj_own ei.hd n rfl (by rw[hl,hw])) (handedOut_of (Ga rw')) ⟨v,H1,I1.tok _,rw',q⟩
end
abbrev nM(K:Frag)(f1:Str):Sp:=λvs H Q _=>∃a C tr v1,vs=[.ref a,v1]/\H a=some (XO a C none tr)/\om K C/\takerIn K C f1=some none/\∀d,H d=none->d≠a->Q .non (upd (upd H a (XO a C (some d) tr)) d (.xd [(f1,v1)]))
def Hv{K:Frag}{f1:Str}{vs:List V}{H:Hp}{Q:VK}{E:XK}(h:nM K f1 vs H Q E):vs.length=2:=by obtain⟨_,_,_,_,rfl,_⟩:=h;rfl
def Hw{K:Frag}{f1 p0 p1:Str}{vs:List V}{H:Hp}{Q:VK}{E:XK}(h:nM K f1 vs H Q E):
  DO K (mT 0) (mT 1) f1 { nx:=λ_ H'=>Q .non H',rt:=Q } (start [p0,p1] vs) H:=by
 obtain⟨a,C,tr,v1,rfl,ea,es,t1,q⟩:=h;exact⟨v1,rfl,.ref a,rfl,a,C,tr,rfl,es,t1,.inl ⟨ea,λd hd da=>q d hd da⟩⟩
def Hx{K:Frag}{x qual:Str}{st:Stmt}{ps:List Str}{f:Addr}{oc:Value}{od an:Option Addr}{osl:Array (Option Value)}{kV doc pm cdv ct:Value}
  (hb:∀(kV doc pm:Value) (an:Option Addr) (cdv ct:Value) (us:List Value),us.length=ps.length->bindArgs (fnOf x qual (du st) (bU st) (aq st) .none kV doc pm an cdv ct) ⟨us,[]⟩=pure (ps.zip us))
  (l:K.lookup f=some ⟨oc,od,.func (fnOf x qual (du st) (bU st) (aq st) .none kV doc pm an cdv ct),osl⟩) (c:codeIn K cdv qual=true) (k:keepIn K (.ref f)=true):∃fd,mE K x qual st f fd/\Binds K fd ps [] :=
 ⟨_,Dj l c k,.all (hb kV doc pm an cdv ct)⟩
structure rM(L:Addr)(fs:List Addr)(e:Addr)(oe:Obj)(vs:Array Value)(T:Addr)(h h':Heap):Prop where
 exc:∃o ws,h'.get? e=some o/\o.cls=oe.cls/\o.dict=oe.dict/\o.data=.fields ws/\ws.size=vs.size/\ws[1]?=some (.ref T)/\ws[2]?=vs[2]?
 new:h.objs.size<=T
 head:∃o ts,h'.get? T=some o/\o.data=.fields ts/\ts[3]?=some (rawInt L)
 keep:∀b o,h.get? b=some o->b≠e->vs[1]?≠some (.ref b)->b ∉ fs->h'.get? b=some o
 slot:∀b o,h.get? b=some o->b≠e->vs[1]?≠some (.ref b)->∃sl,h'.get? b=some { o with slots:=sl }
 old:∀b,b≠e->vs[1]?=some (.ref b)->∃o ts,h'.get? b=some o/\o.data=.fields ts/\ts[3]?=some .none
section
variable {M:Model}{A:Around}{E:Value->Shared->Prop}{s:Shared}
def DX{base:Heap}{env:Env}{outer:List Env}{L e:Addr}{oe:Obj}{vs:Array Value}{hd0:Value}{hn:Bool}{Q:Unit->Shared->Prop}(hfr:A.frames=some (env :: outer))(hl:s.heap.FunFrames base (env :: outer))
  (hf:env.frame=some L) (he:s.heap.get? e=some oe) (hd:oe.data=.fields vs) (hs:1<vs.size)
  (h:∀h' T,(∃o ws,h'.get? e=some o/\o.cls=oe.cls/\o.dict=oe.dict/\o.data=.fields ws/\ws.size=vs.size/\ws[1]?=some (.ref T)/\ws[2]?=vs[2]?)->s.heap.objs.size<=T->(∃o ts,h'.get? T=some o/\o.data=.fields ts/\ts[3]?=some (rawInt L)) ->
   (∀b o,s.heap.get? b=some o->b≠e->b ∉ frs (env :: outer)->h'.get? b=some o)->(∀b o,s.heap.get? b=some o->b≠e->∃sl,h'.get? b=some { o with slots:=sl })->Q () { s with heap:=h' }) :
  wpAny M A (do let a <- frameOf env;let pl <- entryPlaceOf L hn;let b <- EntryCells.newEntry hd0 a .none (rawInt L) .none pl;setField (.ref e) 1 b) Q E s:=by
 have ne:e ∉ frs (env :: outer):=λz=>by
  obtain⟨_,o,q,nf⟩:=hl.mem z;rw[he]at q;cases q;exact nf vs hd
 refine wpAny_bind (wpAny_frameOf_fun hfr hl hf λh1 so=>wpAny_bind (wpAny_entryPlaceOf λpl ip=>?_));obtain⟨AU,vU,AV⟩:=so;have e1:h1.get? e=some oe:=by rw[vU e ne];exact he
 unfold EntryCells.newEntry newFields;refine wpAny_bind (wpAny_newObj_type ?_ (ip.sizeOk5 _ _ _ _ _));generalize htd:([hd0,Value.ref L,Value.none,rawInt L,Value.none] ++ (if pl.isEmpty then List.replicate 6 Value.none else pl)).toArray=td;have t3:3<td.size:=by
  rw[<- htd];simp only[LU,LP,LZ,M5];lk
 generalize hob:({ cls:=.type "traceback",dict:=none,data:=.fields td }:Obj)=ob;have yQ:ob.data=.fields td:=by rw[<- hob]
 have AW:ob.isFreed=false:=by rw[<- hob];rfl
 have e2:=LA ob e1;have nT:h1.objs.size≠e:=MH (LD e1);have d3:=Obj.data_mapFields hd (·.setIfInBounds 1 (Value.ref h1.objs.size));have e3:=Ma (Obj.mapFields (·.setIfInBounds 1 (Value.ref h1.objs.size))) e2 (Obj.isFreed_of_fields d3);have T3:((h1.push ob).update e (Obj.mapFields (·.setIfInBounds 1 (Value.ref h1.objs.size)))).get? h1.objs.size=some ob:=by
  rw[LY _ _ (Ne.symm nT)];exact LJ h1 AW
 have Hy:td[3]?=some (rawInt L):=by rw[<- htd];rfl
 refine wpAny_setField e2 hd hs (h _ h1.objs.size ⟨_,_,e3,Obj.cls_mapFields _ _,?_,d3,by simp,by simp[hs],by simp⟩ ?_ ⟨_,_,T3,yQ,Hy⟩ (λb o q n1 n2=>?_) λb o q n1=>?_);obtain⟨c0,d0,yR,s0⟩:=oe;cases yR<;>first|rfl|cases hd
 rw[AU];exact LI _;have q1:h1.get? b=some o:=by rw[vU b n2];exact q
 rw[LY _ _ (Ne.symm n1)];exact LA _ q1;obtain⟨sl,q1⟩:=AV b o q;refine⟨sl,?_⟩;rw[LY _ _ (Ne.symm n1)];exact LA _ q1
def kF{base:Heap}{env:Env}{outer:List Env}{L e:Addr}{oe:Obj}{vs:Array Value}{Q:Unit->Shared->Prop}(hfr:A.frames=some (env :: outer))(hl:s.heap.FunFrames base (env :: outer))(hf:env.frame=some L)
  (he:s.heap.get? e=some oe) (hd:oe.data=.fields vs) (ht:vs[1]?=some .none\/∃T oT ts,vs[1]?=some (.ref T)/\T≠e/\s.heap.get? T=some oT/\oT.data=.fields ts/\ts[3]?=some .none)
  (h:∀h' T,rM L (frs (env :: outer)) e oe vs T s.heap h'->Q () { s with heap:=h' }):wpAny M A (noteFrame (.ref e) env) Q E s:=by
 unfold noteFrame;simp only[hf];rcases ht with h1|⟨T0,oT,ts,h1,nT,hT,dT,h3⟩
 refine wpAny_bind (wpAny_field he hd h1 ?_);rw[if_neg ∅];refine DX hfr hl hf he hd (LS.mp h1).1 λh' T a1 a2 a3 a4 a5=>h h' T ⟨a1,a2,a3,λb o q n1 _ n3=>a4 b o q n1 n3,λb o q n1 _=>a5 b o q n1,λb _ z=>by rw[h1]at z;cases z⟩;refine wpAny_bind (wpAny_field he hd h1 ?_);rw[if_pos (by simp)];refine wpAny_bind (wpAny_field hT dT h3 ?_);rw[if_neg (by simp[rawInt])];refine wpAny_bind (wpAny_setField hT dT (LS.mp h3).1 ?_);have d2:=Obj.data_mapFields dT (·.setIfInBounds 3 Value.none);have T2:=Ma (Obj.mapFields (·.setIfInBounds 3 Value.none)) hT (Obj.isFreed_of_fields d2);have gU:∀b,b≠T0->(s.heap.update T0 (Obj.mapFields (·.setIfInBounds 3 Value.none))).get? b=s.heap.get? b:=λb n=>LY _ _ (Ne.symm n);have rec':∀b o,s.heap.get? b=some o->(∀ws,o.data≠.fields ws)->b≠T0:=λb o q n z=>by rw[z,hT]at q;cases q;exact n ts dT
 have vV:(ts.setIfInBounds 3 Value.none)[3]?=some .none:=by simp[(LS.mp h3).1]
 have vW:T0 ∉ frs (env :: outer):=λz=>by
  obtain⟨_,o,q,nf⟩:=hl.mem z;rw[hT]at q;cases q;exact nf ts dT
 refine DX hfr (hl.of_keeps λb o q n=>⟨o,by rw[gU b (rec' b o q n)];exact q,rfl⟩) hf (by rw[gU e (Ne.symm nT)];exact he) hd (LS.mp h1).1 λh' T a1 a2 a3 a4 a5=>h h' T ⟨a1,?_,a3,λb o q n1 n2 n3=>?_,λb o q n1 n2=>?_,λb n1 z=>?_⟩;have z:=a2;dsimp only at z;rw[MW]at z;exact z;have nb:b≠T0:=λz=>n2 (by rw[z];exact h1);exact a4 b o (by dsimp only;rw[gU b nb];exact q) n1 n3;have nb:b≠T0:=λz=>n2 (by rw[z];exact h1);exact a5 b o (by dsimp only;rw[gU b nb];exact q) n1;rw[h1]at z;cases z;exact⟨_,_,a4 T0 _ T2 n1 vW,d2,vV⟩
def kG{v:Value}{base:Heap}{env:Env}{outer:List Env}{L e:Addr}{oe:Obj}{vs:Array Value}{Q:Unit->Shared->Prop}(hfr:A.frames=some (env :: outer))(hl:s.heap.FunFrames base (env :: outer))(hf:env.frame=some L)
  (he:s.heap.get? e=some oe) (hd:oe.data=.fields vs) {T0:Addr} {oT:Obj} {ts:Array Value} (h1:vs[1]?=some (.ref T0)) (nT:T0≠e) (hT:s.heap.get? T0=some oT) (dT:oT.data=.fields ts) (h3:ts[3]?=some v) (hv:(v == rawInt L)=false)
  (h:∀h' T,pX (frs (env :: outer)) e oe vs T s.heap h'->Q () { s with heap:=h' }):wpAny M A (noteFrame (.ref e) env) (λ_ s'=>wpAny M A (setFlight (.ref e) none) Q E s') E s:=by
 unfold noteFrame;simp only[hf];refine wpAny_bind (wpAny_field he hd h1 ?_);rw[if_pos (by simp)];refine wpAny_bind (wpAny_field hT dT h3 ?_);rw[if_neg (by rw[hv];decide)];refine wpAny_bind (wpAny_setField hT dT (LS.mp h3).1 ?_);have d2:=Obj.data_mapFields dT (·.setIfInBounds 3 Value.none);have T2:=Ma (Obj.mapFields (·.setIfInBounds 3 Value.none)) hT (Obj.isFreed_of_fields d2);have gU:∀b,b≠T0->(s.heap.update T0 (Obj.mapFields (·.setIfInBounds 3 Value.none))).get? b=s.heap.get? b:=λb n=>LY _ _ (Ne.symm n);have rec':∀b o,s.heap.get? b=some o->(∀ws,o.data≠.fields ws)->b≠T0:=λb o q n z=>by rw[z,hT]at q;cases q;exact n ts dT
 have vV:(ts.setIfInBounds 3 Value.none)[3]?=some .none:=by simp[(LS.mp h3).1]
 have vW:T0 ∉ frs (env :: outer):=λz=>by
  obtain⟨_,o,q,nf⟩:=hl.mem z;rw[hT]at q;cases q;exact nf ts dT
 refine AR hfr (hl.of_keeps λb o q n=>⟨o,by rw[gU b (rec' b o q n)];exact q,rfl⟩) hf (by rw[gU e (Ne.symm nT)];exact he) hd (LS.mp h1).1 λh' T a1 a2 a3 a4 a5=>h h' T ⟨a1,?_,a3,λb o q n1 n2 n3=>?_,λb o q n1 n2=>?_,λb n1 z=>?_⟩;have z:=a2;dsimp only at z;rw[MW]at z;exact z;have nb:b≠T0:=λz=>n2 (by rw[z];exact h1);exact a4 b o (by dsimp only;rw[gU b nb];exact q) n1 n3;have nb:b≠T0:=λz=>n2 (by rw[z];exact h1);exact a5 b o (by dsimp only;rw[gU b nb];exact q) n1;rw[h1]at z;cases z;exact⟨_,_,a4 T0 _ T2 n1 vW,d2,vV⟩
end
abbrev hU(T:Addr)(v:Value):HO:=.ext λh=>∃o ts,h.get? T=some o/\o.data=.fields ts/\ts[3]?=some v
abbrev A5(H:Hp)(a C:Addr)(dx:Option Addr)(L T:Addr):Prop:=H a=some (XO a C dx (some T))/\T≠a/\H T=some (hU T (rawInt L))
section
variable {P:Program}{w:World}{H:Hp}{h:Heap}{T:Addr}{v:Value}
def hU.ok(e:∃o ts,h.get? T=some o/\o.data=.fields ts/\ts[3]?=some v):aT P w H h T (hU T v) :=
 ⟨e,let ⟨o,_,q,_⟩:=e;⟨o,q⟩,λh1 h2 ⟨o,vs,q,r⟩ k=>⟨o,vs,k o q,r⟩⟩
def hU.of(ok:ey P w H h)(e:H T=some (hU T v)):∃o ts,h.get? T=some o/\o.data=.fields ts/\ts[3]?=some v:=(ok T _ e).1
end
section
variable {X:Cx}{pins:List (Addr×Obj)}{U:St}{H:Hp}{s:Shared}{a C:Addr}{dx:Option Addr}
def Inv.kF{env:Env}{outer:List Env}{L:Addr}{A:Around}{E:Value->Shared->Prop}{Q:Unit->Shared->Prop}(I:Inv X pins U H s)(hst:X.stack=env :: outer)(hf:env.frame=some L)(hA:A.frames=some X.stack)(x:Exc H a C dx)
  (h:∀h' H' T,H T=none->(∀b o,s.heap.get? b=some o->H b=none->b ∉ frs X.stack->h'.get? b=some o/\H' b=none)->XS a H H'->A5 H' a C dx L T->Inv X pins U H' { s with heap:=h' }->Q () { s with heap:=h' }) :
  wpAny (model X.prog X.w) A (noteFrame (.ref a) env) Q E s:=by
 obtain⟨tr,ea,et⟩:=x;obtain⟨oe,vs,he,hc,hdx,hd,h1,h2⟩:=XO.of I.hok ea;have jl:∀b,H b=none->vs[1]?≠some (.ref b):=λb nb z=>by
  rw[h1]at z;cases tr with
  |none=>cases z
  |some T=>cases z;rw[(et _ rfl).2]at nb;cases nb
 have fw:∀b,H b=none->b≠a:=λb nb z=>by rw[z,ea]at nb;cases nb
 refine L2.kF (by rw[hA,hst]) (hst ▸ I.stack) hf he hd ?_ λh' T N=>?_;cases tr with
 |none=>exact .inl h1
 |some T=>obtain⟨oT,ts,q1,q2,q3⟩:=XT.of I.hok (et T rfl).2;exact .inr ⟨T,oT,ts,h1,(et T rfl).1,q1,q2,q3⟩
 have HT:H T=none:=I.hok.fresh N.new;have Ta:T≠a:=fw T HT;have gT:∀b o,s.heap.get? b=some o->b≠T:=λb o q=>L7 (LR (LD q) N.new)
 let H':Hp:=upd (upd H a (XO a C dx (some T))) T (hU T (rawInt L))
 have Hb:∀b,b≠a->∀o,H b=some o->H' b=some o:=λb n o q=>by
  show upd (upd H a _) T _ b=_;rw[bg (λz=>by rw[z,HT]at q;cases q),bg n];exact q
 have Ha:H' a=some (XO a C dx (some T)):=by
  show upd (upd H a _) T _ a=_;rw[bg (Ne.symm Ta),gw]
 have pY:H' T=some (hU T (rawInt L)):=gw;have Hn:∀b o,s.heap.get? b=some o->H b=none->H' b=none:=λb o q n=>by
  show upd (upd H a _) T _ b=_;rw[bg (gT b o q),bg (fw b n)];exact n
 have xs:XS a H H':=⟨⟨C,dx,tr,some T,ea,Ha⟩,Hb⟩;have gL:∀b u,H b=some u->(∀Y,u≠.ext Y)->b≠a:=λb u q n z=>by rw[z,ea]at q;cases q;exact n _ rfl
 have un:Un (frs X.stack) [] H H' s.heap h':=by
  rw[hst]
  refine⟨λb o q n1 n2 _=>N.keep b o q (fw b n1) (jl b n1) n2,λb o q n1 _ _=>N.slot b o q (fw b n1) (jl b n1),λb o q n _=>Hn b o q n,λb o q _=>?_,
   λb xs q=>Hb b (gL b _ q λY z=>nomatch z) _ q,λb o u q=>Hb b (gL b _ q λY z=>nomatch z) _ q,λb ps q=>⟨#[],by rw[Mv];exact Hb b (gL b _ q λY z=>nomatch z) _ q⟩⟩
  by_cases n1:b=a;subst n1;obtain⟨o',_,q',_⟩:=N.exc;exact⟨o',q'⟩;by_cases n2:vs[1]?=some (.ref b);obtain⟨o',_,q',_⟩:=N.old b n1 n2;exact⟨o',q'⟩;obtain⟨sl,q'⟩:=N.slot b o q n1 n2;exact⟨_,q'⟩
 have hok:ey X.prog X.w H' h':=λb u q=>by
  by_cases n0:b=T;subst n0;rw[pY]at q;cases q;exact hU.ok N.head;by_cases n1:b=a;subst n1;rw[Ha]at q;cases q;obtain⟨o',ws,p1,p2,p3,p4,p5,p6,p7⟩:=N.exc;exact XO.ok ⟨o',ws,p1,by rw[p2];exact hc,by rw[p3];exact hdx,p4,p6,by rw[p7];exact h2⟩;have qb:H b=some u:=by
   have z:upd (upd H a (XO a C dx (some T))) T (hU T (rawInt L)) b=some u:=q;rw[bg n0,bg n1]at z;exact z
  by_cases n2:vs[1]?=some (.ref b);rw[h1]at n2;cases tr with
  |none=>cases n2
  |some T0 =>
   cases n2;rw[(et b rfl).2]at qb;cases qb;exact XT.ok (N.old b n1 h1)
  have oj:∀c v,H c=some v->c ∉ frs X.stack:=λc v z y=>by rw[I.dn c y]at z;cases z
  refine(I.hok b u qb).stay (λc v hc' r=>?_) (λc r=>Hb c (gL c _ r λY z=>nomatch z) _ r) λc xs r=>Hb c (gL c _ r λY z=>nomatch z) _ r;rcases hc' with rfl|hc'
  exact N.keep c v r n1 n2 (hst ▸ oj c u qb);refine N.keep c v r (gL c _ hc' λY z=>nomatch z) (λz=>?_) (hst ▸ oj c _ hc');rw[h1]at z;cases tr with
  |none=>cases z
  |some T0=>cases z;rw[(et c rfl).2]at hc';cases hc'
 exact h h' H' T HT (λb o q n1 n2=>⟨N.keep b o q (fw b n1) (jl b n1) (hst ▸ n2),Hn b o q n1⟩) xs ⟨Ha,Ta,pY⟩ (I.call (ch:=[]) un hok I.bare λb z=>absurd z (by simp))
def Inv.kG{T0:Addr}{v:Value}{A:Around}{E:Value->Shared->Prop}{Q:Unit->Shared->Prop}(I:Inv X pins U H s)(hst:X.stack=X.env :: X.outer)(hf:X.env.frame=some X.env.locals)(hA:A.frames=some X.stack)(ea:H a=some (XO a C dx (some T0)))(DY:T0≠a)(yT:H T0=some (hU T0 v))(hv:(v == rawInt X.env.locals)=false)
  (h:∀h' H',(∃nH,H' a=some (XO a C dx nH))->(∀b,b≠a->b≠T0->∀o,H b=some o->H' b=some o)->Exc H' a C dx->Inv X pins U H' { s with heap:=h' }->Q () { s with heap:=h' }) :
  wpAny (model X.prog X.w) A (noteFrame (.ref a) X.env) (λ_ s'=>wpAny (model X.prog X.w) A (setFlight (.ref a) none) Q E s') E s:=by
 obtain⟨oe,vs,he,hc,hdx,hd,h1,h2⟩:=XO.of I.hok ea;obtain⟨oT,ts,q1,q2,q3⟩:=hU.of I.hok yT;have h1:vs[1]?=some (.ref T0):=h1;have jl:∀b,H b=none->vs[1]?≠some (.ref b):=λb nb z=>by rw[h1]at z;cases z;rw[yT]at nb;cases nb
 have fw:∀b,H b=none->b≠a:=λb nb z=>by rw[z,ea]at nb;cases nb
 refine L2.kG (by rw[hA,hst]) (hst ▸ I.stack) hf he hd h1 DY q1 q2 q3 hv λh' T N=>?_;have HT:H T=none:=I.hok.fresh N.new;have Ta:T≠a:=fw T HT;have gT:∀b o,s.heap.get? b=some o->b≠T:=λb o q=>L7 (LR (LD q) N.new);have Hz:T0≠T:=gT T0 oT q1
 let H':Hp:=upd (upd (upd H T0 (XT T0)) a (XO a C dx (some T))) T (XT T)
 have Hb:∀b,b≠a->b≠T0->∀o,H b=some o->H' b=some o:=λb n n0 o q=>by
  show upd (upd (upd H T0 _) a _) T _ b=_;rw[bg (λz=>by rw[z,HT]at q;cases q),bg n,bg n0];exact q
 have Ha:H' a=some (XO a C dx (some T)):=by
  show upd (upd (upd H T0 _) a _) T _ a=_;rw[bg (Ne.symm Ta),gw]
 have pY:H' T=some (XT T):=gw;have H0:H' T0=some (XT T0):=by
  show upd (upd (upd H T0 _) a _) T _ T0=_;rw[bg Hz,bg DY,gw]
 have Hn:∀b o,s.heap.get? b=some o->H b=none->H' b=none:=λb o q n=>by
  show upd (upd (upd H T0 _) a _) T _ b=_;rw[bg (gT b o q),bg (fw b n),bg (λz=>by rw[z,yT]at n;cases n)];exact n
 have gL:∀b u,H b=some u->(∀Y,u≠.ext Y)->b≠a/\b≠T0:=λb u q n=>⟨λz=>by rw[z,ea]at q;cases q;exact n _ rfl,λz=>by rw[z,yT]at q;cases q;exact n _ rfl⟩;have kb:∀b u,H b=some u->(∀Y,u≠.ext Y)->H' b=some u:=λb u q n=>Hb b (gL b u q n).1 (gL b u q n).2 u q;have un:Un (frs X.stack) [] H H' s.heap h':=by
  rw[hst]
  refine⟨λb o q n1 n2 _=>N.keep b o q (fw b n1) (jl b n1) n2,λb o q n1 _ _=>N.slot b o q (fw b n1) (jl b n1),λb o q n _=>Hn b o q n,λb o q _=>?_,
   λb xs q=>kb b _ q (λY z=>nomatch z),λb o u q=>kb b _ q (λY z=>nomatch z),λb ps q=>⟨#[],by rw[Mv];exact kb b _ q (λY z=>nomatch z)⟩⟩
  by_cases n1:b=a;subst n1;obtain⟨o',_,q',_⟩:=N.exc;exact⟨o',q'⟩;by_cases n2:vs[1]?=some (.ref b);obtain⟨o',_,q',_⟩:=N.old b n1 n2;exact⟨o',q'⟩;obtain⟨sl,q'⟩:=N.slot b o q n1 n2;exact⟨_,q'⟩
 have hok:ey X.prog X.w H' h':=λb u q=>by
  by_cases n0:b=T;subst n0;rw[pY]at q;cases q;exact XT.ok N.head;by_cases n1:b=a;subst n1;rw[Ha]at q;cases q;obtain⟨o',ws,p1,p2,p3,p4,p5,p6,p7⟩:=N.exc;exact XO.ok ⟨o',ws,p1,by rw[p2];exact hc,by rw[p3];exact hdx,p4,p6,by rw[p7];exact h2⟩;by_cases n2:b=T0;subst n2;rw[H0]at q;cases q;exact XT.ok (N.old b n1 h1);have qb:H b=some u:=by
   have z:upd (upd (upd H T0 (XT T0)) a (XO a C dx (some T))) T (XT T) b=some u:=q;rw[bg n0,bg n1,bg n2]at z;exact z
  have oj:∀c v,H c=some v->c ∉ frs X.stack:=λc v z y=>by rw[I.dn c y]at z;cases z
  have nh:∀c,c≠T0->vs[1]?≠some (.ref c):=λc n z=>by rw[h1]at z;cases z;exact n rfl
  refine(I.hok b u qb).stay (λc v hc' r=>?_) (λc r=>kb c _ r (λY z=>nomatch z)) λc xs r=>kb c _ r (λY z=>nomatch z);rcases hc' with rfl|hc'
  exact N.keep c v r n1 (nh c n2) (hst ▸ oj c u qb);exact N.keep c v r (gL c _ hc' (λY z=>nomatch z)).1 (nh c (gL c _ hc' (λY z=>nomatch z)).2) (hst ▸ oj c _ hc')
 exact h h' H' ⟨_,Ha⟩ Hb ⟨some T,Ha,λT' e=>by cases e;exact⟨Ta,pY⟩⟩ (I.call (ch:=[]) un hok I.bare λb z=>absurd z (by simp))
def Inv.wb{T:Addr}{v v':Value}(I:Inv X pins U H s)(eT:H T=some (hU T v)):Inv X pins U (upd H T (hU T v')) { s with heap:=s.heap.update T (Obj.mapFields (·.setIfInBounds 3 v')) }:=by
 obtain⟨oT,ts,q1,q2,q3⟩:=hU.of I.hok eT;have lt:3<ts.size:=(LS.mp q3).1;have d2:=Obj.data_mapFields q2 (·.setIfInBounds 3 v');have T2:=Ma (Obj.mapFields (·.setIfInBounds 3 v')) q1 (Obj.isFreed_of_fields d2);have gU:∀b u,b≠T->s.heap.get? b=some u->(s.heap.update T (Obj.mapFields (·.setIfInBounds 3 v'))).get? b=some u:=λb u n q=>by rw[LY _ _ (Ne.symm n)];exact q
 have nT:∀b,H b=none->b≠T:=λb n z=>by rw[z,eT]at n;cases n
 have up:∀b u,H b=some u->(∀Y,u≠.ext Y)->upd H T (hU T v') b=some u:=λb u q n=>by
  rw[bg (λz=>by rw[z,eT]at q;cases q;exact n _ rfl)];exact q
 refine I.call (ch:=[]) ⟨λb u q n _ _=>gU b u (nT b n) q,λb u q n _ _=>⟨u.slots,gU b u (nT b n) q⟩,λb u q n _=>by rw[bg (nT b n)];exact n,λb u q _=>?_,λb xs q=>up b _ q (λY z=>nomatch z),λb x y q=>up b _ q (λY z=>nomatch z),λb ps q=>⟨#[],by rw[Mv];exact up b _ q (λY z=>nomatch z)⟩⟩ ?_ I.bare λb z=>absurd z (by simp);by_cases z:b=T;subst z;exact⟨_,T2⟩;exact⟨u,gU b u z q⟩;intro b u q;by_cases z:b=T;subst z;rw[gw]at q;cases q;exact hU.ok ⟨_,_,T2,d2,by simp[lt]⟩;rw[bg z]at q;refine(I.hok b u q).stay (λc v hc' r=>gU c v ?_ r) (λc r=>up c _ r (λY z=>nomatch z)) λc xs r=>up c _ r (λY z=>nomatch z);rcases hc' with rfl|hc'
 exact z;rintro rfl;rw[eT]at hc';cases hc'
end
section
variable {P:Program}{w:World}{K:Zfr}{mg:Str->Option Value}{base:Heap}{N:List Str}{qual:Str}{scope:Scope}{f:Addr}{cd:Value}{A:Around}{outer:List Env}{s0:Shared}{H0:Hp}{E:XK}
def rN{J:Type}{M:Model}{A':Around}{Q:J->Shared->Prop}{pins:List (Addr×Obj)}{U:St}{H Hc:Hp}{s:Shared}{a C L T:Addr}{dx:Option Addr}{what:String}{cenv:Env}(I:Inv (bC (gM P w) P w K mg base N qual scope f cd A outer s0 H0 E) pins U H s)(x:A5 H a C dx L T)(xs:XS a Hc H)(hT:Hc T=none)
  (h:∀i6,XS a Hc i6->E (.ref a) none i6) :
  wpAny M A' (PySem.passOn what (.ref a) cenv:Sem J) Q (bC (gM P w) P w K mg base N qual scope f cd A outer s0 H0 E).xe s:=by
 obtain⟨ea,Ta,eT⟩:=x;obtain⟨oe,vs,he,hcl,hdx,hd,h1,h2⟩:=XO.of I.hok ea;obtain⟨oT,ts,q1,q2,q3⟩:=hU.of I.hok eT;have lt:3<ts.size:=(LS.mp q3).1;obtain⟨⟨C1,Lq,AX,DF,c1,c2⟩,kk⟩:=xs;rw[ea]at c2;obtain⟨rfl,rfl⟩:=XO.inj (LH c2);unfold PySem.passOn;refine wpAny_bind (wpAny_field he hd h1 ?_);rw[if_neg (by simp[oi])];unfold setFlight;refine wpAny_bind (wpAny_bind (wpAny_field he hd h1 ?_));rw[if_pos (by simp[oi])];refine wpAny_setField q1 q2 lt ?_;generalize (cenv.frame.elim Value.none λf=>rawInt f)=v;have I1:=I.wb (v':=v) eT;have DZ:upd H T (hU T v) a=some (XO a C dx (some T)):=by rw[bg (Ne.symm Ta)];exact ea
 have A6:upd H T (hU T v) T=some (hU T v):=gw;have k1:∀b,b≠a->∀o,Hc b=some o->b≠T/\upd H T (hU T v) b=some o:=λb n o q=>by
  have nT:b≠T:=λz=>by rw[z,hT]at q;cases q
  exact⟨nT,by rw[bg nT];exact kk b n o q⟩
 refine wpAny_throw ?_;show wpAny _ _ («leaving» _ (.ref a)) _ _ _;cases hv:(v == rawInt s0.heap.objs.size)with
 |false =>
  unfold «leaving»;refine wpAny_bind (Inv.kG I1 rfl rfl I1.ok.frames DZ Ta A6 hv λh' H' e' kb x' I'=>?_);obtain⟨nH,e'⟩:=e';exact⟨a,C,dx,H',rfl,I'.os,I'.bare,I'.base,I'.hok,x',λi6 y=>h i6 (XS.trans ⟨⟨C,dx,AX,nH,c1,e'⟩,λb n o q=>kb b n (k1 b n o q).1 o (k1 b n o q).2⟩ y)⟩
 |true =>
  have I2:=I1.wb (v':=.none) A6;rw[CF]at I2;obtain⟨Lr,Ls,D0,c5,HA,hd1,h11,h12⟩:=XO.of I1.hok DZ;obtain⟨Lu,HB,D3,D4,D5⟩:=hU.of I1.hok A6;have HC:3<HB.size:=(LS.mp D5).1;unfold «leaving» noteFrame;refine wpAny_bind (wpAny_bind (wpAny_field D0 hd1 h11 ?_));rw[if_pos (by simp[oi])];refine wpAny_bind (wpAny_field D3 D4 D5 ?_);rw[if_pos (by exact hv)];refine wpAny_pure ?_;refine wpAny_setFlight_none D0 hd1 h11 D3 D4 HC ?_;have D6:upd H T (hU T .none) a=some (XO a C dx (some T)):=by rw[bg (Ne.symm Ta)];exact ea
  refine⟨a,C,dx,_,rfl,I2.os,I2.bare,I2.base,I2.hok,⟨some T,D6,λT' e=>by cases e;exact⟨Ta,gw⟩⟩,λi6 y=>h i6 (XS.trans ⟨⟨C,dx,AX,some T,c1,D6⟩,λb n o q=>?_⟩ y)⟩;rw[bg (k1 b n o q).1];exact kk b n o q
end
def HD{prog:Program}{w:World}{A:Around}{R:Result->Shared->Prop}{s:Shared}{elt target iter:Expr}{ifs:List Expr}{scope:Scope}{pos:Pos}{it acc:Value}{env:Env}(I:Nat->Shared->Prop)
  (turn:∀n s,I n s->wpAny (model prog w) A (pyNext it) (λr s₁=>match r with
   |none=>R (.ok .next) s₁
   | some v=>wpAny (model prog w) A (letOwnedTupleGo target it v) (λ_ s₁'=>wpAny (model prog w) A (assign target env v) (λ_ s₂ =>
     wpAny (model prog w) A (forIn ifs true λc r=>if r=true then do let ok <- isTrue c env (eval c env);pure (ForInStep.yield ok)else pure (ForInStep.yield r)) (λok s₃ =>
      if ok=true then wpAny (model prog w) A (eval elt env) (λx s₄ =>
       wpAny (model prog w) A (call (.builtin "list.append") [acc,x]) (λ_ s₅=>∃m,m<n/\I m s₅) (λ_ _=>False) s₄) (notedBy (model prog w) A env λx s'=>R (.error x) s') s₃
      else∃m,m<n/\I m s₃) (λ_ _=>False) s₂) (λ_ _=>False) s₁') (λ_ _=>False) s₁) (λ_ _=>False) s)
  (n:Nat) (h:I n s) :
  codeAny (model prog w) A (.compLoop (.ListComp elt [⟨target,iter,ifs,0⟩] scope pos) 0 it acc env) R s:=by
 refine codeAny_loop rfl I (λn s hI=>?_) n h;show wpAny _ A ((compTurn (.ListComp elt [⟨target,iter,ifs,0⟩] scope pos) 0 it acc env).onRaise (λx=>do noteFrame x env;theTreesLotGoes x)) _ _ s;refine wpAny_noted ?_;rw[compTurn_list];refine wpAny_bind (wpAny_standAt (wpAny_bind (wpAny_mono (turn n s hI) (λr s₁ h₁=>?_) λ_ _ h'=>h'.elim)));cases r with
 |none=>exact wpAny_pure h₁
 |some v =>
  refine wpAny_bind (wpAny_mono h₁ (λ_ s₁' h₁'=>?_) λ_ _ h'=>h'.elim);refine wpAny_bind (wpAny_mono h₁' (λ_ s₂ h₂=>wpAny_bind (wpAny_mono h₂ (λok s₃ h₃=>?_) λ_ _ h'=>h'.elim)) λ_ _ h'=>h'.elim);cases ok with
  |false=>exact wpAny_pure ⟨rfl,h₃⟩
  |true =>
   exact wpAny_bind (wpAny_bind (wpAny_mono h₃ (λx s₄ h₄=>wpAny_bind (wpAny_mono h₄ (λ_ s₅ h₅=>wpAny_pure (wpAny_pure ⟨rfl,h₅⟩)) λ_ _ h'=>h'.elim)) λ_ _ h'=>h'))
abbrev jn(X:Cx)(E:XK)(N:List Str)(scope:Scope)(cells:List (Str×Addr))(C:Addr)(fp:List Addr)(s:Shared)(H:Hp):Cx:=(ai X N scope cells C fp s H).wish λe s'=>∃a Cc dx H',e=.ref a/\s'.os=s.os/\AllBare s'.gens/\Un (frs X.stack) fp H H' s.heap s'.heap/\ey X.prog X.w H' s'.heap/\H' C=none/\(∃m,s'.heap.Ns C m)/\Exc H' a Cc dx/\∀i6,XS a H' i6->E (.ref a) none i6
def HE{X:Cx}{E:XK}{N:List Str}{scope:Scope}{cells:List (Str×Addr)}{C:Addr}{fp:List Addr}{s0:Shared}{H0:Hp}:Passes (gM X.prog X.w) (jn X E N scope cells C fp s0 H0) E:=by rintro pins U H s e s' I ⟨a,Cc,dx,H',rfl,os,bare,un,hok,x,h⟩;have I':=I.iS os un hok bare λb z=>absurd z (by simp);obtain⟨m,hm,_⟩:=I'.loc;exact⟨a,Cc,dx,H',rfl,I'.os,I'.bare,I'.base,I'.hok,I'.free,⟨m,hm⟩,x,h⟩
section
variable {X:Cx}{pins:List (Addr×Obj)}{U:St}{tg iter elt:Expr}{ifs:List Expr}{scope:Scope}{pos:Pos}{own fr:List Str}{js:List Nat}{g:TG}{tc:TT}{te:TE}{wi:TI}
def HF{E0:XK}{H2:Hp}{s2:Shared}{it:Addr}{fp:List Addr}{tn:Nat->Heap->Prop}{J:It}{Q:VK}{E:Value->Shared->Prop}{cl:List (Str×Addr)}{RR:Value->Addr->Result->Shared->Prop}
  (hc:X.calm=true) (S:bH X scope own fr js) (hg:∀cells C fp s H,PG (ai X (own ++ fr) scope cells C fp s H) tg g) (hf:∀cells C fp s H,PF (ai X (own ++ fr) scope cells C fp s H) ifs tc) (he:∀cells C fp s H,PE (jn X E0 (own ++ fr) scope cells C fp s H) elt te)
  (I2:Inv X pins U H2 s2) (T:Turn X.prog X.w X.K tg J fp it tn) (st2:tn 0 s2.heap) (f2:∀b∈fp,bp X pins H2 b)
  (c5:∀n c,(n,c)∈cl->X.env.cells.lookup n=some c/\(n,NameKind.free)∈scope.names) (fX:∀n,(n,NameKind.free)∈scope.names->∃c,(n,c)∈cl)
  (W:Nat->Nat->List V->St->Hp->Prop) (m0:Nat) (w0:W 0 m0 [] (bq own.length js U) H2)
  (turn:∀i m ys U' H',W i m ys U' H'->ys.length<sizeLine/\((J.stop i H'/\∀p,H' p=none->Q (.ref p) (upd H' p (.lst ys))) \/
   (J.go i H'/\∀x H2,J.kz i H' x H2->g x U' H2 λU2 H3=>tc U2 H3 λb H4=>if b=true then te U2 H4 λy H5=>∃m',m' < m/\W (i+1) m' (ys ++ [y]) U2 H5 else∃m',m' < m/\W (i+1) m' ys U2 H4)))
  (hst:X.stack=X.env :: X.outer) (hfr:X.env.frame=some X.env.locals)
  (A7:∀(acc C a Cc T:Addr) (dx:Option Addr) (H' H1:Hp) (s':Shared),Inv X pins U H1 s'->bp X pins H1 C->(∃m,s'.heap.Ns C m)->A5 H1 a Cc dx X.env.locals T->XS a H' H1->H' T=none->(∀i6,XS a H' i6->E0 (.ref a) none i6)->RR (.ref acc) C (.error (.ref a)) s')
  (fin:∀(acc C:Addr) (H':Hp) (s':Shared) (v:V),v=.ref acc->Inv X pins U H' s'->bp X pins H' C->(∃m,s'.heap.Ns C m)->Q v H'->RR (.ref acc) C (.ok .next) s') :
  wpAny (model X.prog X.w) X.A (newList []) (λacc s3=>wpAny (model X.prog X.w) X.A (newFunctionEnv scope X.env.globals cl [] X.env.qual none .none (some X.env)) (λcenv s4 =>
   codeAny (model X.prog X.w) X.A (.compStart (.ListComp elt [⟨tg,iter,ifs,0⟩] scope pos) 0 (.ref it) acc { cenv with scope:=relabel scope X.env }) (RR acc cenv.locals) s4) E s3) E s2:=by
 refine wpAny_newObj_type ?_;refine AG λh4 hns oh bO=>?_;have hA:s2.heap.objs.size<(s2.heap.push { cls:=.type "list",data:=.seq ([]:List Value).toArray }).objs.size:=by rw[Ml];exact Mu _
 generalize hC:(s2.heap.push { cls:=.type "list",data:=.seq ([]:List Value).toArray }).objs.size=C at hns bO hA ⊢;generalize hac:s2.heap.objs.size=acc at hA ⊢;have nu:acc≠C:=L7 hA;have old:∀b o,s2.heap.get? b=some o->h4.get? b=some o:=λb o e=>oh b o (LA _ e);have hacc:h4.get? acc=some { cls:=.type "list",data:=.seq ([]:List Value).toArray }:=oh _ _ (by rw[<- hac];exact LJ _ rfl);have ny:∀x c,(x,c)∈cellsFrom (C+1) scope.names []->h4.IsCell c none/\C+1<=c/\scope.names.lookup x=some .cell:=λx c h=>⟨(bO.empty x c h).1,(bO.empty x c h).2,nr S.mG (vF _ _ h).1⟩;have lk:∀x c,(cellsFrom (C+1) scope.names cl).lookup x=some c->(h4.IsCell c none/\C+1<=c/\(x,c)∈cellsFrom (C+1) scope.names [])\/(X.env.cells.lookup x=some c/\scope.names.lookup x=some .free):=λx c h=>by
  rw[rD]at h;rcases Mi.mp (PySem.mem_of_lookup h)with q|q
  exact .inl ⟨(ny x c q).1,(ny x c q).2.1,q⟩;exact .inr ⟨(c5 x c q).1,nr S.mG (c5 x c q).2⟩
 have nz:∀x c,X.env.cells.lookup x=some c->c<s2.heap.objs.size:=λx c h=>by
  obtain⟨v,z⟩:=I2.cell x c h;exact z.lt
 have cM:∀x c,(cellsFrom (C+1) scope.names cl).lookup x=some c->c≠C/\c≠acc/\H2 c=none/\∀b∈fp,c≠b:=λx c h=>by
  rcases lk x c h with⟨_,h1,_⟩|⟨h1,_⟩
  refine⟨uk ⋯,uk ⋯,I2.hok.fresh ⋯,λb hb z=>?_⟩;obtain⟨o,e,_⟩:=T.obj 0 _ st2 b hb;have:=ltN (LD e);rw[<- z]at this;lk
  have:=ltN (nz x c h1)
  exact⟨ku ⋯,ku ⋯,I2.b6 x c h1,λb hb=>(f2 b hb).2.2.2.2.1 x c h1⟩
 have jR:∀x,scope.names.lookup x=some .free->∃c,X.env.cells.lookup x=some c/\(cellsFrom (C+1) scope.names cl).lookup x=some c:=λx h=>by
  obtain⟨c,cK⟩:=fX x (PySem.mem_of_lookup h);have hc1:=(c5 x c cK).1;have hs:((cellsFrom (C+1) scope.names cl).lookup x).isSome=true:=by
   refine PySem.W.cellsFrom_some scope.names (C+1) cl (.inr ?_);cases q:cl.lookup x with
   |some d=>rfl
   |none =>
    exfalso;have:∀{l:List (Str×Addr)},(x,c)∈l->l.lookup x≠none:=by
     intro l
     induction l with
     |nil=>intro h;exact nomatch h
     |cons p r ih =>
      intro h z;obtain⟨k,v⟩:=p;rw[Mr]at z;cases hb:x == k with
      |true=>rw[hb]at z;cases z
      |false =>
       rw[hb]at z;rcases LO.mp h with e|h
       cases e;simp at hb;exact ih h z
    exact this cK q
  obtain⟨d,hd⟩:=Mj.mp hs;rcases lk x d hd with⟨_,_,h2⟩|⟨h1,_⟩
  have:=(ny x d h2).2.2
  rw[h]at this;cases this;rw[hc1]at h1;cases h1;exact⟨c,hc1,hd⟩
 have lr:∀b∈fp,b≠C/\b≠acc:=λb hb=>by
  obtain⟨o,e,_⟩:=T.obj 0 _ st2 b hb;have:=ltN (LD e);exact⟨ku ⋯,ku ⋯⟩
 have vI:(relabel scope X.env).kind=.function:=S.kind;have ok:(ai X (own ++ fr) scope (cellsFrom (C+1) scope.names cl) C fp s2 H2).Ok:=by
  refine⟨I2.ok.mod,vI,I2.ok.glob,I2.ok.blt,?_,λx y c h1 h2=>?_,λx hx=>?_,λx c hx h=>?_,I2.ok.hd,I2.ok.frames,.inl rfl,λb hb=>⟨(lr b hb).1,λx c h=>(cM x c h).2.2.2 b hb⟩,I2.bs,L5 I2.ok.je I2.sz,λb o e hb=>?_,λb hb z=>?_,I2.stack,I2.dn⟩;show s2.heap.objs.size<=C;lk;rcases lk x c h1 with⟨_,q1,q2⟩|⟨q1,_⟩
  rcases lk y c h2 with⟨_,r1,r2⟩|⟨r1,_⟩
  exact name_of_addr bO.apart q2 r2
  have:=ltN (nz y c r1);lk
  rcases lk y c h2 with⟨_,r1,r2⟩|⟨r1,_⟩
  have:=ltN (nz x c q1);lk
  exact I2.ok.inj x y c q1 r1;have hx':(relabel scope X.env).names.lookup x=some .cell\/(relabel scope X.env).names.lookup x=some .free:=hx;rcases um scope X.env x with⟨e,_⟩|⟨k,e1,e2⟩
  rcases hx' with z|z<;>(rw[e]at z;cases z)
  by_cases hk:k=.free;subst hk;obtain⟨c,_,h⟩:=jR x e1;exact⟨c,h⟩;have hk':k=.cell:=by
   have hb:(k == NameKind.free)=false:=beq_eq_false_iff_ne.mpr hk;rw[hb]at e2;simp only[Na,ML,if_false]at e2;rcases hx' with z|z
   rw[e2]at z;exact LH z;rw[e2]at z;exact absurd (LH z) hk
  subst hk';exact Mj.mp (PySem.W.cellsFrom_some scope.names (C+1) cl (.inl e1));have hx':scope.names.lookup x=some .cell:=of_decide_eq_true hx;show s2.heap.objs.size<=c;rcases lk x c h with⟨_,q,_⟩|⟨_,q⟩
  lk;rw[hx']at q;cases q;rcases(f2 b hb).2.2.2.1 with z|z
  exact I2.ok.gI b o e z;have h1:@LT.lt Nat _ b X.base.objs.size:=LD e;have h2:=I2.ok.je;lk;rcases LO.mp (I2.cj b z)with e|e
  exact(f2 b hb).2.1 e;exact(f2 b hb).2.2.1 e
 have I4:Inv (ai X (own ++ fr) scope (cellsFrom (C+1) scope.names cl) C fp s2 H2) [(acc,{ cls:=.type "list",data:=.seq ([]:List Value).toArray })] (bq own.length js U) H2 { s2 with heap:=h4 }:=by
  refine⟨ok,rfl,I2.bare,Un.kept old,⟨_,hns,λi x v e1 e2 e3=>?_⟩,λx c h=>?_,I2.hok.fresh (by show s2.heap.objs.size<=C;lk),λx c h=>(cM x c h).2.2.1,λp hp=>?_,I2.hok.kept old,?_⟩;have nA:(own ++ fr)[i]?=some x:=e1;unfold bq at e2;by_cases hi:i<own.length;rw[L0 (by simpa using hi),Ms]at e2;split at e2<;>cases e2;rw[LV (by simpa using hi),Mk,L3]at e2;rw[LV ⋯]at nA;cases hj:js[i-own.length]? with
  |none=>rw[hj]at e2;cases e2
  |some j =>
   rw[hj]at e2;have jh:U.getD j none=some v:=LH e2;have hN:X.N[j]?=some x:=by
    have q:=congrArg (λl=>l[i-own.length]?) S.ix;simp only[L3,hj,nA,Option.map_some]at q;exact LH q
   have hσ:U[j]?=some (some v):=by
    rw[MA]at jh;cases q:U[j]? with
    |none=>rw[q]at jh;cases jh
    |some o=>rw[q]at jh;exact congrArg some jh
   have hfr:scope.names.lookup x=some .free:=S.vH x (L6 nA);have hk:=S.free _ (PySem.mem_of_lookup hfr) rfl;obtain⟨m,_,hl⟩:=I2.loc;obtain⟨u,ru,lo⟩:=hl j x v hN hσ (by rcases hk with k|k;exact .inr (.inl k);exact .inr (.inr k));refine⟨u,ru,.inr ⟨?_,?_⟩⟩;rcases um scope X.env x with⟨_,e⟩|⟨k,q1,q2⟩
   rw[hfr]at e;cases e;rw[hfr]at q1;cases q1;have vJ:(compEnvC scope (cellsFrom (C+1) scope.names cl) C X.env).kindOf x=some (if(NameKind.free == .free && X.env.scope.kind == .function && X.env.kindOf x == some .cell)=true then .cell else .free):=q2;rw[show(ai X (own ++ fr) scope (cellsFrom (C+1) scope.names cl) C fp s2 H2).env.kindOf x=_ from vJ];split;exact .inl rfl;exact .inr rfl;rcases lo with⟨k,_⟩|⟨_,c,hc1,hc2⟩
   rcases hk with k'|k'<;>(rw[k]at k';cases k')
   obtain⟨d,hd1,hd2⟩:=jR x hfr;rw[hc1]at hd1;cases hd1;exact⟨c,hd2,hc2.keeps old⟩
  rcases lk x c h with⟨q,_,_⟩|⟨q,_⟩
  exact⟨_,q⟩;obtain⟨v,z⟩:=I2.cell x c q;exact⟨v,z.keeps old⟩;have e:p=(acc,{ cls:=.type "list",data:=.seq ([]:List Value).toArray }):=by simpa[ai]using hp
  subst e;refine⟨hacc,I2.hok.fresh ⋯,nu,λz=>?_,λv z=>nomatch z⟩;rcases LO.mp (I2.cj acc z)with e|e
  have:=ltN I2.lt
  rw[<- e]at this;lk;exact I2.oG ⋯ e;show(bq own.length js U).length=(own ++ fr).length;have q:=congrArg List.length S.ix;simp only[LG]at q;unfold bq;rw[LP,Mk,LG,LP,q]
 have nC:∀{H':Hp} {ob:Obj},(∀b∈fp,H' b=none)->∀b∈fp,bp (ai X (own ++ fr) scope (cellsFrom (C+1) scope.names cl) C fp s2 H2) [(acc,ob)] H' b:=λ{H' ob} hn b hb =>
  ⟨hn b hb,(lr b hb).1,λz=>by
   rcases LO.mp (I2.cj b z)with e|e
   exact(f2 b hb).2.1 e;exact(f2 b hb).2.2.1 e,.inl hb,λx c h=>(cM x c h).2.2.2 b hb,λp hp=>by
   have e:p=(acc,ob):=by simpa[ai]using hp
   subst e
   exactλz=>(lr b hb).2 z.symm⟩
 have loop:codeAny (model X.prog X.w) X.A (.compLoop (.ListComp elt [⟨tg,iter,ifs,0⟩] scope pos) 0 (.ref it) (.ref acc) (compEnvC scope (cellsFrom (C+1) scope.names cl) C X.env)) (RR (.ref acc) C) { s2 with heap:=h4 }:=by
  refine HD (λm s'=>∃(i:Nat) (ys:List V) (its:List Value) (n:Nat) (U':St) (H':Hp),Inv (ai X (own ++ fr) scope (cellsFrom (C+1) scope.names cl) C fp s2 H2) [(acc,{ cls:=.type "list",data:=.seq its.toArray n })] U' H' s'/\Vals ys its/\tn i s'.heap/\(∀b∈fp,H' b=none)/\W i m ys U' H') ?_ m0
   ⟨0,[],[],0,_,H2,I4,.nil,T.keep _ _ _ st2 λb _ o e=>old b o e,λb hb=>(f2 b hb).1,w0⟩
  rintro n s5 ⟨i,ys,its,en,U5,H5,I5,rv,fQ,og,w5⟩;obtain⟨hz,alt⟩:=turn i n ys U5 H5 w5;rcases alt with⟨stop,qn⟩|⟨go,step⟩
  refine aP (T.done (ai X (own ++ fr) scope (cellsFrom (C+1) scope.names cl) C fp s2 H2) rfl rfl rfl hc i _ s5 U5 H5 _ I5 (nC og) fQ stop) λr s6 ⟨hr,I6⟩=>?_;subst hr;show RR (.ref acc) C (.ok .next) s6;have u:Un (frs X.stack) fp H2 H5 s2.heap s6.heap:=I6.base;have J6:Inv X pins U H5 s6:=I2.iS I6.os u I6.hok I6.bare λb hb=>⟨(f2 b hb).2.2.2.1,(f2 b hb).2.1,(f2 b hb).2.2.2.2.1,(f2 b hb).2.2.2.2.2⟩;have pacc:=I6.pin (acc,_) (LK _ LL);have nD:bp X pins H5 acc:=I2.fM ⋯ pacc.2.1;have fC:bp X pins H5 C:=I2.fM ⋯ I6.free;have K6:Inv X pins U (upd H5 acc (.lst ys)) s6:=J6.nt nD ⟨MG hz,its,en,rv,pacc.1⟩;obtain⟨m,hm,_⟩:=I6.loc;exact fin acc C _ s6 (.ref acc) rfl K6 ⟨by rw[bg nu.symm];exact fC.1,fC.2⟩ ⟨m,hm⟩ (qn acc pacc.2.1);refine aP (T.item (ai X (own ++ fr) scope (cellsFrom (C+1) scope.names cl) C fp s2 H2) rfl rfl rfl hc i _ s5 U5 H5 _ I5 (nC og) fQ go) λr s6 ⟨u,hr,h6⟩=>?_;subst hr;refine aP h6 λ_ s7 ⟨x,H7,I7,r7,y7,mH,vK⟩=>?_;have vL:=I7.pinned (nC vK) (T.obj _ _ mH);refine aP (hg _ _ _ _ _ _ s7 U5 H7 x u _ vL r7 (step x H7 y7)) λ_ s8 ⟨U8,H8,I8,q8⟩=>?_;refine aP (hf _ _ _ _ _ _ s8 U8 H8 _ I8 q8) λb s9 ⟨H9,I9,q9⟩=>?_;have lu:∀{s':Shared} {U':St} {H':Hp},Inv (ai X (own ++ fr) scope (cellsFrom (C+1) scope.names cl) C fp s2 H2) ([(acc,{ cls:=.type "list",data:=.seq its.toArray en })] ++ fu fp s7.heap) U' H' s'->tn (i+1) s'.heap/\∀b∈fp,H' b=none:=λ{s' U' H'} I' =>
   ⟨T.keep _ _ _ mH λb hb o e=>(I'.pin (b,o) (LK _ (LK _ (pK hb e)))).1,λb hb=>by
    obtain⟨o,e,d⟩:=T.obj _ _ mH b hb
    exact(I'.pin (b,o) (LK _ (LK _ (pK hb e)))).2.1⟩
  cases b with
  |false =>
   obtain⟨m',hm,w9⟩:=q9;exact⟨m',hm,i+1,ys,its,en,U8,H9,I9.cX,rv,(lu I9).1,(lu I9).2,w9⟩
  |true =>
   refine wpAny_mono (he _ _ _ _ _ _ s9 U8 H9 _ (I9.wish _) q9) (λy l6 ⟨yv,nE,kh,vM,m',hm,vN⟩=>?_) λe l6 hx=>?_
   skip
   have kh:=kh.dr;have pacc:=kh.pin (acc,_) (LK _ (Mm _ LL));have hlen:=rv.length;refine wpAny_list_append_plain (items:=its.toArray) ⟨en,pacc.1⟩ (λh11 ⟨pV,nF⟩ jS=>?_) (by simp only[LU];lk);have cA:∀x c,(cellsFrom (C+1) scope.names cl).lookup x=some c->c≠acc:=λx c h=>(cM x c h).2.1;have Ia:Inv (ai X (own ++ fr) scope (cellsFrom (C+1) scope.names cl) C fp s2 H2) [] U8 nE l6:=kh.cL λp hp=>nomatch hp;have Ib:Inv (ai X (own ++ fr) scope (cellsFrom (C+1) scope.names cl) C fp s2 H2) [] U8 nE { l6 with heap:=h11 }:=Ia.turned (it:=acc) (t':=l6.toks) (λb o hb e=>(jS.2 b hb).trans e) pacc.2.1 nu (.inr (by show s2.heap.objs.size<=acc;lk)) cA λp hp=>nomatch (show p∈([]:List (Addr×Obj))from by simpa[ai]using hp);refine⟨m',hm,i+1,ys ++ [yv],its ++ [y],pV,U8,nE,Ib.cL λp hp=>?_,rv.append (.cons vM .nil),T.keep _ _ _ (lu kh).1 λb hb o e=>(jS.2 b (lr b hb).2).trans e,(lu kh).2,vN⟩;have e:p=(acc,{ cls:=.type "list",data:=.seq (its ++ [y]).toArray pV }):=by simpa using hp
   subst e;exact⟨by simpa using nF,pacc.2.1,pacc.2.2.1,pacc.2.2.2.1,λv z=>nomatch z⟩;obtain⟨a,Cc,dx,H',rfl,os,bare,un,hok,D7,⟨m,hm⟩,x,hE⟩:=hx;have J:Inv X pins U H' l6:=I2.iS os un hok bare λb hb=>⟨(f2 b hb).2.2.2.1,(f2 b hb).2.1,(f2 b hb).2.2.2.2.1,(f2 b hb).2.2.2.2.2⟩;have fC:bp X pins H' C:=I2.fM ⋯ D7;have oj:C ∉ frs X.stack:=λz=>by
    rcases LO.mp (I2.cj C z)with e|e
    exact fC.2.1 e;exact fC.2.2.1 e
   obtain⟨oC,eC,HG,gC,rC⟩:=hm;refine Inv.kF (X:=X) (env:=X.env) J hst hfr I2.ok.frames x λh' H1 T hT kp xs xf J1=>?_;obtain⟨g1,n1⟩:=kp C oC gC D7 oj;exact A7 acc C a Cc T dx H' H1 _ J1 (I2.fM ⋯ n1) ⟨m,oC,eC,HG,g1,rC⟩ xf xs hT hE
 exact codeAny_compStart_list loop (T.self X.A 0 _ _ _ (T.keep _ _ _ st2 λb _ o e=>old b o e) loop)
end
section
variable {P:Program}{w:World}{K:Zfr}{mg:Str->Option Value}{base:Heap}{N:List Str}{qual:Str}{sc:Scope}{f:Addr}{cd:Value}{A:Around}{outer:List Env}{s0:Shared}{H0:Hp}{E:XK}
variable {tg iter elt:Expr}{ifs:List Expr}{scope:Scope}{pos:Pos}{own fr:List Str}{js:List Nat}{g:TG}{tc:TT}{te:TE}{wi:TI}
def HI(S:bH (bC (gM P w) P w K mg base N qual sc f cd A outer s0 H0 E) scope own fr js)(hi:PI (bC (gM P w) P w K mg base N qual sc f cd A outer s0 H0 E) tg iter wi)
  (hg:∀cells C fp s H,PG (ai (bC (gM P w) P w K mg base N qual sc f cd A outer s0 H0 E) (own ++ fr) scope cells C fp s H) tg g) (hf:∀cells C fp s H,PF (ai (bC (gM P w) P w K mg base N qual sc f cd A outer s0 H0 E) (own ++ fr) scope cells C fp s H) ifs tc)
  (he:∀cells C fp s H,PE (jn (bC (gM P w) P w K mg base N qual sc f cd A outer s0 H0 E) E (own ++ fr) scope cells C fp s H) elt te)
  (hs:∀x,foldedSetIterable iter (bC (gM P w) P w K mg base N qual sc f cd A outer s0 H0 E).env x=pure x:=by intro _;rfl) :
  PE (bC (gM P w) P w K mg base N qual sc f cd A outer s0 H0 E) (.ListComp elt [⟨tg,iter,ifs,0⟩] scope pos) (gA wi own.length js g tc te):=by
 intro pins s U H Q I h;obtain⟨cl,hcl,c5,fX⟩:=yL (scope:=scope) (env:=(bC (gM P w) P w K mg base N qual sc f cd A outer s0 H0 E).env) λy hy hk=>I.ok.has y.1 (S.free y hy hk);rw[eval_ListComp];refine wpAny_comprehension_free (use:=none) rfl hs hcl S.kind (λy hy hk=>by rw[<- hk];exact nr S.mG hy) (aP (hi pins s U H _ I h) λv s1 h1=>aP h1 λitv s2 h2=>?_);obtain⟨it,fp,tn,J,H2,e,I2,T,st2,f2,W,⟨m0,w0⟩,turn⟩:=h2;subst e;refine HF (E0:=E) (RR:=λacc C=>compPost (model P w) (bC (gM P w) P w K mg base N qual sc f cd A outer s0 H0 E).A (bC (gM P w) P w K mg base N qual sc f cd A outer s0 H0 E).xe none (EP (bC (gM P w) P w K mg base N qual sc f cd A outer s0 H0 E) pins U Q) acc C) rfl S hg hf he I2 T st2 f2 c5 fX W m0 w0 turn rfl rfl ?_ ?_;intro acc C a Cc T' dx H' H1 s' I' fC ⟨m,hm⟩ xf xs hT hE;obtain⟨f0,f1,yN,f3,f4,f5⟩:=fC;exact⟨m,hm,λh'' ji cenv _=>rN (I'.turned (it:=C) (t':=s'.toks) (λb o hb e=>(ji.2 b hb).trans e) f0 f1 f3 f4 f5) xf xs hT hE⟩;intro acc C H' s' v hv I' fC ⟨m,hm⟩ q;subst hv;obtain⟨f0,f1,yN,f3,f4,f5⟩:=fC;exact⟨m,hm,λh'' ji=>⟨.ref acc,H',I'.turned (it:=C) (t':=s'.toks) (λb o hb e=>(ji.2 b hb).trans e) f0 f1 f3 f4 f5,rfl,q⟩⟩
end
end L2
namespace L2
open PySem PySem.Spec PyProof.Rows
def A8{M:Model}{A:Around}{E:Value->Shared->Prop}{s:Shared}{K:Zfr}{a C F fI:Addr}{oe:Obj}{bmB:List Value}{newId:String}{Q:Bool->Shared->Prop}(X:K.In s.heap)(he:s.heap.get? a=some oe)(hc:oe.cls=.ref C)
  (hF:fx K F bmB newId fI=true) (hb:bmB.contains (.type "BaseException")=true) (hm:PySem.W.mroIn K C (.ref F)=some true) (hq:Q true s):wpAny M A (excMatches (.ref a) (.ref F)) Q E s:=by
 obtain⟨bm,NN,nm,qn,bs,hdct,sn,sub,ab,col,dd,k0,k1,k2,k3,k5,mN,hC,hN,hni,T⟩:=DQ X hF;have L:=PySem.W.looks_mroIn (M:=M) X hm;obtain⟨h,g,d,t,os⟩:=s;have HJ:(Value.ref F :: bm).contains (.type "BaseException")=true:=by rw[List.contains_cons,T.hasType hb,Bool.or_true]
 have f:=tc_notTuple;unfold excMatches
 repeat (first|(with_reducible refine wpAny_loadPart_at he ?_;rw[hc])|with_reducible refine wpAny_loadPart_at hC ?_|(with_reducible refine wpAny_isSubtype_exc hC ?_;rw[HJ])|wp_step)
 refine L.at ?_;rw[if_pos rfl]
 wp_walk
 exact hq
section
variable {prog:Program}{w:World}{A:Around}{E:Value->Shared->Prop}{s:Shared}
def HK:entryFor table "proto.unchain" = some Builtin.«proto.unchain»:=entryFor_of_tree (by kernel_rfl)
def unchain{e h:Value}{a:Addr}{o:Obj}{vs:Array Value}{Q:Value->Shared->Prop}(eh:h=.ref a)(ho:s.heap.get? a=some o)(hd:o.data=.fields vs)(h2:vs[2]?=some .none)(q:Q .none s):wpAny (model prog w) A (runValue (.builtin "proto.unchain" ⟨[e,h,h,.bool false],[]⟩)) Q E s:=by subst eh;refine runValue_entry HK ?_;unfold Builtin.«proto.unchain»;show wpAny _ _ (field (.ref a) 2 >>= _) _ _ s;refine wpAny_bind (wpAny_field ho hd h2 ?_);show wpAny _ _ (if(Value.none == Value.none)=true then _ else _) _ _ s;rw[if_pos (by rfl)];exact wpAny_pure ⟨_,rfl,q⟩
def HL{it hx:Addr}{x left step:Int}{ox:Obj}{vx:Array Value}{Q:Option Value->Shared->Prop}(hh:A.handled=some (.ref hx))(hox:s.heap.get? hx=some ox)(hdx:ox.data=.fields vx)(h2:vx[2]?=some .none)(hit:IsRangeIter s.heap it x left step)(hleft:left<=0)
  (hQ:∀h',Heap.ExtBut it s.heap h'->Q none { s with heap:=h' }):wpAny (model prog w) A (pyNext (.ref it)) Q E s:=by
 have hT:s.TypeIs (.ref it) "range_iterator" := ⟨_,hit,rfl⟩;unfold pyNext
 refine wpAny_bind (wpAny_attempt (wpAny_callSpecial?_slot (name:=Str.ofString "__next__") hT F.slot_range_iterator_next
  (wpAny_call_entry F.slot_range_iterator_next hT F.entry_range_iterator_next ?_ (F.args_range_iterator_next_1 _))))
 show wpAny _ _ (field (.ref it) 0 >>= _) _ _ s;refine wpAny_bind (wpAny_field hit rfl (x:=rawInt x) rfl ?_);show wpAny _ _ (field (.ref it) 1 >>= _) _ _ s;refine wpAny_bind (wpAny_field hit rfl (x:=rawInt left) rfl ?_);show wpAny _ _ (field (.ref it) 2 >>= _) _ _ s;refine wpAny_bind (wpAny_field hit rfl (x:=rawInt step) rfl ?_);show wpAny _ _ (if left<=0 then _ else _) _ _ s;rw[if_pos hleft];refine wpAny_bind (wpAny_rule ?_);refine wpAny_bind ?_;show wpAny _ _ (newExc (.type "StopIteration") [] >>= _) _ _ _;refine wpAny_bind ?_;simp only[newExc,newTuple];refine wpAny_bind (wpAny_newObj_type ?_ (by size_fits));refine wpAny_bind (m:=firstArgMember _ _) (wpAny_of_eq (a:=Value.none) (by first|rfl|(simp only[firstArgMember];rfl)) ?_);refine wpAny_newObj_type ?_ (by size_fits);simp only[raiseNew];refine wpAny_bind (wpAny_handled ?_);rw[show A.in1.handled=some (.ref hx)from hh];have hlt:@LT.lt Nat _ hx s.heap.objs.size:=LD hox;generalize hto:({ cls:=.type "tuple",data:=.seq #[] }:Obj)=yU;have hsz:(s.heap.push yU).objs.size=s.heap.objs.size+1:=Ml ..;generalize hN:(s.heap.push yU).objs.size=N at hsz ⊢;generalize hob:({ cls:=.type "StopIteration",data:=.fields (#[.ref s.heap.objs.size,.none,.none,.none,.bool false,.none] ++ ownMembersOf (.type "StopIteration") []) }:Obj)=ob;have wc:ob.data=.fields (#[.ref s.heap.objs.size,.none,.none,.none,.bool false,.none] ++ ownMembersOf (.type "StopIteration") []):=by rw[<- hob]
 have A9:ob.cls=.type "StopIteration" := by rw[<- hob]
 have Ba:ob.isFreed=false:=by rw[<- hob];rfl
 have ne:hx≠N:=by intro z;rw[z]at hlt;lk
 show wpAny _ _ (if((Value.ref hx) != Value.ref N)=true then _ else _) _ _ _;rw[if_pos (by simp[bne,ne])];have gx:((s.heap.push yU).push ob).get? hx=some ox:=LA _ (LA _ hox);have gN:((s.heap.push yU).push ob).get? N=some ob:=by rw[<- hN];exact LJ _ Ba
 refine wpAny_bind (wpAny_holding (unchain rfl gx hdx h2 ?_));show wpAny _ _ (setField (.ref N) 2 (.ref hx) >>= _) _ _ _;refine wpAny_bind (wpAny_setField gN wc (by simp;lk) (wpAny_throw ?_));have d3:=Obj.data_mapFields wc (·.setIfInBounds 2 (Value.ref hx));refine wpAny_bind (wpAny_isInstance (T:="StopIteration") (b:=true) ⟨_,Ma _ gN (Obj.isFreed_of_fields d3),by rw[Obj.cls_mapFields];exact A9⟩ isSubtype_stop ?_);refine wpAny_pure (hQ _ λb o hb e=>?_);have lb:@LT.lt Nat _ b s.heap.objs.size:=LD e;rw[LY _ _ (by intro z;rw[<- z]at lb;lk)];exact LA _ (LA _ e)
end
structure nO(hx:Addr)(P:Program)(w:World)(K:Zfr)(tg:Expr)(J:It)(fp:List Addr)(it:Addr)(tn:Nat->Heap->Prop):Prop where
 mem:it∈fp
 obj:∀i h,tn i h->∀b∈fp,∃o,h.get? b=some o/\∀v,o.data≠.cell v
 keep:∀i h h',tn i h->(∀b∈fp,∀o,h.get? b=some o->h'.get? b=some o)->tn i h'
 item:∀(X:Cx),X.prog=P->X.w=w->X.K=K->X.A.handled=some (.ref hx)->∀(i:Nat) (pins:List (Addr×Obj)) (s:Shared) (U:St) (H:Hp) (E:Value->Shared->Prop),Inv X pins U H s->(∀b∈fp,bp X pins H b)->tn i s.heap->J.go i H ->
  wpAny (model P w) X.A (pyNext (.ref it)) (λr s1=>∃u,r=some u /\
   wpAny (model P w) X.A (letOwnedTupleGo tg (.ref it) u) (λ_ s2=>∃x H',Inv X pins U H' s2/\RelV x u/\J.kz i H x H'/\tn (i+1) s2.heap/\∀b∈fp,H' b=none) E s1) E s
 done:∀(X:Cx),X.prog=P->X.w=w->X.K=K->X.A.handled=some (.ref hx)->∀(i:Nat) (pins:List (Addr×Obj)) (s:Shared) (U:St) (H:Hp) (E:Value->Shared->Prop),Inv X pins U H s->(∀b∈fp,bp X pins H b)->tn i s.heap->J.stop i H ->
  wpAny (model P w) X.A (pyNext (.ref it)) (λr s1=>r=none/\Inv X pins U H s1) E s
 self:∀(A:Around) (i:Nat) (s:Shared) (Q:Value->Shared->Prop) (E:Value->Shared->Prop),tn i s.heap->Q (.ref it) s->wpAny (model P w) A (pyIter (.ref it)) Q E s
abbrev wg(hx:Addr)(X:Cx)(pins:List (Addr×Obj))(U:St)(tg:Expr)(R:It->Hp->Prop)(itv:Value)(s2:Shared):Prop :=
 ∃(it:Addr) (fp:List Addr) (tn:Nat->Heap->Prop) (J:It) (H':Hp),itv=.ref it/\Inv X pins U H' s2/\nO hx X.prog X.w X.K tg J fp it tn/\tn 0 s2.heap/\(∀b∈fp,bp X pins H' b)/\R J H'
abbrev D8(hx:Addr)(X:Cx)(tg iter:Expr)(wi:TI):Prop :=
 ∀(pins:List (Addr×Obj)) (s:Shared) (U:St) (H:Hp) (R:It->Hp->Prop),Inv X pins U H s->wi U H R ->
  wpAny (model X.prog X.w) X.A (eval iter X.env) (λv s1=>wpAny (model X.prog X.w) X.A (pyIter v) (wg hx X pins U tg R) X.xe s1) X.xe s
abbrev rO(hx:Addr)(lo:Int)(n:Nat):It:=⟨(uh lo n).go,(uh lo n).kz,λi H=>n<=i/\∃C dx tr,H hx=some (XO hx C dx tr)⟩
def HM{P:Program}{w:World}{K:Zfr}{tg:Expr}(hx it:Addr)(lo:Int)(n:Nat):nO hx P w K tg (rO hx lo n) [it] it (λi h=>IsRangeIter h it (lo+(i:Nat)*1) ((n:Int)-(i:Nat)) 1) where
 mem:=(vf (P:=P) (w:=w) (K:=K) (tg:=tg) it lo n).mem
 obj:=(vf (P:=P) (w:=w) (K:=K) (tg:=tg) it lo n).obj
 keep:=(vf (P:=P) (w:=w) (K:=K) (tg:=tg) it lo n).keep
 item:=by
  intro X hP hw hK hc i pins s U H E I hf st hg;subst hP hw hK;obtain⟨f0,f1,f2,f3,f4,f5⟩:=hf it (by simp);have hg:i<n:=hg;refine wpAny_pyNext_range_item st ⋯ λh' st' kk=>?_;have e1:lo+((i:Nat):Int)*1+1=lo+((i+1:Nat):Int)*1:=by push_cast;lk
  have e2:(n:Int)-((i:Nat):Int)-1=(n:Int)-((i+1:Nat):Int):=by push_cast;lk
  rw[e1,e2]at st';have I1:Inv X pins U H { s with heap:=h',toks:=s.toks+1 }:=I.turned (λb o hb e=>(kk.2 b hb).trans e) f0 f1 f3 f4 f5;refine⟨_,rfl,ug (s:={ s with heap:=h',toks:=s.toks+1 }) (n:="range_iterator") st' rfl rfl ∅ ⟨.int (lo+i),H,I1,⟨s.toks,?_⟩,⟨rfl,rfl⟩,st',λb hb=>(hf b hb).1⟩⟩;rw[Int.mul_one]
 done:=by
  intro X hP hw hK hc i pins s U H E I hf st hg;subst hP hw hK;obtain⟨f0,f1,f2,f3,f4,f5⟩:=hf it (by simp);obtain⟨hn,C,dx,tr,ea⟩:=hg;obtain⟨ox,vs,g1,g2,g3,g4,g5,g6⟩:=XO.of I.hok ea;exact HL hc g1 g4 g6 st ⋯ λh' eb=>⟨rfl,I.turned (t':=s.toks) (λb o hb e=>eb b o hb e) f0 f1 f3 f4 f5⟩
 self:=(vf (P:=P) (w:=w) (K:=K) (tg:=tg) it lo n).self
section
variable {X:Cx}{tg:Expr}
def HN{hx:Addr}{pins:List (Addr×Obj)}{U:St}{H:Hp}{s:Shared}{R:It->Hp->Prop}{E:Value->Shared->Prop}{lo hi:Int}{t u v:Tok}{tk:Nat}(I:Inv X pins U H s)(h1:-(2 ^ 62)<=lo)(h2:lo<2 ^ 62)(h3:-(2 ^ 62)<=hi)(h4:hi<2 ^ 62)
  (q:R (rO hx lo (hi-lo).toNat) H):wpAny (model X.prog X.w) X.A (pyIter (.ref s.heap.objs.size)) (wg hx X pins U tg R) E { s with heap:=s.heap.push { cls:=.type "range",data:=.fields #[.int lo t,.int hi u,.int 1 v] },toks:=tk }:=by
 refine wpAny_pyIter_range (IsRange.new ..) (small_one h1 h2 h3 h4) ?_;have I1:Inv X pins U H { s with heap:=s.heap.push { cls:=.type "range",data:=.fields #[.int lo t,.int hi u,.int 1 v] },toks:=tk }:=I.kept λb o e=>LA _ e
 refine⟨(s.heap.push { cls:=.type "range",data:=.fields #[.int lo t,.int hi u,.int 1 v] }).objs.size,[(s.heap.push { cls:=.type "range",data:=.fields #[.int lo t,.int hi u,.int 1 v] }).objs.size],_,_,H,rfl,
  I1.kept (t':=tk) λb o e=>LA _ e,HM hx _ lo (hi-lo).toNat,?_,λb hb=>?_,q⟩
 have e1:lo+((0:Nat):Int)*1=lo:=by simp
 have e2:(((hi-lo).toNat:Nat):Int)-((0:Nat):Int)=Builtin.Range.rangeSize lo hi 1:=by rw[rangeSize_one];split<;>lk
 show IsRangeIter _ _ (lo+((0:Nat):Int)*1) ((((hi-lo).toNat:Nat):Int)-((0:Nat):Int)) 1;rw[e1,e2];exact LJ _ rfl;have e:b=(s.heap.push { cls:=.type "range",data:=.fields #[.int lo t,.int hi u,.int 1 v] }).objs.size:=by simpa using hb
 subst e;exact I1.fM (LI _) (I1.hok.fresh (LI _))
abbrev p9(hx:Addr)(ta:TA):TI:=λU H R=>ta U H λvs H1=>∃j:Int,vs=[.int j]/\-(2 ^ 62)<=j/\j<2 ^ 62/\R (rO hx 0 j.toNat) H1
def HP{hx:Addr}{a:Expr}{ta:TA}{p pos:Pos}(hg:Gl X "range")(hm:X.mg "range" = none)(ha:PA X [a] ta)(hs:starEach [a] X.env=[(false,eval a X.env)]:=by rfl):D8 hx X tg (.Call (.Name "range" p) [a] [] pos) (p9 hx ta):=by
 intro pins s U H R I h;refine Call_ (ua I hg hm boot_range (PyProof.Rows.callWith_type1 (aP (ha pos pins s U H _ I h) λus s1 ⟨vs,H1,I1,r1,q1⟩=>?_) hs rfl));obtain⟨j,e,q1,q2,q⟩:=q1;subst e;cases r1 with
 |cons r rr =>
  cases rr;obtain⟨t,rfl⟩:=r;exact call_range_1 (HN I1 ⋯ ⋯ q1 q2 (by simpa using q))
end
section
variable {X:Cx}{pins:List (Addr×Obj)}{U:St}{tg iter elt:Expr}{ifs:List Expr}{scope:Scope}{pos:Pos}{own fr:List Str}{js:List Nat}{g:TG}{tc:TT}{te:TE}{wi:TI}
def HQ{hx:Addr}{H2:Hp}{s2:Shared}{it:Addr}{fp:List Addr}{tn:Nat->Heap->Prop}{J:It}{Q:VK}{E:Value->Shared->Prop}{cl:List (Str×Addr)}{RR:Value->Addr->Result->Shared->Prop}
  (hc:X.A.handled=some (.ref hx)) (S:bH X scope own fr js) (hg:∀cells C fp s H,PG (ai X (own ++ fr) scope cells C fp s H) tg g) (hf:∀cells C fp s H,PF (ai X (own ++ fr) scope cells C fp s H) ifs tc) (he:∀cells C fp s H,PE (ai X (own ++ fr) scope cells C fp s H) elt te)
  (I2:Inv X pins U H2 s2) (T:nO hx X.prog X.w X.K tg J fp it tn) (st2:tn 0 s2.heap) (f2:∀b∈fp,bp X pins H2 b)
  (c5:∀n c,(n,c)∈cl->X.env.cells.lookup n=some c/\(n,NameKind.free)∈scope.names) (fX:∀n,(n,NameKind.free)∈scope.names->∃c,(n,c)∈cl)
  (W:Nat->Nat->List V->St->Hp->Prop) (m0:Nat) (w0:W 0 m0 [] (bq own.length js U) H2)
  (turn:∀i m ys U' H',W i m ys U' H'->ys.length<sizeLine/\((J.stop i H'/\∀p,H' p=none->Q (.ref p) (upd H' p (.lst ys))) \/
   (J.go i H'/\∀x H2,J.kz i H' x H2->g x U' H2 λU2 H3=>tc U2 H3 λb H4=>if b=true then te U2 H4 λy H5=>∃m',m' < m/\W (i+1) m' (ys ++ [y]) U2 H5 else∃m',m' < m/\W (i+1) m' ys U2 H4)))
  (fin:∀(acc C:Addr) (H':Hp) (s':Shared) (v:V),v=.ref acc->Inv X pins U H' s'->bp X pins H' C->(∃m,s'.heap.Ns C m)->Q v H'->RR (.ref acc) C (.ok .next) s') :
  wpAny (model X.prog X.w) X.A (newList []) (λacc s3=>wpAny (model X.prog X.w) X.A (newFunctionEnv scope X.env.globals cl [] X.env.qual none .none (some X.env)) (λcenv s4 =>
   codeAny (model X.prog X.w) X.A (.compStart (.ListComp elt [⟨tg,iter,ifs,0⟩] scope pos) 0 (.ref it) acc { cenv with scope:=relabel scope X.env }) (RR acc cenv.locals) s4) E s3) E s2:=by
 refine wpAny_newObj_type ?_;refine AG λh4 hns oh bO=>?_;have hA:s2.heap.objs.size<(s2.heap.push { cls:=.type "list",data:=.seq ([]:List Value).toArray }).objs.size:=by rw[Ml];exact Mu _
 generalize hC:(s2.heap.push { cls:=.type "list",data:=.seq ([]:List Value).toArray }).objs.size=C at hns bO hA ⊢;generalize hac:s2.heap.objs.size=acc at hA ⊢;have nu:acc≠C:=L7 hA;have old:∀b o,s2.heap.get? b=some o->h4.get? b=some o:=λb o e=>oh b o (LA _ e);have hacc:h4.get? acc=some { cls:=.type "list",data:=.seq ([]:List Value).toArray }:=oh _ _ (by rw[<- hac];exact LJ _ rfl);have ny:∀x c,(x,c)∈cellsFrom (C+1) scope.names []->h4.IsCell c none/\C+1<=c/\scope.names.lookup x=some .cell:=λx c h=>⟨(bO.empty x c h).1,(bO.empty x c h).2,nr S.mG (vF _ _ h).1⟩;have lk:∀x c,(cellsFrom (C+1) scope.names cl).lookup x=some c->(h4.IsCell c none/\C+1<=c/\(x,c)∈cellsFrom (C+1) scope.names [])\/(X.env.cells.lookup x=some c/\scope.names.lookup x=some .free):=λx c h=>by
  rw[rD]at h;rcases Mi.mp (PySem.mem_of_lookup h)with q|q
  exact .inl ⟨(ny x c q).1,(ny x c q).2.1,q⟩;exact .inr ⟨(c5 x c q).1,nr S.mG (c5 x c q).2⟩
 have nz:∀x c,X.env.cells.lookup x=some c->c<s2.heap.objs.size:=λx c h=>by
  obtain⟨v,z⟩:=I2.cell x c h;exact z.lt
 have cM:∀x c,(cellsFrom (C+1) scope.names cl).lookup x=some c->c≠C/\c≠acc/\H2 c=none/\∀b∈fp,c≠b:=λx c h=>by
  rcases lk x c h with⟨_,h1,_⟩|⟨h1,_⟩
  refine⟨uk ⋯,uk ⋯,I2.hok.fresh ⋯,λb hb z=>?_⟩;obtain⟨o,e,_⟩:=T.obj 0 _ st2 b hb;have:=ltN (LD e);rw[<- z]at this;lk
  have:=ltN (nz x c h1)
  exact⟨ku ⋯,ku ⋯,I2.b6 x c h1,λb hb=>(f2 b hb).2.2.2.2.1 x c h1⟩
 have jR:∀x,scope.names.lookup x=some .free->∃c,X.env.cells.lookup x=some c/\(cellsFrom (C+1) scope.names cl).lookup x=some c:=λx h=>by
  obtain⟨c,cK⟩:=fX x (PySem.mem_of_lookup h);have hc1:=(c5 x c cK).1;have hs:((cellsFrom (C+1) scope.names cl).lookup x).isSome=true:=by
   refine PySem.W.cellsFrom_some scope.names (C+1) cl (.inr ?_);cases q:cl.lookup x with
   |some d=>rfl
   |none =>
    exfalso;have:∀{l:List (Str×Addr)},(x,c)∈l->l.lookup x≠none:=by
     intro l
     induction l with
     |nil=>intro h;exact nomatch h
     |cons p r ih =>
      intro h z;obtain⟨k,v⟩:=p;rw[Mr]at z;cases hb:x == k with
      |true=>rw[hb]at z;cases z
      |false =>
       rw[hb]at z;rcases LO.mp h with e|h
       cases e;simp at hb;exact ih h z
    exact this cK q
  obtain⟨d,hd⟩:=Mj.mp hs;rcases lk x d hd with⟨_,_,h2⟩|⟨h1,_⟩
  have:=(ny x d h2).2.2
  rw[h]at this;cases this;rw[hc1]at h1;cases h1;exact⟨c,hc1,hd⟩
 have lr:∀b∈fp,b≠C/\b≠acc:=λb hb=>by
  obtain⟨o,e,_⟩:=T.obj 0 _ st2 b hb;have:=ltN (LD e);exact⟨ku ⋯,ku ⋯⟩
 have vI:(relabel scope X.env).kind=.function:=S.kind;have ok:(ai X (own ++ fr) scope (cellsFrom (C+1) scope.names cl) C fp s2 H2).Ok:=by
  refine⟨I2.ok.mod,vI,I2.ok.glob,I2.ok.blt,?_,λx y c h1 h2=>?_,λx hx=>?_,λx c hx h=>?_,I2.ok.hd,I2.ok.frames,.inl rfl,λb hb=>⟨(lr b hb).1,λx c h=>(cM x c h).2.2.2 b hb⟩,I2.bs,L5 I2.ok.je I2.sz,λb o e hb=>?_,λb hb z=>?_,I2.stack,I2.dn⟩;show s2.heap.objs.size<=C;lk;rcases lk x c h1 with⟨_,q1,q2⟩|⟨q1,_⟩
  rcases lk y c h2 with⟨_,r1,r2⟩|⟨r1,_⟩
  exact name_of_addr bO.apart q2 r2
  have:=ltN (nz y c r1);lk
  rcases lk y c h2 with⟨_,r1,r2⟩|⟨r1,_⟩
  have:=ltN (nz x c q1);lk
  exact I2.ok.inj x y c q1 r1;have hx':(relabel scope X.env).names.lookup x=some .cell\/(relabel scope X.env).names.lookup x=some .free:=hx;rcases um scope X.env x with⟨e,_⟩|⟨k,e1,e2⟩
  rcases hx' with z|z<;>(rw[e]at z;cases z)
  by_cases hk:k=.free;subst hk;obtain⟨c,_,h⟩:=jR x e1;exact⟨c,h⟩;have hk':k=.cell:=by
   have hb:(k == NameKind.free)=false:=beq_eq_false_iff_ne.mpr hk;rw[hb]at e2;simp only[Na,ML,if_false]at e2;rcases hx' with z|z
   rw[e2]at z;exact LH z;rw[e2]at z;exact absurd (LH z) hk
  subst hk';exact Mj.mp (PySem.W.cellsFrom_some scope.names (C+1) cl (.inl e1));have hx':scope.names.lookup x=some .cell:=of_decide_eq_true hx;show s2.heap.objs.size<=c;rcases lk x c h with⟨_,q,_⟩|⟨_,q⟩
  lk;rw[hx']at q;cases q;rcases(f2 b hb).2.2.2.1 with z|z
  exact I2.ok.gI b o e z;have h1:@LT.lt Nat _ b X.base.objs.size:=LD e;have h2:=I2.ok.je;lk;rcases LO.mp (I2.cj b z)with e|e
  exact(f2 b hb).2.1 e;exact(f2 b hb).2.2.1 e
 have I4:Inv (ai X (own ++ fr) scope (cellsFrom (C+1) scope.names cl) C fp s2 H2) [(acc,{ cls:=.type "list",data:=.seq ([]:List Value).toArray })] (bq own.length js U) H2 { s2 with heap:=h4 }:=by
  refine⟨ok,rfl,I2.bare,Un.kept old,⟨_,hns,λi x v e1 e2 e3=>?_⟩,λx c h=>?_,I2.hok.fresh (by show s2.heap.objs.size<=C;lk),λx c h=>(cM x c h).2.2.1,λp hp=>?_,I2.hok.kept old,?_⟩;have nA:(own ++ fr)[i]?=some x:=e1;unfold bq at e2;by_cases hi:i<own.length;rw[L0 (by simpa using hi),Ms]at e2;split at e2<;>cases e2;rw[LV (by simpa using hi),Mk,L3]at e2;rw[LV ⋯]at nA;cases hj:js[i-own.length]? with
  |none=>rw[hj]at e2;cases e2
  |some j =>
   rw[hj]at e2;have jh:U.getD j none=some v:=LH e2;have hN:X.N[j]?=some x:=by
    have q:=congrArg (λl=>l[i-own.length]?) S.ix;simp only[L3,hj,nA,Option.map_some]at q;exact LH q
   have hσ:U[j]?=some (some v):=by
    rw[MA]at jh;cases q:U[j]? with
    |none=>rw[q]at jh;cases jh
    |some o=>rw[q]at jh;exact congrArg some jh
   have hfr:scope.names.lookup x=some .free:=S.vH x (L6 nA);have hk:=S.free _ (PySem.mem_of_lookup hfr) rfl;obtain⟨m,_,hl⟩:=I2.loc;obtain⟨u,ru,lo⟩:=hl j x v hN hσ (by rcases hk with k|k;exact .inr (.inl k);exact .inr (.inr k));refine⟨u,ru,.inr ⟨?_,?_⟩⟩;rcases um scope X.env x with⟨_,e⟩|⟨k,q1,q2⟩
   rw[hfr]at e;cases e;rw[hfr]at q1;cases q1;have vJ:(compEnvC scope (cellsFrom (C+1) scope.names cl) C X.env).kindOf x=some (if(NameKind.free == .free && X.env.scope.kind == .function && X.env.kindOf x == some .cell)=true then .cell else .free):=q2;rw[show(ai X (own ++ fr) scope (cellsFrom (C+1) scope.names cl) C fp s2 H2).env.kindOf x=_ from vJ];split;exact .inl rfl;exact .inr rfl;rcases lo with⟨k,_⟩|⟨_,c,hc1,hc2⟩
   rcases hk with k'|k'<;>(rw[k]at k';cases k')
   obtain⟨d,hd1,hd2⟩:=jR x hfr;rw[hc1]at hd1;cases hd1;exact⟨c,hd2,hc2.keeps old⟩
  rcases lk x c h with⟨q,_,_⟩|⟨q,_⟩
  exact⟨_,q⟩;obtain⟨v,z⟩:=I2.cell x c q;exact⟨v,z.keeps old⟩;have e:p=(acc,{ cls:=.type "list",data:=.seq ([]:List Value).toArray }):=by simpa[ai]using hp
  subst e;refine⟨hacc,I2.hok.fresh ⋯,nu,λz=>?_,λv z=>nomatch z⟩;rcases LO.mp (I2.cj acc z)with e|e
  have:=ltN I2.lt
  rw[<- e]at this;lk;exact I2.oG ⋯ e;show(bq own.length js U).length=(own ++ fr).length;have q:=congrArg List.length S.ix;simp only[LG]at q;unfold bq;rw[LP,Mk,LG,LP,q]
 have nC:∀{H':Hp} {ob:Obj},(∀b∈fp,H' b=none)->∀b∈fp,bp (ai X (own ++ fr) scope (cellsFrom (C+1) scope.names cl) C fp s2 H2) [(acc,ob)] H' b:=λ{H' ob} hn b hb =>
  ⟨hn b hb,(lr b hb).1,λz=>by
   rcases LO.mp (I2.cj b z)with e|e
   exact(f2 b hb).2.1 e;exact(f2 b hb).2.2.1 e,.inl hb,λx c h=>(cM x c h).2.2.2 b hb,λp hp=>by
   have e:p=(acc,ob):=by simpa[ai]using hp
   subst e
   exactλz=>(lr b hb).2 z.symm⟩
 have loop:codeAny (model X.prog X.w) X.A (.compLoop (.ListComp elt [⟨tg,iter,ifs,0⟩] scope pos) 0 (.ref it) (.ref acc) (compEnvC scope (cellsFrom (C+1) scope.names cl) C X.env)) (RR (.ref acc) C) { s2 with heap:=h4 }:=by
  refine Dp (λm s'=>∃(i:Nat) (ys:List V) (its:List Value) (n:Nat) (U':St) (H':Hp),Inv (ai X (own ++ fr) scope (cellsFrom (C+1) scope.names cl) C fp s2 H2) [(acc,{ cls:=.type "list",data:=.seq its.toArray n })] U' H' s'/\Vals ys its/\tn i s'.heap/\(∀b∈fp,H' b=none)/\W i m ys U' H') ?_ m0
   ⟨0,[],[],0,_,H2,I4,.nil,T.keep _ _ _ st2 λb _ o e=>old b o e,λb hb=>(f2 b hb).1,w0⟩
  rintro n s5 ⟨i,ys,its,en,U5,H5,I5,rv,fQ,og,w5⟩;obtain⟨hz,alt⟩:=turn i n ys U5 H5 w5;rcases alt with⟨stop,qn⟩|⟨go,step⟩
  refine aP (T.done (ai X (own ++ fr) scope (cellsFrom (C+1) scope.names cl) C fp s2 H2) rfl rfl rfl hc i _ s5 U5 H5 _ I5 (nC og) fQ stop) λr s6 ⟨hr,I6⟩=>?_;subst hr;show RR (.ref acc) C (.ok .next) s6;have u:Un (frs X.stack) fp H2 H5 s2.heap s6.heap:=I6.base;have J6:Inv X pins U H5 s6:=I2.iS I6.os u I6.hok I6.bare λb hb=>⟨(f2 b hb).2.2.2.1,(f2 b hb).2.1,(f2 b hb).2.2.2.2.1,(f2 b hb).2.2.2.2.2⟩;have pacc:=I6.pin (acc,_) (LK _ LL);have nD:bp X pins H5 acc:=I2.fM ⋯ pacc.2.1;have fC:bp X pins H5 C:=I2.fM ⋯ I6.free;have K6:Inv X pins U (upd H5 acc (.lst ys)) s6:=J6.nt nD ⟨MG hz,its,en,rv,pacc.1⟩;obtain⟨m,hm,_⟩:=I6.loc;exact fin acc C _ s6 (.ref acc) rfl K6 ⟨by rw[bg nu.symm];exact fC.1,fC.2⟩ ⟨m,hm⟩ (qn acc pacc.2.1);refine aP (T.item (ai X (own ++ fr) scope (cellsFrom (C+1) scope.names cl) C fp s2 H2) rfl rfl rfl hc i _ s5 U5 H5 _ I5 (nC og) fQ go) λr s6 ⟨u,hr,h6⟩=>?_;subst hr;refine aP h6 λ_ s7 ⟨x,H7,I7,r7,y7,mH,vK⟩=>?_;have vL:=I7.pinned (nC vK) (T.obj _ _ mH);refine aP (hg _ _ _ _ _ _ s7 U5 H7 x u _ vL r7 (step x H7 y7)) λ_ s8 ⟨U8,H8,I8,q8⟩=>?_;refine aP (hf _ _ _ _ _ _ s8 U8 H8 _ I8 q8) λb s9 ⟨H9,I9,q9⟩=>?_;have lu:∀{s':Shared} {U':St} {H':Hp},Inv (ai X (own ++ fr) scope (cellsFrom (C+1) scope.names cl) C fp s2 H2) ([(acc,{ cls:=.type "list",data:=.seq its.toArray en })] ++ fu fp s7.heap) U' H' s'->tn (i+1) s'.heap/\∀b∈fp,H' b=none:=λ{s' U' H'} I' =>
   ⟨T.keep _ _ _ mH λb hb o e=>(I'.pin (b,o) (LK _ (LK _ (pK hb e)))).1,λb hb=>by
    obtain⟨o,e,d⟩:=T.obj _ _ mH b hb
    exact(I'.pin (b,o) (LK _ (LK _ (pK hb e)))).2.1⟩
  cases b with
  |false =>
   obtain⟨m',hm,w9⟩:=q9;exact⟨m',hm,i+1,ys,its,en,U8,H9,I9.cX,rv,(lu I9).1,(lu I9).2,w9⟩
  |true =>
   refine aP (he _ _ _ _ _ _ s9 U8 H9 _ I9 q9) λy l6 ⟨yv,nE,kh,vM,m',hm,vN⟩=>?_;have pacc:=kh.pin (acc,_) (LK _ (Mm _ LL));have hlen:=rv.length;refine wpAny_list_append_plain (items:=its.toArray) ⟨en,pacc.1⟩ (λh11 ⟨pV,nF⟩ jS=>?_) (by simp only[LU];lk);have cA:∀x c,(cellsFrom (C+1) scope.names cl).lookup x=some c->c≠acc:=λx c h=>(cM x c h).2.1;have Ia:Inv (ai X (own ++ fr) scope (cellsFrom (C+1) scope.names cl) C fp s2 H2) [] U8 nE l6:=kh.cL λp hp=>nomatch hp;have Ib:Inv (ai X (own ++ fr) scope (cellsFrom (C+1) scope.names cl) C fp s2 H2) [] U8 nE { l6 with heap:=h11 }:=Ia.turned (it:=acc) (t':=l6.toks) (λb o hb e=>(jS.2 b hb).trans e) pacc.2.1 nu (.inr (by show s2.heap.objs.size<=acc;lk)) cA λp hp=>nomatch (show p∈([]:List (Addr×Obj))from by simpa[ai]using hp);refine⟨m',hm,i+1,ys ++ [yv],its ++ [y],pV,U8,nE,Ib.cL λp hp=>?_,rv.append (.cons vM .nil),T.keep _ _ _ (lu kh).1 λb hb o e=>(jS.2 b (lr b hb).2).trans e,(lu kh).2,vN⟩;have e:p=(acc,{ cls:=.type "list",data:=.seq (its ++ [y]).toArray pV }):=by simpa using hp
   subst e;exact⟨by simpa using nF,pacc.2.1,pacc.2.2.1,pacc.2.2.2.1,λv z=>nomatch z⟩
 exact codeAny_compStart_list loop (T.self X.A 0 _ _ _ (T.keep _ _ _ st2 λb _ o e=>old b o e) loop)
def HR{hx:Addr}(hc:X.A.handled=some (.ref hx))(S:bH X scope own fr js)(hi:D8 hx X tg iter wi)(hg:∀cells C fp s H,PG (ai X (own ++ fr) scope cells C fp s H) tg g)(hf:∀cells C fp s H,PF (ai X (own ++ fr) scope cells C fp s H) ifs tc)(he:∀cells C fp s H,PE (ai X (own ++ fr) scope cells C fp s H) elt te)
  (hs:∀x,foldedSetIterable iter X.env x=pure x:=by intro _;rfl):PE X (.ListComp elt [⟨tg,iter,ifs,0⟩] scope pos) (gA wi own.length js g tc te):=by
 intro pins s U H Q I h;obtain⟨cl,hcl,c5,fX⟩:=yL (scope:=scope) (env:=X.env) λy hy hk=>I.ok.has y.1 (S.free y hy hk);rw[eval_ListComp];refine wpAny_comprehension_free (use:=none) rfl hs hcl S.kind (λy hy hk=>by rw[<- hk];exact nr S.mG hy) (aP (hi pins s U H _ I h) λv s1 h1=>aP h1 λitv s2 h2=>?_);obtain⟨it,fp,tn,J,H2,e,I2,T,st2,f2,W,⟨m0,w0⟩,turn⟩:=h2;subst e;refine HQ (RR:=λacc C=>compPost (model X.prog X.w) X.A X.xe none (EP X pins U Q) acc C) hc S hg hf he I2 T st2 f2 c5 fX W m0 w0 turn ?_;intro acc C H' s' v hv I' fC ⟨m,hm⟩ q;subst hv;obtain⟨f0,f1,yN,f3,f4,f5⟩:=fC;exact⟨m,hm,λh'' ji=>⟨.ref acc,H',I'.turned (it:=C) (t':=s'.toks) (λb o hb e=>(ji.2 b hb).trans e) f0 f1 f3 f4 f5,rfl,q⟩⟩
end
structure b7(hx:Addr)(k:Nat)(A:Around):Prop where
 hd:A.handled=some (.ref hx)
 dp:A.depth+3*k+5<recursionLimit
 un:A.units+16*k+200<cLine
 gd:A.guards=some []
def b7.mono{hx:Addr}{j k:Nat}{A:Around}(r:b7 hx k A)(h:j<=k):b7 hx j A:=⟨r.hd,by have:=r.dp;lk,by have:=r.un;lk,r.gd⟩
def b7.deeper{hx:Addr}{k:Nat}{A:Around}(r:b7 hx (k+1) A)(env:Env):b7 hx k (A.deeper env) :=
 ⟨r.hd,by have:=r.dp;show A.depth+1+3*k+5<_;lk,by have:=r.un;show A.units+3+16*k+200<_;lk,r.gd⟩
def b7.depth{hx:Addr}{k:Nat}{A:Around}(r:b7 hx k A):A.depth<recursionLimit:=by have:=r.dp;lk
def b7.units{hx:Addr}{k:Nat}{A:Around}(r:b7 hx k A):A.units+64<cLine:=by have:=r.un;lk
def bL.held{k:Nat}{A:Around}(r:bL k A)(a:Addr):b7 a k (A.mark (some (.ref a))):=⟨rfl,r.dp,r.un,r.gd⟩
@[reducible]def hV(CX:iY)(P:Program)(w:World)(K:Zfr)(mg:Str->Option Value)(base:Heap)(N:List Str)(qual:Str)(scope:Scope)(f:Addr)(cd:Value)(A:Around)(outer:List Env)(s:Shared)(H:Hp)(E:XK):Cx :=
 { bC CX P w K mg base N qual scope f cd A outer s H E with calm:=false }
structure gB(hx:Addr)(P:Program)(w:World)(K:Zfr)(mg:Str->Option Value)(base:Heap)(CX:iY)(k:Nat)(f:Addr)(fd:FuncData)(ps:List Str)(sp:Sp):Prop where
 len:∀vs H Q E,sp vs H Q E->vs.length=ps.length
 run:∀(A:Around) (outer:List Env) (s:Shared) (H:Hp) (args:Args) (us:List Value) (vs:List V) (Q:VK) (E:XK),b7 hx k A->jf P w K mg base A outer s H->BindsTo s fd args (ps.zip us)->Vals vs us->sp vs H Q E ->
  codeAny (model P w) A (.call (.ref f) args) (CR CX outer P w H s Q E) s
def HS{CX:iY}{P:Program}{w:World}{K:Zfr}{mg:Str->Option Value}{base:Heap}{N ps:List Str}{qual:Str}{scope:Scope}{f:Addr}{cd:Value}{A:Around}{outer:List Env}{s s1:Shared}{H:Hp}{E:XK}{us:List Value}{vs:List V}
  (S:aA N ps scope) (e0:jf P w K mg base A outer s H) (hl:vs.length=ps.length) (r:Vals vs us)
  (x:InCallC s s.heap.objs.size (bindL (envOfC qual scope s.heap.objs.size f cd).kindOf (ps.zip us) λ_=>none) (cellsFrom (s.heap.objs.size+1) scope.names []) (bindC (envOfC qual scope s.heap.objs.size f cd).kindOf (ps.zip us) λ_=>none) s1) :
  Inv (hV CX P w K mg base N qual scope f cd A outer s H E) [] (start N vs) H s1:=by
 have hpl:ps.length<=N.length:=by have:=congrArg List.length S.pre;rw[LW]at this;lk
 obtain⟨h1,tk,rfl,hk⟩:=x.done;have oO:∀b:Addr,b ∉ (hV CX P w K mg base N qual scope f cd A outer s H E).ex:=λb z=>absurd (show b∈([]:List Addr)from z) (by simp)
 refine⟨⟨e0.mod,S.kind,rfl,rfl,LI _,λy z c h1 h2=>?_,λy hy=>?_,λy c _ h=>?_,λz=>(nomatch z),Around.frames_deeper e0.frames,.inr ⟨rfl,rfl⟩,λb z=>absurd z (oO b),e0.bs,e0.je,λb _ _=>oO b,λb z=>absurd z (oO b),e0.eX,e0.mR⟩,
  rfl,e0.bare,Un.kept hk,⟨_,x.toInCall.ns,λi y v h1 h2 h3=>?_⟩,λy c h=>⟨_,x.cell y c h⟩,e0.hok.fresh (LI _),λy c h=>?_,λp hp=>absurd (show p∈([]:List (Addr×Obj))from hp) (by simp),e0.hok.kept hk,?_⟩
 exact name_of_addr x.apart (PySem.mem_of_lookup h1) (PySem.mem_of_lookup h2);have hy:scope.names.lookup y=some .cell\/scope.names.lookup y=some .free:=hy;rcases hy with hy|hy
 exact yE hy;exact absurd rfl (S.ng _ (PySem.mem_of_lookup hy));exact MG (x.above y c (PySem.mem_of_lookup h));have hi:i < vs.length:=by
  unfold start at h2;by_cases hi:i<vs.length;exact hi;rw[LV (by simpa using hi)]at h2;rw[Ms]at h2;split at h2<;>cases h2
 have ha:vs[i]?=some v:=by
  unfold start at h2;rw[L0 (by simpa using hi),L3]at h2;cases e:vs[i]? with
  |none=>rw[e]at h2;cases h2
  |some a=>rw[e]at h2;cases h2;rfl
 obtain⟨u,hu,rv⟩:=r.get ha;have hp:ps[i]?=some y:=by
  rw[<- S.pre,List.getElem?_take_of_lt ⋯];exact h1
 have vt:ps.Nodup:=by rw[<- S.pre];exact S.nd.sublist (List.take_sublist _ _)
 refine⟨u,rv,?_⟩;rcases S.par y (L6 hp)with k|k
 exact .inl ⟨k,Ao vt hp hu k⟩;obtain⟨c,e⟩:=yE (n:=s.heap.objs.size+1) k;refine .inr ⟨.inl k,c,e,?_⟩;have q:=x.cell y c e;rw[Ap vt hp hu (by show scope.names.lookup y≠_;rw[k];decide)]at q;exact q;exact e0.hok.fresh (MG (x.above y c (PySem.mem_of_lookup h)));unfold start;show _=N.length;rw[LP,LG,Mk];lk
def rP{hx:Addr}{CX:iY}{P:Program}{w:World}{K:Zfr}{mg:Str->Option Value}{base:Heap}{k:Nat}{f:Addr}{name qual:Str}{params:Arguments}{body:List Stmt}{scope:Scope}{dV kV doc pm cdv ct oc:Value}{an od:Option Addr}
  {osl:Array (Option Value)} {N ps:List Str} {sp:Sp} (lk:K.lookup f=some ⟨oc,od,.func (PySem.W.fnOf name qual params body scope dV kV doc pm an cdv ct),osl⟩) (hcd:PySem.W.codeIn K cdv qual=true) (S:aA N ps scope)
  (len:∀vs H Q E,sp vs H Q E->vs.length=ps.length)
  (hbody:∀(A:Around) (outer:List Env) (s:Shared) (H:Hp) (vs:List V) (Q:VK) (E:XK),b7 hx k (A.deeper (envOfC qual scope s.heap.objs.size f cdv))->sp vs H Q E ->
   ∃t,iT (hV CX P w K mg base N qual scope f cdv A outer s H E) body t/\t { nx:=λ_ H'=>Q .non H',rt:=Q } (start N vs) H) :
  gB hx P w K mg base CX (k+1) f (PySem.W.fnOf name qual params body scope dV kV doc pm an cdv ct) ps sp:=by
 refine⟨len,λA outer s H args us vs Q E hr e0 hb r jP=>?_⟩;have hl:=len _ _ _ _ jP;have KX:K.In s.heap:=e0.mod.oF.keeps λb o e=>(e0.bs b o e).1;have lim:s.heap.NoLimit:=e0.mod.nolimit.keeps λb o e=>(e0.bs b o e).1;have hkind:∀y∈ps.zip us,scope.names.lookup y.1=some .local\/(scope.names.lookup y.1=some .cell/\((cellsFrom (s.heap.objs.size+1) scope.names []).lookup y.1).isSome=true):=λ⟨n,v⟩ hy=>by
  rcases S.par n (M3 hy).1 with q|q
  ·exact .inl q
  ·exact .inr ⟨q,PySem.W.cellsFrom_some _ _ _ (.inl q)⟩
 refine codeAny_call_function hr.depth (KX _ _ lk) rfl S.co S.gen rfl (PySem.W.codeRec_of KX hcd) (hb _ _ _ _ ?_);refine wpAny_newFunctionEnv_cells S.kind hkind λenv he s1 x=>?_;subst he;refine⟨lim.keeps x.toInCall.keep,codeAny_func ?_⟩;obtain⟨t,ht,hq⟩:=hbody A outer s H vs Q E (hr.deeper _) jP;have I:Inv (hV CX P w K mg base N qual scope f cdv A outer s H E) [] (start N vs) H s1:=HS S e0 hl r x;refine wpAny_mono (ht [] s1 (start N vs) H _ I hq) (λfl s' hs=>?_) λe s' hs=>hs;have fin:∀{U':St} {H':Hp} {v:V} {u:Value},Inv (hV CX P w K mg base N qual scope f cdv A outer s H E) [] U' H' s'->RelV v u->Q v H'->CE outer P w H s Q u s' :=
  λ{U' H' v u} J rv q=>⟨v,H',J.os,J.bare,J.base,J.hok,rv,q⟩
 cases fl with
 |ret u =>
  obtain⟨v,U',H',J,rv,q⟩:=hs;exact fin J rv q
 |next =>
  obtain⟨U',H',J,q⟩:=hs;exact fin (v:=V.non) (u:=Value.none) J rfl q
 |brk =>
  obtain⟨_,_,_,q⟩:=hs;exact False.elim q
 |cont =>
  obtain⟨_,_,_,q⟩:=hs;exact False.elim q
section
variable {X:Cx}{CX:iY}{k:Nat}{f C:Addr}{fd:FuncData}{ps:List Str}{sp:Sp}{jO:List V}{ds:List Value}{E:XK}{x m:Str}{p pos apos:Pos}{e o:Expr}{es:List Expr}{ta:TE}{t:TA}
def HU{hx:Addr}{pins:List (Addr×Obj)}{U:St}{H:Hp}{s:Shared}{Q:VK}{us:List Value}{vs:List V}(F:gB hx X.prog X.w X.K X.mg X.base CX k f fd ps sp)(hr:b7 hx k X.A)(hb:Binds X.K fd ps ds)(hd:Vals jO ds)(hp:Passes CX X E)
  (I:Inv X pins U H s) (r:Vals vs us) (h:sp (vs ++ jO) H Q E):wpAny (model X.prog X.w) X.A (call (.ref f) us) (EP X pins U Q) X.xe s:=by
 have r2:Vals (vs ++ jO) (us ++ ds):=r.append hd;have hl:(us ++ ds).length=ps.length:=by rw[<- r2.length];exact F.len _ _ _ _ h
 refine wpAny_call (codeAny_mono (F.run X.A X.stack s H ⟨us,[]⟩ (us ++ ds) (vs ++ jO) Q E hr I.oN (hb s us I.iG hl) r2 h) λr s' hq=>?_);cases r with
 |error e=>exact hp pins U H s e s' I hq
 |ok fl =>
  cases fl with
  |ret u=>exact I.after hq
  |next=>exact False.elim hq
  |brk=>exact False.elim hq
  |cont=>exact False.elim hq
def D9{hx:Addr}(F:gB hx X.prog X.w X.K X.mg X.base CX k f fd ps sp)(hr:b7 hx k X.A)(hg:Gl X x)(hm:X.mg x=some (.ref f))(hk:PySem.W.keepIn X.K (.ref f)=true)(hb:Binds X.K fd ps ds)(hd:Vals jO ds)(hp:Passes CX X E)
  (ha:PA X (e :: es) t) (hdb:(x == ("__debug__" : Str))=false:=by decide) (he:starEach (e :: es) X.env=(false,eval e X.env) :: starEach es X.env:=by rfl) (hpl:(backTo pos (starEach es X.env)).any (·.1)=false:=by rfl) :
  PE X (.Call (.Name x p) (e :: es) [] pos) (g8 sp jO E t):=by
 intro pins s U H Q I h;refine wpAny_Call_Name_kw (qK I hg hm ?_ hdb);refine PySem.W.callWith_K (h₀:=X.base) I.ok.mod.oF hk (aP (ha pos pins s U H _ I h) λus s1 ⟨vs,H1,I1,r,q⟩=>⟨I1.iG,?_⟩) he hpl;exact HU F hr hb hd hp I1 r q
end
section
variable {P:Program}{w:World}{K:Zfr}{mg:Str->Option Value}{base:Heap}
def mE.Ea{hx:Addr}{x qual:Str}{st:Stmt}{f:Addr}{fd:FuncData}{N ps:List Str}{k:Nat}{sp:Sp}(F:mE K x qual st f fd)(S:aA N ps (aq st))(len:∀vs H Q E,sp vs H Q E->vs.length=ps.length)
  (hbody:∀(cdv:Value) (A:Around) (outer:List Env) (s:Shared) (H:Hp) (vs:List V) (Q:VK) (E:XK),b7 hx k (A.deeper (envOfC qual (aq st) s.heap.objs.size f cdv))->sp vs H Q E ->
   ∃t,iT (hV dm P w K mg base N qual (aq st) f cdv A outer s H E).lg (bU st) t/\t { nx:=λ_ H'=>Q .non H',rt:=Q } (start N vs) H):gB hx P w K mg base dm (k+1) f fd ps sp:=by
 obtain⟨oc,od,kV,doc,pm,an,cdv,ct,osl,rfl,lk,hcd⟩:=F.ex;refine rP lk hcd S len λA outer s H vs Q E hr jP=>?_;obtain⟨t,h,q⟩:=hbody cdv A outer s H vs Q E hr jP;exact⟨t,h.lg,q⟩
end
abbrev qa(K:Zfr)(tb:(St->Addr->Hp->Prop)->TS)(F:Addr)(i:Nat)(ts:Addr->TS):TS:=λD U H =>
 tb (λU1 a H1=>∃C dx tr,H1 a=some (XO a C dx tr)/\PySem.W.mroIn K C (.ref F)=some true /\
  (ts a) { nx:=λU2 H2=>D.nx (U2.set i none) H2,bk:=λU2 H2=>D.bk (U2.set i none) H2,ct:=λU2 H2=>D.ct (U2.set i none) H2,rt:=D.rt } (U1.set i (some (.ref a))) H1) D U H
section
variable {X:Cx}{i:Nat}{x n:Str}{F fI:Addr}{bmB:List Value}{newId:String}{tb:(St->Addr->Hp->Prop)->TS}{body suite:List Stmt}{b0:Stmt}{np hpos pos:Pos}
def HV{ts:Addr->TS}(hx:X.mg x=some (.ref F))(hF:fx X.K F bmB newId fI=true)(HW:bmB.contains (.type "BaseException")=true)(hg:Gl X x)(hN:X.N.Nodup)(hi:X.N[i]?=some n)(hk:X.env.scope.names.lookup n=some .local)(hb:∀pins W,iT (X.tr pins W) body (tb W))(HX:∀a,iT (X.held a) (b0 :: suite) (ts a))
  (hst:X.stack=X.env :: X.outer:=by rfl) (hf:X.env.frame=some X.env.locals:=by rfl) (hdb:(x == ("__debug__" : Str))=false:=by decide) :
  PS X (.Try body [.ExceptHandler (some (.Name x np)) (some n) (b0 :: suite) hpos] [] [] pos) (qa X.K tb F i ts):=by
 intro pins s U H D I h;refine wpAny_Try_except (wpAny_mono (hb pins _ [] s U H D I.tr h) (λf s1 q=>?_) λe s1 q=>?_)
 ·cases f with
  |next=>exact wpAny_pure q.gO
  |brk=>exact q.gO
  |cont=>exact q.gO
  |ret u=>exact q.gO
 ·obtain⟨U1,H1,a,C,dx,rfl,I1,x1,w1⟩:=q
  refine Inv.noted I1 hst hf I1.ok.frames x1 λh2 H2 xs x2 I2=>?_;obtain⟨C',uo,tr,e2,hm,q2⟩:=w1 H2 xs;obtain⟨oe,vs,he,hc,_⟩:=XO.of I2.hok e2;refine wpAny_handleBy_cons (codeAny_handlers_test (qK (X:=X.held a) I2.held hg hx ?_ hdb)) (by intro z;cases z);refine A8 I2.iG he hc hF HW hm ?_;refine codeAny_handlers_suite_as (Inv.flight I2 x2 λh3 I3=>uZ (X:=X.held a) (v:=.ref a) I3.held hN hi (.inl hk) rfl (λs4 I4=>?_) (.inr hk));refine wpAny_mono (HX a pins s4 _ H2 _ I4 q2) (λf s5 q5=>?_) λ_ _ z=>z.elim;cases f with
  |next=>obtain⟨U6,H6,I6,q6⟩:=q5;exact Inv.unbind (I6.jm I.ok) hN hi hk λs7 I7=>⟨_,H6,I7,q6⟩
  |brk=>obtain⟨U6,H6,I6,q6⟩:=q5;exact Inv.unbind (I6.jm I.ok) hN hi hk λs7 I7=>⟨_,H6,I7,q6⟩
  |cont=>obtain⟨U6,H6,I6,q6⟩:=q5;exact Inv.unbind (I6.jm I.ok) hN hi hk λs7 I7=>⟨_,H6,I7,q6⟩
  |ret u=>obtain⟨v,U6,H6,I6,r6,q6⟩:=q5;exact Inv.unbind (I6.jm I.ok) hN hi hk λs7 I7=>⟨v,_,H6,I7,r6,q6⟩
end
end L2
namespace hW
abbrev upto(n:Nat):List Int:=(List.range n).map λ(k:Nat)=>(k:Int)
end hW
namespace hW
abbrev app(xs:List Int)(i:Int):Int:=xs.getD i.toNat 0
abbrev Eb(xs:List Int)(i:Int):Nat->Int
 |0=>i
 |j+1=>app xs (Eb xs i j)
abbrev row(xs:List Int)(i:Int)(m:Nat):List Int:=(List.range (m+1)).map (Eb xs i)
end hW
namespace hW
end hW
namespace hW
end hW
namespace hW
end hW
namespace hW
end hW
namespace hW
end hW
namespace hW
abbrev odd(n:Nat):Bool:=n % 2 == 1
abbrev tb(l:Int->Nat)(p:Int->Int)(a b:Int):Bool:=if l a=l b\/l (p a)=l (p b)then false else(decide (l a<l b)).xor (decide (l (p a)<l (p b)))
end hW
namespace hW
end hW
namespace hW
@[reducible]def Sp:=Bool×Int
def t3{k:Int}(h:1<=k/\k<=3):k=1\/k=2\/k=3:=by lk
end hW
namespace hW
end hW
namespace L4
open PySem PySem.Spec L2
inductive D where
 |non|bl (b:Bool)|int (i:Int)|str (x:Str)|ty (n:String)|tup (ds:List D)|ref (i:Nat)
instance:Inhabited D:=⟨.non⟩
inductive O where
 |lst (ds:List D)|jT (ds:List D)|dct (kvs:List (Key×D))|wk (kvs:List (List Int×D))|wm (kvs:List (List Key×D))|exc (c:Str) (fs:List (Str×D))|any|jE (lo hi:Int)
@[reducible]def Store:=List O
@[reducible]def af:=List (Option D)
@[reducible]def Dm(J:Type):=Store->Option (J×Store)
inductive Fl where
 |nx (I:af)|bk (I:af)|ct (I:af)|rt (d:D)
mutual
inductive Rp(K:Zfr)(L:List Addr)(H:Hp):V->D->Prop
 |non:Rp K L H .non .non
 |bl (b:Bool):Rp K L H (.bl b) (.bl b)
 |int (i:Int):Rp K L H (.int i) (.int i)
 |str (x:Str):Rp K L H (.str x) (.str x)
 |ty (n:String):Rp K L H (.ty n) (.ty n)
 |ref {a:Addr} {i:Nat}:L[i]?=some a->Rp K L H (.ref a) (.ref i)
 |tup {a:Addr} {vs:List V} {ds:List D}:ej K H a vs->bj K L H vs ds->Rp K L H (.ref a) (.tup ds)
inductive bj(K:Zfr)(L:List Addr)(H:Hp):List V->List D->Prop
 |nil:bj K L H [] []
 |cons {v:V} {vs:List V} {d:D} {ds:List D}:Rp K L H v d->bj K L H vs ds->bj K L H (v :: vs) (d :: ds)
end
structure Mn(K:Zfr)(L:List Addr)(H:Hp)(L':List Addr)(H':Hp):Prop where
 r:∀(i:Nat) (a:Addr),L[i]?=some a->L'[i]?=some a
 t:∀a vs,ej K H a vs->ej K H' a vs
 f:∀a o u,H a=some (.gR o u)->H' a=some (.gR o u)
 x:∀a ws,H a=some (.xd ws)->H' a=some (.xd ws)
section
variable {K:Zfr}{L L' L2:List Addr}{H H' H2:Hp}
def Mn.refl:Mn K L H L H:=⟨λ_ _ h=>h,λ_ _ h=>h,λ_ _ _ h=>h,λ_ _ h=>h⟩
def Mn.trans(m:Mn K L H L' H')(n:Mn K L' H' L2 H2):Mn K L H L2 H2:=⟨λi a h=>n.r i a (m.r i a h),λa vs h=>n.t a vs (m.t a vs h),λa o u h=>n.f a o u (m.f a o u h),λa ws h=>n.x a ws (m.x a ws h)⟩
mutual
theorem Rp.mn(m:Mn K L H L' H'):∀{v:V} {d:D},Rp K L H v d->Rp K L' H' v d
 |_,_,.non=>.non
 |_,_,.bl b=>.bl b
 |_,_,.int i=>.int i
 |_,_,.str x=>.str x
 |_,_,.ty n=>.ty n
 |_,_,.ref e=>.ref (m.r _ _ e)
 |_,_,.tup q r=>.tup (m.t _ _ q) (bj.mn m r)
theorem bj.mn(m:Mn K L H L' H'):∀{vs:List V} {ds:List D},bj K L H vs ds->bj K L' H' vs ds
 |_,_,.nil=>.nil
 |_,_,.cons a b=>.cons (Rp.mn m a) (bj.mn m b)
end
def bj.length:∀{vs:List V} {ds:List D},bj K L H vs ds->vs.length=ds.length
 |_,_,.nil=>rfl
 |_,_,.cons _ r=>by rw[LZ,LZ,r.length]
def bj.got:∀{vs:List V} {ds:List D},bj K L H vs ds->∀{i:Nat} {d:D},ds[i]?=some d->∃v,vs[i]?=some v/\Rp K L H v d
 |_,_,.nil,i,v,e=>by simp at e
 |_,_,.cons (v:=v) a b,0,d,e=>⟨v,by simp,by have:_=d:=LH (by simpa using e);rw[<- this];exact a⟩
 |_,_,.cons a b,i+1,d,e=>by
  obtain⟨v,e1,r⟩:=bj.got b (i:=i) (by simpa using e);exact⟨v,by simpa using e1,r⟩
def bj.append:∀{vs:List V} {ds:List D} {ws:List V} {es:List D},bj K L H vs ds->bj K L H ws es->bj K L H (vs ++ ws) (ds ++ es)
 |_,_,_,_,.nil,s=>s
 |_,_,_,_,.cons a b,s=>.cons a (bj.append b s)
def bj.one{v:V}{d:D}(r:Rp K L H v d):bj K L H [v] [d]:=.cons r .nil
def bj.take:∀{vs:List V} {ds:List D} (n:Nat),bj K L H vs ds->bj K L H (vs.take n) (ds.take n)
 |_,_,0,_=>.nil
 |_,_,_+1,.nil=>.nil
 |_,_,n+1,.cons r t=>.cons r (bj.take n t)
def bj.drop:∀{vs:List V} {ds:List D} (n:Nat),bj K L H vs ds->bj K L H (vs.drop n) (ds.drop n)
 |_,_,0,r=>r
 |_,_,_+1,.nil=>.nil
 |_,_,n+1,.cons _ t=>bj.drop n t
def bj.set{v:V}{d:D}(r:Rp K L H v d):∀{vs:List V} {ds:List D} (i:Nat),bj K L H vs ds->bj K L H (vs.set i v) (ds.set i d)
 |_,_,_,.nil=>.nil
 |_,_,0,.cons _ t=>.cons r t
 |_,_,i+1,.cons q t=>.cons q (bj.set r i t)
def bj.reverse:∀{vs:List V} {ds:List D},bj K L H vs ds->bj K L H vs.reverse ds.reverse
 |_,_,.nil=>.nil
 |_,_,.cons r t=>by rw[MQ,MQ];exact(bj.reverse t).append (.one r)
def bj.ints:∀(ns:List Int),bj K L H (ns.map V.int) (ns.map D.int)
 |[]=>.nil
 |n :: r=>.cons (.int n) (bj.ints r)
end
abbrev Rs(K:Zfr)(L:List Addr)(H:Hp)(U:St)(I:af):Prop:=U.length=I.length/\∀(i:Nat) (d:D),I[i]?=some (some d)->∃v,U[i]?=some (some v)/\Rp K L H v d
abbrev Rk(K:Zfr)(L:List Addr)(H:Hp):List (Key×V)->List (Key×D)->Prop:=Paired λp q=>p.1=q.1/\Rp K L H p.2 q.2
abbrev Ru(K:Zfr)(L:List Addr)(H:Hp):List (List Int×D)->List (List Int×Addr×Value)->Prop:=Paired λq x=>q.1=x.1/\ej K H x.2.1 (x.1.map V.int)/\∃v,RelV v x.2.2/\Rp K L H v q.2
abbrev Rt(K:Zfr)(L:List Addr)(H:Hp):List (List Key×V)->List (List Key×D)->Prop:=Paired λp q=>p.1=q.1/\Rp K L H p.2 q.2
abbrev Xd(K:Zfr)(L:List Addr)(H:Hp):Option Addr->List (Str×D)->Prop
 |none,fs=>fs=[]
 |some d,fs=>∃ws,H d=some (.xd ws)/\∀f e,fs.lookup f=some e->∃v,ws.lookup f=some v/\Rp K L H v e
abbrev uq(K:Zfr)(L:List Addr)(H:Hp)(a:Addr):O->Prop
 |.lst ds=>∃vs,H a=some (.lst vs)/\bj K L H vs ds
 |.jT ds=>∃vs,vE K H a vs/\bj K L H vs ds
 |.dct kvs=>∃ws,H a=some (.dK ws)/\Rk K L H ws kvs
 |.wk kvs=>∃xs,H a=some (DU a xs)/\Ru K L H kvs xs
 |.wm kvs=>∃ws,H a=some (.dT ws)/\Rt K L H ws kvs
 |.exc c fs=>∃C dx tr,PySem.W.nsIn K mainGlobals c=some (some (.ref C))/\H a=some (XO a C dx tr)/\Xd K L H dx fs
 |.any=>True
 |.jE lo hi=>H a=some (.jE lo hi)
abbrev O.mut:O->Bool
 |.jT _=>false
 |.any=>false
 |_=>true
structure Rl(K:Zfr)(L:List Addr)(H:Hp)(st:Store):Prop where
 len:L.length=st.length
 nd:∀(i j:Nat) (a:Addr) (o o':O),L[i]?=some a->L[j]?=some a->st[i]?=some o->st[j]?=some o'->o.mut=true->o'.mut=true->i=j
 obj:∀(i:Nat) (a:Addr) (o:O),L[i]?=some a->st[i]?=some o->uq K L H a o
section
variable {K:Zfr}{L L' L2:List Addr}{H H' H2:Hp}{st st':Store}{a p:Addr}{i:Nat}{o o':O}{ho:HO}{U:St}{I:af}
def Rs.mn(h:Rs K L H U I)(m:Mn K L H L' H'):Rs K L' H' U I:=⟨h.1,λi d e=>let ⟨v,e1,r⟩:=h.2 i d e;⟨v,e1,r.mn m⟩⟩
def Rk.mn(m:Mn K L H L' H'){ws:List (Key×V)}{kvs:List (Key×D)}(h:Rk K L H ws kvs):Rk K L' H' ws kvs:=by
 induction h with
 |nil=>exact .nil
 |cons a _ ih=>exact .cons ⟨a.1,a.2.mn m⟩ ih
def Ru.mn(m:Mn K L H L' H'){kvs:List (List Int×D)}{xs:List (List Int×Addr×Value)}(h:Ru K L H kvs xs):Ru K L' H' kvs xs:=by
 induction h with
 |nil=>exact .nil
 |cons a _ ih=>obtain⟨a1,a2,v,a3,a4⟩:=a;exact .cons ⟨a1,m.t _ _ a2,v,a3,a4.mn m⟩ ih
def Rt.mn(m:Mn K L H L' H'){ws:List (List Key×V)}{kvs:List (List Key×D)}(h:Rt K L H ws kvs):Rt K L' H' ws kvs:=by
 induction h with
 |nil=>exact .nil
 |cons a _ ih=>exact .cons ⟨a.1,a.2.mn m⟩ ih
def Xd.mn(m:Mn K L H L' H'){dx:Option Addr}{fs:List (Str×D)}(h:Xd K L H dx fs):Xd K L' H' dx fs:=by
 cases dx with
 |none=>exact h
 |some d=>obtain⟨ws,e,q⟩:=h;exact⟨ws,m.x _ _ e,λf e' z=>let ⟨v,z1,z2⟩:=q f e' z;⟨v,z1,z2.mn m⟩⟩
def uq.keep(m:Mn K L H L' H')(h:∀u,H a=some u->H' a=some u)(r:uq K L H a o):uq K L' H' a o:=by
 cases o with
 |lst ds=>obtain⟨vs,e,q⟩:=r;exact⟨vs,h _ e,q.mn m⟩
 |jT ds =>
  obtain⟨vs,e,q⟩:=r;refine⟨vs,?_,q.mn m⟩;rcases e with⟨u,e⟩|e
  exact .inl ⟨u,h _ e⟩;exact .inr e
 |dct kvs=>obtain⟨ws,e,q⟩:=r;exact⟨ws,h _ e,q.mn m⟩
 |wk kvs=>obtain⟨ws,e,q⟩:=r;exact⟨ws,h _ e,q.mn m⟩
 |wm kvs=>obtain⟨ws,e,q⟩:=r;exact⟨ws,h _ e,q.mn m⟩
 |exc c fs=>obtain⟨C,dx,tr,n,e,q⟩:=r;exact⟨C,dx,tr,n,h _ e,q.mn m⟩
 |any=>trivial
 |jE lo hi=>exact h _ r
def Mn.same(s:cY H H'):Mn K L H L H':=⟨λ_ _ h=>h,λ_ _ h=>(Kp.of_same (ch:=[]) s).AE h,λ_ _ _ h=>s _ _ h,λ_ _ h=>s _ _ h⟩
def Rl.same(l:Rl K L H st)(s:cY H H'):Rl K L H' st:=⟨l.len,l.nd,λi a o h1 h2=>(l.obj i a o h1 h2).keep (Mn.same s) λu e=>s _ _ e⟩
def Rl.at(l:Rl K L H st)(h1:L[i]?=some a)(h2:st[i]?=some o)(hm:o.mut=true):∃u,H a=some u/\∀x y,u≠.gR x y:=by
 have r:=l.obj i a o h1 h2;cases o with
 |lst ds=>obtain⟨vs,e,_⟩:=r;exact⟨_,e,λx y z=>nomatch z⟩
 |jT ds=>cases hm
 |dct kvs=>obtain⟨ws,e,_⟩:=r;exact⟨_,e,λx y z=>nomatch z⟩
 |wk kvs=>obtain⟨ws,e,_⟩:=r;exact⟨_,e,λx y z=>by cases z⟩
 |wm kvs=>obtain⟨ws,e,_⟩:=r;exact⟨_,e,λx y z=>nomatch z⟩
 |exc c fs=>obtain⟨C,dx,tr,_,e,_⟩:=r;exact⟨_,e,λx y z=>by cases z⟩
 |any=>cases hm
 |jE lo hi=>exact⟨_,r,λx y z=>nomatch z⟩
def Mn.new(hp:H p=none):Mn K L H (L ++ [p]) (upd H p ho):=⟨λi a h=>by
  obtain⟨hi,_⟩:=LN.mp h
  rw[L0 hi];exact h,λ_ _ h=>(Kp.of_same (ch:=[]) (cY.up hp)).AE h,λ_ _ _ h=>cY.up hp _ _ h,λ_ _ h=>cY.up hp _ _ h⟩
def Rl.new(l:Rl K L H st)(hp:H p=none)(mk:uq K (L ++ [p]) (upd H p ho) p o):Rl K (L ++ [p]) (upd H p ho) (st ++ [o]):=by
 have m:Mn K L H (L ++ [p]) (upd H p ho):=Mn.new hp;have split:∀(i:Nat) (a:Addr) (o':O),(L ++ [p])[i]?=some a->(st ++ [o])[i]?=some o'->(L[i]?=some a/\st[i]?=some o')\/(i=L.length/\a=p/\o'=o):=λi a o' h1 h2=>by
  by_cases hi:i<L.length;rw[L0 hi]at h1;rw[L0 (by rw[<- l.len];exact hi)]at h2;exact .inl ⟨h1,h2⟩;obtain⟨hb,_⟩:=LN.mp h1;rw[LP,MR]at hb;have e:i=L.length:=by lk
  subst e;rw[LV (LI _),Nl]at h1;rw[l.len,LV (LI _),Nl]at h2;exact .inr ⟨rfl,(LH h1).symm,(LH h2).symm⟩
 refine⟨by rw[LP,LP,l.len];rfl,λi j a u u' h1 h2 h3 h4 m1 m2=>?_,λi a u h1 h2=>?_⟩;rcases split i a u h1 h3 with⟨g1,g2⟩|⟨rfl,rfl,rfl⟩<;>rcases split j _ u' h2 h4 with⟨k1,k2⟩|⟨k1,k2,k3⟩
 exact l.nd i j a u u' g1 k1 g2 k2 m1 m2;subst k2;obtain⟨w,e,_⟩:=l.at g1 g2 m1;rw[e]at hp;cases hp;obtain⟨w,e,_⟩:=l.at k1 k2 m2;rw[e]at hp;cases hp;exact k1.symm;rcases split i a u h1 h2 with⟨g1,g2⟩|⟨rfl,rfl,rfl⟩
 exact(l.obj i a u g1 g2).keep m λw e=>cY.up hp _ _ e;exact mk
def Rl.put(l:Rl K L H st)(hi:L[i]?=some a)(hs:st[i]?=some o)(hm:o.mut=true)(hm':o'.mut=true)(m:Mn K L H L (upd H a ho))(r:uq K L (upd H a ho) a o'):Rl K L (upd H a ho) (st.set i o'):=by
 obtain⟨w,ew,nf⟩:=l.at hi hs hm;have HY:i<st.length:=(LN.mp hs).1;have old:∀(j:Nat) (u:O),(st.set i o')[j]?=some u->(j=i/\u=o')\/(j≠i/\st[j]?=some u):=λj u h=>by
  by_cases hj:i=j;subst hj;rw[L8 HY]at h;exact .inl ⟨rfl,(LH h).symm⟩;rw[Mg hj]at h;exact .inr ⟨λz=>hj z.symm,h⟩
 refine⟨by rw[Mq];exact l.len,λj k b u u' h1 h2 h3 h4 m1 m2=>?_,λj b u h1 h2=>?_⟩;rcases old j u h3 with⟨rfl,rfl⟩|⟨nj,g3⟩<;>rcases old k u' h4 with⟨rfl,rfl⟩|⟨nk,g4⟩
 rfl;exact l.nd _ _ b o u' h1 h2 hs g4 hm m2;exact l.nd _ _ b u o h1 h2 g3 hs m1 hm;exact l.nd _ _ b u u' h1 h2 g3 g4 m1 m2;rcases old j u h2 with⟨rfl,rfl⟩|⟨nj,g2⟩
 rw[hi]at h1;cases h1;exact r;by_cases hb:b=a;subst hb;cases u with
 |jT ds =>
  obtain⟨vs,e,q⟩:=l.obj j b _ h1 g2;refine⟨vs,?_,q.mn m⟩;rcases e with⟨x,e⟩|e
  rw[ew]at e;cases e;exact absurd rfl (nf _ _);exact .inr e
 |lst ds=>exact absurd (l.nd j i b _ o h1 hi g2 hs rfl hm) nj
 |wk ds=>exact absurd (l.nd j i b _ o h1 hi g2 hs rfl hm) nj
 |wm ds=>exact absurd (l.nd j i b _ o h1 hi g2 hs rfl hm) nj
 |exc c fs=>exact absurd (l.nd j i b _ o h1 hi g2 hs rfl hm) nj
 |dct ds=>exact absurd (l.nd j i b _ o h1 hi g2 hs rfl hm) nj
 |any=>trivial
 |jE lo up=>exact absurd (l.nd j i b _ o h1 hi g2 hs rfl hm) nj
 exact(l.obj j b u h1 g2).keep m λw e=>by rw[bg hb];exact e
def Mn.put{xs:List V}(e:H a=some (.lst xs)):Mn K L H L (upd H a ho):=⟨λ_ _ h=>h,λb vs h=>(Kp.put (ch:=[a]) (o:=ho) Kp.refl (by simp) e).AE h,λb o u h=>by rw[bg (λz=>by rw[z,e]at h;cases h)];exact h,λb ws h=>by rw[bg (λz=>by rw[z,e]at h;cases h)];exact h⟩
def Rl.newL{vs:List V}{ds:List D}(l:Rl K L H st)(hp:H p=none)(r:bj K L H vs ds):Rl K (L ++ [p]) (upd H p (.lst vs)) (st ++ [.lst ds]):=l.new hp ⟨vs,gw,r.mn (Mn.new hp)⟩
def newR(l:Rl K L H st)(v:D:=.ref st.length):(L ++ [p])[st.length]?=some p:=by rw[<- l.len,LV (LI _),Nl];rfl
def Rl.putL{vs:List V}{ds xs:List D}(l:Rl K L H st)(hi:L[i]?=some a)(hs:st[i]?=some (.lst xs))(r:bj K L H vs ds):Rl K L (upd H a (.lst vs)) (st.set i (.lst ds))/\Mn K L H L (upd H a (.lst vs)):=by obtain⟨ws,e,_⟩:=l.obj i a _ hi hs;have m:Mn K L H L (upd H a (.lst vs)):=Mn.put e;exact⟨l.put hi hs rfl rfl m ⟨vs,gw,r.mn m⟩,m⟩
abbrev items(st:Store)(i:Nat):Option (List D):=match st[i]? with
 |some (.lst ds)=>some ds
 |some (.jT ds)=>some ds
 |_=>none
def Rl.items{ds:List D}(l:Rl K L H st)(hi:L[i]?=some a)(h:items st i=some ds):∃vs,ez K H a vs/\bj K L H vs ds:=by
 unfold L4.items at h;split at h
 ·next ds' hs=>cases h;obtain⟨vs,e,r⟩:=l.obj i a _ hi hs;exact⟨vs,.inl (.inl e),r⟩
 ·next ds' hs=>cases h;obtain⟨vs,e,r⟩:=l.obj i a _ hi hs;exact⟨vs,e.sq,r⟩
 ·cases h
end
abbrev So(K:Zfr){J S:Type}(R:List Addr->Hp->J->S->Prop)(t:St->Hp->(J->Hp->Prop)->Prop)(f:af->Dm S):Prop :=
 ∀(L:List Addr) (U:St) (H:Hp) (I:af) (st:Store) (b:S) (st':Store) (Q:J->Hp->Prop),Rl K L H st->Rs K L H U I->f I st=some (b,st') ->
  (∀a H' L',Mn K L H L' H'->Rl K L' H' st'->R L' H' a b->Q a H')->t U H Q
@[reducible]def bW(K:Zfr)(t:TE)(f:af->Dm D):Prop:=So K (Rp K) t f
@[reducible]def kj(K:Zfr)(t:TT)(f:af->Dm Bool):Prop:=So K (λ_ _=>Eq) t f
@[reducible]def kl(K:Zfr)(t:TA)(f:af->Dm (List D)):Prop:=So K (bj K) t f
@[reducible]def yV(K:Zfr)(t:TO)(f:af->Dm (Option Int)):Prop:=So K (λ_ _=>Eq) t f
abbrev yW(K:Zfr)(r:V->Hp->VK->Prop)(g:D->Dm D):Prop :=
 ∀(L:List Addr) (H:Hp) (st:Store) (x:V) (a:D) (b:D) (st':Store) (Q:VK),Rl K L H st->Rp K L H x a->g a st=some (b,st')->(∀v H' L',Mn K L H L' H'->Rl K L' H' st'->Rp K L' H' v b->Q v H')->r x H Q
abbrev gP(K:Zfr)(r:R2)(g:D->D->Dm D):Prop :=
 ∀(L:List Addr) (H:Hp) (st:Store) (x y:V) (a c:D) (b:D) (st':Store) (Q:VK),Rl K L H st->Rp K L H x a->Rp K L H y c->g a c st=some (b,st')->(∀v H' L',Mn K L H L' H'->Rl K L' H' st'->Rp K L' H' v b->Q v H')->r x y H Q
abbrev nP(K:Zfr)(r:List V->Hp->VK->Prop)(g:List D->Dm D):Prop :=
 ∀(L:List Addr) (H:Hp) (st:Store) (xs:List V) (as:List D) (b:D) (st':Store) (Q:VK),Rl K L H st->bj K L H xs as->g as st=some (b,st')->(∀v H' L',Mn K L H L' H'->Rl K L' H' st'->Rp K L' H' v b->Q v H')->r xs H Q
abbrev wo(K:Zfr)(T:String)(r:V->List V->Hp->VK->Prop)(g:D->List D->Dm D):Prop :=
 ∀(L:List Addr) (H:Hp) (st:Store) (x:V) (xs:List V) (a:D) (as:List D) (b:D) (st':Store) (Q:VK),Rl K L H st->Rp K L H x a->bj K L H xs as->g a as st=some (b,st')->(∀v H' L',Mn K L H L' H'->Rl K L' H' st'->Rp K L' H' v b->Q v H')->r x xs H Q
abbrev bnd{J S:Type}(m:Option (J×Store))(k:J->Dm S):Option (S×Store):=match m with
 |some (a,st)=>k a st
 |none=>none
def aZ{J S:Type}{m:Option (J×Store)}{k:J->Dm S}{r:S×Store}(h:bnd m k=some r):∃a st,m=some (a,st)/\k a st=some r:=by
 cases m with
 |none=>cases h
 |some p=>exact⟨p.1,p.2,rfl,h⟩
section
variable {K:Zfr}
abbrev ag(i:Nat):af->Dm D:=λI st=>match I[i]? with
 |some (some d)=>some (d,st)
 |_=>none
def aX(i:Nat):bW K (mT i) (ag i):=by
 intro L U H I st b st' Q l rs e q;unfold ag at e;split at e
 ·next d hd=>cases e;obtain⟨v,ev,r⟩:=rs.2 i _ hd;exact⟨v,ev,q v H L .refl l r⟩
 ·cases e
abbrev fC(d:D):af->Dm D:=λ_ st=>some (d,st)
def l8{v:V}{d:D}(h:∀L H,Rp K L H v d):bW K (tC v) (fC d):=by intro L U H I st b st' Q l rs e q;cases e;exact q v H L .refl l (h L H)
def iP(i:Int):bW K (tC (.int i)) (fC (.int i)):=l8 λ_ _=>.int i
def yX(b:Bool):bW K (tC (.bl b)) (fC (.bl b)):=l8 λ_ _=>.bl b
def lF(x:Str):bW K (tC (.str x)) (fC (.str x)):=l8 λ_ _=>.str x
def wq:bW K (tC .non) (fC .non):=l8 λ_ _=>.non
def km(n:String):bW K (tC (.ty n)) (fC (.ty n)):=l8 λ_ _=>.ty n
abbrev aC(g:D->D->Dm D)(fa fb:af->Dm D):af->Dm D:=λI st=>bnd (fa I st) λa st1=>bnd (fb I st1) λb st2=>g a b st2
def fR{r:R2}{g:D->D->Dm D}{ta tb:TE}{fa fb:af->Dm D}(hr:gP K r g)(ha:bW K ta fa)(hb:bW K tb fb):bW K (ui r ta tb) (aC g fa fb):=by intro L U H I st b st' Q l rs e q;obtain⟨a,st1,e1,e⟩:=aZ e;obtain⟨c,st2,e2,e⟩:=aZ e;refine ha L U H I st a st1 _ l rs e1 λx H1 L1 m1 l1 r1=>hb L1 U H1 I st1 c st2 _ l1 (rs.mn m1) e2 λy H2 L2 m2 l2 r2=>?_;exact hr L2 H2 st2 x y a c b st' Q l2 (r1.mn m2) r2 e λv H3 L3 m3 l3 r3=>q v H3 L3 ((m1.trans m2).trans m3) l3 r3
abbrev yZ(g:D->Dm D)(fa:af->Dm D):af->Dm D:=λI st=>bnd (fa I st) λa st1=>g a st1
def wt{r:V->Hp->VK->Prop}{g:D->Dm D}{ta:TE}{fa:af->Dm D}(hr:yW K r g)(ha:bW K ta fa):bW K (CQ r ta) (yZ g fa):=by intro L U H I st b st' Q l rs e q;obtain⟨a,st1,e1,e⟩:=aZ e;exact ha L U H I st a st1 _ l rs e1 λx H1 L1 m1 l1 r1=>hr L1 H1 st1 x a b st' Q l1 r1 e λv H3 L3 m3 l3 r3=>q v H3 L3 (m1.trans m3) l3 r3
def rQ{r:V->Hp->VK->Prop}{g:D->Dm D}{ta:TE}{fa:af->Dm D}(hr:yW K r g)(ha:bW K ta fa):bW K (λU H Q=>ta U H λx H1=>r x H1 Q) (yZ g fa):=wt hr ha
abbrev aj:af->Dm (List D):=λ_ st=>some ([],st)
abbrev ae(fa:af->Dm D)(fr:af->Dm (List D)):af->Dm (List D):=λI st=>bnd (fa I st) λa st1=>bnd (fr I st1) λr st2=>some (a :: r,st2)
def bM:kl K mZ aj:=by intro L U H I st b st' Q l rs e q;cases e;exact q [] H L .refl l .nil
def aK{ta:TE}{tr:TA}{fa:af->Dm D}{fr:af->Dm (List D)}(ha:bW K ta fa)(hr:kl K tr fr):kl K (jN ta tr) (ae fa fr):=by intro L U H I st b st' Q l rs e q;obtain⟨a,st1,e1,e⟩:=aZ e;obtain⟨c,st2,e2,e⟩:=aZ e;cases e;exact ha L U H I st a st1 _ l rs e1 λx H1 L1 m1 l1 r1=>hr L1 U H1 I st1 c _ _ l1 (rs.mn m1) e2 λy H2 L2 m2 l2 r2=>q _ H2 L2 (m1.trans m2) l2 (.cons (r1.mn m2) r2)
abbrev lim(n:Nat):Bool:=Nat.ble n 100000
def rR{n:Nat}(h:lim n=true):n<=sizeLine:=L5 (Nat.le_of_ble_eq_true h) ∅
def Bb{n:Nat}(h:lim n=true):n<sizeLine:=Nc (Nat.le_of_ble_eq_true h) ∅
abbrev fA(fa:af->Dm (List D)):af->Dm D:=λI st=>bnd (fa I st) λas st1=>if lim as.length=true then some (.tup as,st1)else none
def rS{ta:TA}{fa:af->Dm (List D)}(ha:kl K ta fa):bW K (vp ta) (fA fa):=by
 intro L U H I st b st' Q l rs e q;obtain⟨as,st1,e1,e⟩:=aZ e;split at e
 ·next hl =>
  cases e;refine ha L U H I st as _ _ l rs e1 λxs H1 L1 m1 l1 r1=>⟨by rw[r1.length];exact rR hl,λp hp=>?_⟩;have m2:Mn K L1 H1 L1 (upd H1 p (.tup xs)):=Mn.same (cY.up hp);exact q _ _ L1 (m1.trans m2) (l1.same (cY.up hp)) (.tup (ej.of gw) (r1.mn m2))
 ·cases e
abbrev eo(fa:af->Dm (List D)):af->Dm D:=λI st=>bnd (fa I st) λas st1=>if lim as.length=true then some (.ref st1.length,st1 ++ [.lst as])else none
def ur{ta:TA}{fa:af->Dm (List D)}(ha:kl K ta fa):bW K (vq ta) (eo fa):=by
 intro L U H I st b st' Q l rs e q;obtain⟨as,st1,e1,e⟩:=aZ e;split at e
 ·next hl =>
  cases e;refine ha L U H I st as _ _ l rs e1 λxs H1 L1 m1 l1 r1=>⟨by rw[r1.length];exact rR hl,λp hp=>?_⟩;exact q _ _ _ (m1.trans (Mn.new hp)) (l1.newL hp r1) (.ref (newR l1))
 ·cases e
abbrev ax(fa:af->Dm D):af->Dm Bool:=λI st=>bnd (fa I st) λa st1=>match a with
 |.bl b=>some (b,st1)
 |_=>none
def kn{ta:TE}{fa:af->Dm D}(ha:bW K ta fa):kj K (mY ta) (ax fa):=by intro L U H I st b st' Q l rs e q;obtain⟨a,st1,e1,e⟩:=aZ e;cases a<;>simp at e;obtain⟨rfl,rfl⟩:=e;refine ha L U H I st _ _ _ l rs e1 λx H1 L1 m1 l1 r1=>?_;cases r1;exact⟨_,rfl,q _ H1 L1 m1 l1 rfl⟩
def y1{ta:TE}{fa:af->Dm D}(ha:bW K ta fa):kj K (tB ta) (ax fa):=kn ha
abbrev oW(fa:af->Dm Bool):af->Dm Bool:=λI st=>bnd (fa I st) λa st1=>some (!a,st1)
def Ec{ta:TT}{fa:af->Dm Bool}(ha:kj K ta fa):kj K (u3 ta) (oW fa):=by intro L U H I st b st' Q l rs e q;obtain⟨a,st1,e1,e⟩:=aZ e;cases e;exact ha L U H I st _ _ _ l rs e1 λx H1 L1 m1 l1 r1=>q _ H1 L1 m1 l1 (by rw[r1])
abbrev l9(fa fb:af->Dm Bool):af->Dm Bool:=λI st=>bnd (fa I st) λa st1=>if a=true then fb I st1 else some (false,st1)
abbrev oo(fa fb:af->Dm Bool):af->Dm Bool:=λI st=>bnd (fa I st) λa st1=>if a=true then some (true,st1)else fb I st1
def Ed{ta tb:TT}{fa fb:af->Dm Bool}(ha:kj K ta fa)(hb:kj K tb fb):kj K (u0 ta tb) (l9 fa fb):=by
 intro L U H I st b st' Q l rs e q;obtain⟨a,st1,e1,e⟩:=aZ e;refine ha L U H I st _ _ _ l rs e1 λx H1 L1 m1 l1 r1=>?_;subst r1;cases x with
 |true =>
  refine kD ?_;rw[if_pos rfl]at e;exact hb L1 U H1 I st1 b st' _ l1 (rs.mn m1) e λy H2 L2 m2 l2 r2=>q y H2 L2 (m1.trans m2) l2 r2
 |false =>
  refine kC ?_;rw[if_neg LC]at e;cases e;exact q _ H1 L1 m1 l1 rfl
def rT{ta tb:TT}{fa fb:af->Dm Bool}(ha:kj K ta fa)(hb:kj K tb fb):kj K (CI ta tb) (oo fa fb):=by
 intro L U H I st b st' Q l rs e q;obtain⟨a,st1,e1,e⟩:=aZ e;refine ha L U H I st _ _ _ l rs e1 λx H1 L1 m1 l1 r1=>?_;subst r1;cases x with
 |false =>
  refine kC ?_;rw[if_neg LC]at e;exact hb L1 U H1 I st1 b st' _ l1 (rs.mn m1) e λy H2 L2 m2 l2 r2=>q y H2 L2 (m1.trans m2) l2 r2
 |true =>
  refine kD ?_;rw[if_pos rfl]at e;cases e;exact q _ H1 L1 m1 l1 rfl
abbrev dY(fa fb:af->Dm D):af->Dm D:=λI st=>bnd (ax fa I st) λa st1=>if a=true then fb I st1 else some (.bl false,st1)
abbrev oX(fa fb:af->Dm D):af->Dm D:=λI st=>bnd (ax fa I st) λa st1=>if a=true then some (.bl true,st1)else fb I st1
abbrev qc(fa:af->Dm D):af->Dm D:=λI st=>bnd (ax fa I st) λa st1=>some (.bl (!a),st1)
def Bc{fa:af->Dm D}{I:af}{st st1:Store}{b:Bool}(h:ax fa I st=some (b,st1)):fa I st=some (.bl b,st1):=by obtain⟨a,st2,e1,e⟩:=aZ h;cases a<;>simp at e;obtain⟨rfl,rfl⟩:=e;exact e1
def y2{ta tb:TE}{fa fb:af->Dm D}(ha:bW K ta fa)(hb:bW K tb fb):bW K (mU ta tb) (dY fa fb):=by
 intro L U H I st b st' Q l rs e q;obtain⟨a,st1,e1,e⟩:=aZ e;refine ha L U H I st _ _ _ l rs (Bc e1) λx H1 L1 m1 l1 r1=>?_;cases r1;refine⟨a,rfl,?_⟩;cases a with
 |true =>
  refine kD ?_;rw[if_pos rfl]at e;exact hb L1 U H1 I st1 b st' _ l1 (rs.mn m1) e λy H2 L2 m2 l2 r2=>q y H2 L2 (m1.trans m2) l2 r2
 |false =>
  refine kC ?_;rw[if_neg LC]at e;cases e;exact q _ H1 L1 m1 l1 (.bl _)
def Ee{ta tb:TE}{fa fb:af->Dm D}(ha:bW K ta fa)(hb:bW K tb fb):bW K (u6 ta tb) (oX fa fb):=by
 intro L U H I st b st' Q l rs e q;obtain⟨a,st1,e1,e⟩:=aZ e;refine ha L U H I st _ _ _ l rs (Bc e1) λx H1 L1 m1 l1 r1=>?_;cases r1;refine⟨a,rfl,?_⟩;cases a with
 |false =>
  refine kC ?_;rw[if_neg LC]at e;exact hb L1 U H1 I st1 b st' _ l1 (rs.mn m1) e λy H2 L2 m2 l2 r2=>q y H2 L2 (m1.trans m2) l2 r2
 |true =>
  refine kD ?_;rw[if_pos rfl]at e;cases e;exact q _ H1 L1 m1 l1 (.bl _)
abbrev gb{S:Type}(c:af->Dm Bool)(fa fb:af->Dm S):af->Dm S:=λI st=>bnd (c I st) λa st1=>if a=true then fa I st1 else fb I st1
abbrev aL:af->Dm (Option Int):=λ_ st=>some (none,st)
abbrev bt(fa:af->Dm D):af->Dm (Option Int):=λI st=>bnd (fa I st) λa st1=>match a with
 |.int i=>some (some i,st1)
 |_=>none
def uu:yV K lj aL:=by intro L U H I st b st' Q l rs e q;cases e;exact q _ H L .refl l rfl
def uv{ta:TE}{fa:af->Dm D}(ha:bW K ta fa):yV K (pP ta) (bt fa):=by intro L U H I st b st' Q l rs e q;obtain⟨a,st1,e1,e⟩:=aZ e;cases a<;>simp at e;obtain⟨rfl,rfl⟩:=e;refine ha L U H I st _ _ _ l rs e1 λx H1 L1 m1 l1 r1=>?_;cases r1;exact⟨_,rfl,q _ H1 L1 m1 l1 rfl⟩
abbrev rV(K:Zfr)(r:V->Option Int->Option Int->Hp->VK->Prop)(g:D->Option Int->Option Int->Dm D):Prop :=
 ∀lo hi,yW K (λx=>r x lo hi) (λa=>g a lo hi)
abbrev iJ(g:D->Option Int->Option Int->Dm D)(fa:af->Dm D)(fl fh:af->Dm (Option Int)):af->Dm D:=λI st=>bnd (fa I st) λa st1=>bnd (fl I st1) λlo st2=>bnd (fh I st2) λhi st3=>g a lo hi st3
def uw{r:V->Option Int->Option Int->Hp->VK->Prop}{g:D->Option Int->Option Int->Dm D}{ta:TE}{tl th:TO}{fa:af->Dm D}{fl fh:af->Dm (Option Int)}(hr:rV K r g)(ha:bW K ta fa)(hl:yV K tl fl)(hh:yV K th fh):bW K (C9 r ta tl th) (iJ g fa fl fh):=by intro L U H I st b st' Q l rs e q;obtain⟨a,st1,e1,e⟩:=aZ e;obtain⟨lo,st2,e2,e⟩:=aZ e;obtain⟨hi,st3,e3,e⟩:=aZ e;refine ha L U H I st a st1 _ l rs e1 λx H1 L1 m1 l1 r1=>hl L1 U H1 I st1 lo st2 _ l1 (rs.mn m1) e2 λy H2 L2 m2 l2 r2=>hh L2 U H2 I st2 hi st3 _ l2 (rs.mn (m1.trans m2)) e3 λz H3 L3 m3 l3 r3=>?_;subst r2 r3;exact hr y z L3 H3 st3 x a b st' Q l3 (r1.mn (m2.trans m3)) e λv H4 L4 m4 l4 r4=>q v H4 L4 (((m1.trans m2).trans m3).trans m4) l4 r4
abbrev br(g:List D->Dm D)(fa:af->Dm (List D)):af->Dm D:=λI st=>bnd (fa I st) λas st1=>g as st1
def fT{r:List V->Hp->VK->Prop}{g:List D->Dm D}{ta:TA}{fa:af->Dm (List D)}(hr:nP K r g)(ha:kl K ta fa):bW K (vv r ta) (br g fa):=by intro L U H I st b st' Q l rs e q;obtain⟨as,st1,e1,e⟩:=aZ e;exact ha L U H I st as st1 _ l rs e1 λx H1 L1 m1 l1 r1=>hr L1 H1 st1 x as b st' Q l1 r1 e λv H3 L3 m3 l3 r3=>q v H3 L3 (m1.trans m3) l3 r3
abbrev gg(K:Zfr)(n:Nat)(F:List D->Dm D):Sp:=λvs H Q _=>vs.length=n/\∃(L:List Addr) (st:Store) (ds:List D) (b:D) (st':Store),Rl K L H st/\bj K L H vs ds/\F ds st=some (b,st') /\
 ∀v H' L',Mn K L H L' H'->Rl K L' H' st'->Rp K L' H' v b->Q v H'
def mJ{n:Nat}{F:List D->Dm D}{ta:TA}{fa:af->Dm (List D)}{E:XK}(ha:kl K ta fa)(hn:∀I st as st',fa I st=some (as,st')->as.length=n):bW K (g8 (gg K n F) [] E ta) (br F fa):=by intro L U H I st b st' Q l rs e q;obtain⟨as,st1,e1,e⟩:=aZ e;refine ha L U H I st as st1 _ l rs e1 λvs H1 L1 m1 l1 r1=>⟨?_,L1,st1,as,b,st',l1,?_,e,λv H3 L3 m3 l3 r3=>q v H3 L3 (m1.trans m3) l3 r3⟩;rw[Mp,r1.length];exact hn _ _ _ _ e1;rw[Mp];exact r1
def Ef{I:af}{st st':Store}{as:List D}(h:aj I st=some (as,st')):as.length=0:=by cases h;rfl
def y3{fa:af->Dm D}{fr:af->Dm (List D)}{n:Nat}(hr:∀I st as st',fr I st=some (as,st')->as.length=n):∀I st as st',ae fa fr I st=some (as,st')->as.length=n+1:=λI st as st' h=>by
 obtain⟨a,st1,e1,e⟩:=aZ h;obtain⟨c,st2,e2,e⟩:=aZ e;cases e;rw[LZ,hr _ _ _ _ e2]
end
end L4
namespace L4
open PySem PySem.Spec L2
section
variable {K:Zfr}
abbrev qd(h:Int->Int->D):D->D->Dm D
 |.int i,.int j,st=>some (h i j,st)
 |_,_,_=>none
def wu{gv:Int->Int->V}{h:Int->Int->D}(hh:∀i j L H,Rp K L H (gv i j) (h i j)):gP K (lX gv) (qd h):=by intro L H st x y a c b st' Q l rx ry e q;unfold qd at e;split at e;cases e;cases rx;cases ry;exact⟨_,_,rfl,rfl,q _ H L .refl l (hh _ _ L H)⟩;cases e
abbrev rW(c:Int->Int->Bool)(h:Int->Int->D):D->D->Dm D
 |.int i,.int j,st=>if c i j=true then some (h i j,st)else none
 |_,_,_=>none
def y4{C:Int->Int->Prop}{c:Int->Int->Bool}{gv:Int->Int->V}{h:Int->Int->D}(hc:∀i j,c i j=true->C i j)(hh:∀i j L H,Rp K L H (gv i j) (h i j)):gP K (rI C gv) (rW c h):=by
 intro L H st x y a d b st' Q l rx ry e q;unfold rW at e;split at e
 ·split at e
  ·next hcc=>cases e;cases rx;cases ry;exact⟨_,_,rfl,rfl,hc _ _ hcc,q _ H L .refl l (hh _ _ L H)⟩
  ·cases e
 ·cases e
abbrev er:D->D->Dm D:=qd λi j=>.int (i+j)
abbrev lW:D->D->Dm D:=qd λi j=>.int (i-j)
abbrev hZ:D->D->Dm D:=rW (λi j=>decide (-18446744073709551616<i/\i<18446744073709551616) || decide (-18446744073709551616<j/\j<18446744073709551616)) λi j=>.int (i*j)
abbrev jU:D->D->Dm D:=rW (λi j=>decide (0<j/\j<1073741824)) λi j=>.int (i / j)
abbrev ia:D->D->Dm D:=rW (λi j=>decide (0<j)) λi j=>.int (i % j)
abbrev nQ:D->D->Dm D:=rW (λi j=>decide (0<=j/\j<=1000000/\i.natAbs<18446744073709551616)) λi j=>.int (i ^ j.toNat)
abbrev oq:D->D->Dm D:=qd λi j=>.bl (decide (i<j))
abbrev HZ:D->D->Dm D:=qd λi j=>.bl (decide (i<=j))
abbrev ux:D->D->Dm D:=qd λi j=>.bl (decide (j<i))
abbrev Bd:D->D->Dm D:=qd λi j=>.bl (decide (j<=i))
def Be:gP K (lX λi j=>.int (i+j)) er:=wu λ_ _ _ _=>.int _
def Eg:gP K (lX λi j=>.int (i-j)) lW:=wu λ_ _ _ _=>.int _
def Eh:gP K (rI oM λi j=>.int (i*j)) hZ:=y4 (λi j h=>by
 rw[Bool.or_eq_true,decide_eq_true_eq,decide_eq_true_eq]at h
 exact h) λ_ _ _ _=>.int _
def Ei:gP K (rI vk λi j=>.int (i / j)) jU:=y4 (λi j h=>of_decide_eq_true (p:=0<j/\j<1073741824) h) λ_ _ _ _=>.int _
def Ej:gP K (rI (λ_ j=>0<j) λi j=>.int (i % j)) ia:=y4 (λi j h=>of_decide_eq_true h) λ_ _ _ _=>.int _
def Ek:gP K (rI vm λi j=>.int (i ^ j.toNat)) nQ:=y4 (λi j h=>by have h:=of_decide_eq_true (p:=0<=j/\j<=1000000/\i.natAbs<18446744073709551616) h;exact⟨h.1,h.2.1,by lk⟩) λ_ _ _ _=>.int _
def Bf:gP K (lX λi j=>.bl (decide (i<j))) oq:=wu λ_ _ _ _=>.bl _
def Bg:gP K (lX λi j=>.bl (decide (j<i))) ux:=wu λ_ _ _ _=>.bl _
def qe:gP K (lX λi j=>.bl (decide (j<=i))) Bd:=wu λ_ _ _ _=>.bl _
abbrev Bh:D->Dm D
 |.int i,st=>some (.int (-i),st)
 |_,_=>none
abbrev sV:D->Option V
 |.non=>some .non
 |.bl b=>some (.bl b)
 |.int i=>some (.int i)
 |.str x=>some (.str x)
 |_=>none
def y6{L:List Addr}{H:Hp}{x v:V}{a:D}(r:Rp K L H x a)(h:sV a=some v):x=v:=by cases r<;>first|(cases h;rfl)|cases h
abbrev eM(neg:Bool):D->D->Dm D:=λa b st=>match sV a,sV b with
 |some x,some y=>if gZ x y=true then some (.bl (if neg then !decide (x=y)else decide (x=y)),st)else none
 |_,_=>none
def ot:gP K CU (eM false):=by
 intro L H st x y a c b st' Q l rx ry e q;unfold eM at e;split at e
 ·next u v h1 h2 =>
  split at e
  ·next hs=>cases e;cases y6 rx h1;cases y6 ry h2;exact⟨hs,q _ H L .refl l (.bl _)⟩
  ·cases e
 ·cases e
def qf:gP K CV (eM true):=by
 intro L H st x y a c b st' Q l rx ry e q;unfold eM at e;split at e
 ·next u v h1 h2 =>
  split at e
  ·next hs=>cases e;cases y6 rx h1;cases y6 ry h2;exact⟨hs,q _ H L .refl l (.bl _)⟩
  ·cases e
 ·cases e
abbrev b8{J S:Type}(f:J->Option S):List J->Option (List S)
 |[]=>some []
 |a :: r=>match f a,b8 f r with
  |some b,some s=>some (b :: s)
  |_,_=>none
def wx{J S:Type}{f:J->Option S}{a:J}{r:List J}{s:List S}(h:b8 f (a :: r)=some s):∃b t,f a=some b/\b8 f r=some t/\s=b :: t:=by
 unfold b8 at h;split at h
 ·next b t h1 h2=>cases h;exact⟨b,t,h1,h2,rfl⟩
 ·cases h
def y8{J S γ:Type}{f:J->Option S}{g:γ->J}{k:γ->S}(h:∀c,f (g c)=some (k c)):∀l:List γ,b8 f (l.map g)=some (l.map k)
 |[]=>rfl
 |c :: r=>by
  show b8 f (g c :: r.map g)=_;unfold b8;rw[h c,y8 h r];rfl
abbrev gD(st:Store):Nat->D->Option PyData
 |0,_=>none
 |_+1,.non=>some .none
 |_+1,.bl b=>some (.bool b)
 |_+1,.int i=>some (.int i)
 |_+1,.str x=>some (.str x)
 |_+1,.ty _=>none
 |n+1,.tup ds=>(b8 (gD st n) ds).map PyData.tuple
 |n+1,.ref i=>match items st i with
  |some ds=>(b8 (gD st n) ds).map PyData.list
  |none=>none
def wy{L:List Addr}{H:Hp}{st:Store}(l:Rl K L H st):∀(n:Nat) {v:V} {d:D} {p:PyData},Rp K L H v d->gD st n d=some p->Rep K H v p
 |0,_,_,_,_,h=>by simp[gD]at h
 |n+1,v,d,p,r,h=>by
  have all:∀{vs:List V} {ds:List D} {ps:List PyData},bj K L H vs ds->b8 (gD st n) ds=some ps->cZ K H vs ps:=by
   intro vs ds ps rr
   induction vs generalizing ds ps with
   |nil=>intro hm;cases rr;cases hm;exact .nil
   |cons w ws ih =>
    intro hm;cases rr with
    |cons ra rb =>
     obtain⟨b,t,h1,h2,rfl⟩:=wx hm;exact .cons (wy l n ra h1) (ih rb h2)
  cases r with
  |non=>simp[gD]at h;subst h;exact .non
  |bl b=>simp[gD]at h;subst h;exact .bl b
  |int i=>simp[gD]at h;subst h;exact .int i
  |str x=>simp[gD]at h;subst h;exact .str x
  |ty n=>simp[gD]at h
  |ref hi =>
   simp only[gD]at h;split at h
   ·next ds hd =>
    obtain⟨ps,h1,rfl⟩:=Mc.mp h;obtain⟨vs,e,rr⟩:=l.items hi hd;exact .lst e (all rr h1)
   ·cases h
  |tup q rr =>
   simp only[gD]at h;obtain⟨ps,h1,rfl⟩:=Mc.mp h;exact .tup q (all rr h1)
abbrev jV(neg:Bool):D->D->Dm D:=λa b st=>match gD st 20 a,gD st 20 b with
 |some p,some q=>if(PyData.canLay0 p && PyData.canLay0 q && decide (min p.depth q.depth<=60))=true then some (.bl (if neg then !PyData.eqv p q else PyData.eqv p q),st)else none
 |_,_=>none
def Bi(neg:Bool):gP K (rn K neg) (jV neg):=by
 intro L H st x y a c b st' Q l rx ry e q;unfold jV at e;split at e
 ·next u v h1 h2 =>
  split at e
  ·next hs =>
   cases e;rw[Mf,Mf,decide_eq_true_eq]at hs;exact⟨u,v,wy l 20 rx h1,wy l 20 ry h2,hs.1.1,hs.1.2,hs.2,q _ H L .refl l (.bl _)⟩
  ·cases e
 ·cases e
def at_of{L:List Addr}{H:Hp}{vs:List V}{ds:List D}{i:Int}{d:D}(r:bj K L H vs ds)(h:fL ds i=some d):∃v,fL vs i=some v/\Rp K L H v d:=by
 unfold fL at h ⊢;rw[r.length];cases hx:jG ds.length i with
 |none=>rw[hx]at h;cases h
 |some j =>
  rw[hx]at h;exact r.got h
abbrev Bj:D->D->Dm D
 |.tup ds,.int i,st=>match fL ds i with
  |some d=>some (d,st)
  |none=>none
 |_,_,_=>none
abbrev dv:D->D->Dm D
 |.ref r,.int i,st=>match items st r with
  |some ds=>match fL ds i with
   |some d=>some (d,st)
   |none=>none
  |none=>none
 |_,_,_=>none
def Bk:gP K (vy K) dv:=by
 intro L H st x y a c b st' Q l rx ry e q;unfold dv at e;split at e
 ·split at e
  ·next ds hi =>
   split at e
   ·next d hd =>
    cases e;cases ry;cases rx with
    |ref hr =>
     obtain⟨vs,s,r⟩:=l.items hr hi;obtain⟨v,hv,rv⟩:=at_of r hd;exact⟨_,_,_,v,rfl,rfl,s,hv,q v H L .refl l rv⟩
   ·cases e
  ·cases e
 ·cases e
abbrev jo:D->D->Dm D
 | .str z,.int i,st=>if lim z.length=true then match fL z.cps.toList i with
   |some c=>some (.str ⟨#[c]⟩,st)
   |none=>none
  else none
 |_,_,_=>none
def Bl:gP K vz jo:=by
 intro L H st x y a c b st' Q l rx ry e q;unfold jo at e;split at e
 ·split at e
  ·next hl =>
   split at e
   ·next d hd =>
    cases e;cases ry;cases rx;exact⟨_,_,d,rfl,rfl,rR hl,hd,q _ H L .refl l (.str _)⟩
   ·cases e
  ·cases e
 ·cases e
abbrev cutD(xs:List D)(lo hi:Option Int):List D:=(xs.drop (HT.iZ xs.length 0 lo)).take (HT.iZ xs.length xs.length hi-HT.iZ xs.length 0 lo)
def bj.cut{L:List Addr}{H:Hp}{vs:List V}{ds:List D}(r:bj K L H vs ds)(lo hi:Option Int):bj K L H (lY vs lo hi) (cutD ds lo hi):=by unfold lY cutD;rw[r.length];exact(r.drop _).take _
abbrev Bm:D->Option Int->Option Int->Dm D
 |.tup ds,lo,hi,st=>some (.tup (cutD ds lo hi),st)
 |_,_,_,_=>none
def got{L:List Addr}{H:Hp}{st:Store}{vs:List V}{ds:List D}{Q:VK}(l:Rl K L H st)(r:bj K L H vs ds)(q:∀v H' L',Mn K L H L' H'->Rl K L' H' st->Rp K L' H' v (.tup ds)->Q v H'):ni K H vs Q :=
 λp H' s e=>q _ H' L (Mn.same e) (l.same e) (.tup s (r.mn (Mn.same e)))
abbrev ib:D->Option Int->Option Int->Dm D
 |.ref r,lo,hi,st=>match items st r with
  |some ds=>some (.ref st.length,st ++ [.lst (cutD ds lo hi)])
  |none=>none
 |_,_,_,_=>none
def Bn:rV K (vA K) ib:=by
 intro lo hi L H st x a b st' Q l rx e q;cases a with
 |ref i =>
  simp only[ib]at e;split at e
  ·next ds hd =>
   cases e;cases rx with
   |ref hr =>
    obtain⟨vs,s,r⟩:=l.items hr hd;exact⟨_,_,rfl,s,λp hp=>q _ _ _ (Mn.new hp) (l.newL hp (r.cut lo hi)) (.ref (newR l))⟩
  ·cases e
 |_=>cases e
abbrev lG:D->Dm D
 |.ref i,st=>match items st i with
  |some ds=>some (.ref st.length,st ++ [.lst ds.reverse])
  |none=>none
 |_,_=>none
def Ic:yW K (λx H Q=>∃a xs,x=.ref a/\ez K H a xs/\∀p,H p=none->Q (.ref p) (upd H p (.lst xs.reverse))) lG:=by
 intro L H st x a b st' Q l rx e q;cases a with
 |ref i =>
  simp only[lG]at e;split at e
  ·next ds hd =>
   cases e;cases rx with
   |ref hr =>
    obtain⟨vs,s,r⟩:=l.items hr hd;exact⟨_,_,rfl,s,λp hp=>q _ _ _ (Mn.new hp) (l.newL hp r.reverse) (.ref (newR l))⟩
  ·cases e
 |_=>cases e
abbrev wz:D->D->Dm D
 |.tup a,.tup b,st=>if lim (a.length+b.length)=true then some (.tup (a ++ b),st)else none
 |_,_,_=>none
abbrev own(st:Store)(i:Nat):Option (List D):=match st[i]? with
 |some (.lst ds)=>some ds
 |_=>none
def uy{st:Store}{i:Nat}{ds:List D}(h:own st i=some ds):st[i]?=some (.lst ds):=by
 unfold own at h;split at h
 ·next ds' hs=>cases h;exact hs
 ·cases h
abbrev ie:D->D->Dm D
 |.ref i,.ref j,st=>match own st i,own st j with
  |some a,some b=>if lim (a.length+b.length)=true then some (.ref st.length,st ++ [.lst (a ++ b)])else none
  |_,_=>none
 |_,_,_=>none
def za:gP K vC ie:=by
 intro L H st x y a c b st' Q l rx ry e q;unfold ie at e;split at e
 ·split at e
  ·next a b h1 h2 =>
   split at e
   ·next hl =>
    cases e;cases rx with
    |ref hi =>
     cases ry with
     |ref hj =>
      obtain⟨vs,e1,r1⟩:=l.obj _ _ _ hi (uy h1);obtain⟨ws,e2,r2⟩:=l.obj _ _ _ hj (uy h2);exact⟨_,_,_,_,rfl,rfl,e1,e2,by rw[r1.length,r2.length];exact rR hl,λp hp=>q _ _ _ (Mn.new hp) (l.newL hp (r1.append r2)) (.ref (newR l))⟩
   ·cases e
  ·cases e
 ·cases e
abbrev Bo:D->D->Dm D
 |.ref i,.int k,st=>match own st i with
  |some a=>if(decide (-9223372036854775808<=k/\k<9223372036854775808) && lim (a.length*k.toNat))=true then some (.ref st.length,st ++ [.lst (List.replicate k.toNat a).flatten])else none
  |_=>none
 |_,_,_=>none
abbrev bT(st:Store):D->Option (List D)
 |.tup ds=>some ds
 |.ref i=>items st i
 |_=>none
def El{L:List Addr}{H:Hp}{st:Store}{x:V}{a:D}{ds:List D}(l:Rl K L H st)(r:Rp K L H x a)(h:bT st a=some ds):∃p vs,x=.ref p/\(ez K H p vs\/ej K H p vs)/\bj K L H vs ds:=by
 cases r<;>first|(cases h;done)|skip
 ·next hi=>obtain⟨vs,s,r⟩:=l.items hi h;exact⟨_,vs,rfl,.inl s,r⟩
 ·next s r=>cases h;exact⟨_,_,rfl,.inr s,r⟩
def bj.one'{L:List Addr}{H:Hp}{vs:List V}{d:D}(r:bj K L H vs [d]):∃v,vs=[v]/\Rp K L H v d:=by cases r with|cons a b=>cases b;exact⟨_,rfl,a⟩
def bj.two'{L:List Addr}{H:Hp}{vs:List V}{d e:D}(r:bj K L H vs [d,e]):∃v w,vs=[v,w]/\Rp K L H v d/\Rp K L H w e:=by
 cases r with
 |cons a b=>obtain⟨w,rfl,r⟩:=b.one';exact⟨_,_,rfl,a,r⟩
abbrev ig:List D->Dm D
 |[a],st=>match bT st a with
  |some ds=>some (.int ds.length,st)
  |none=>none
 |_,_=>none
def wA:nP K (λxs H Q=>∃p ys,xs=[.ref p]/\(ez K H p ys\/ej K H p ys)/\Q (.int ys.length) H) ig:=by
 intro L H st xs as b st' Q l rx e q;unfold ig at e;split at e
 ·split at e
  ·next ds hd =>
   cases e;obtain⟨v,rfl,r⟩:=rx.one';obtain⟨p,vs,rfl,s,r⟩:=El l r hd;exact⟨p,vs,rfl,s,q _ H L .refl l (by rw[r.length];exact .int _)⟩
  ·cases e
 ·cases e
abbrev gF:List D->Dm D
 |[.str z],st=>if lim z.length=true then some (.int z.length,st)else none
 |_,_=>none
def zb:nP K (λxs H Q=>∃z,xs=[.str z]/\z.length<=sizeLine/\Q (.int z.length) H) gF:=by
 intro L H st xs as b st' Q l rx e q;unfold gF at e;split at e
 ·split at e
  ·next hl =>
   cases e;obtain⟨v,rfl,r⟩:=rx.one';cases r;exact⟨_,rfl,rR hl,q _ H L .refl l (.int _)⟩
  ·cases e
 ·cases e
abbrev wB:List D->Dm D
 |[a],st=>match bT st a with
  |some ds=>some (.ref st.length,st ++ [.lst ds])
  |none=>none
 |_,_=>none
abbrev gh:List D->Dm D
 |[a],st=>match bT st a with
  |some ds=>some (.tup ds,st)
  |none=>none
 |_,_=>none
def Bp:nP K (λxs H Q=>∃p ys,xs=[.ref p]/\((ez K H p ys/\∀l,H l=none->Q (.ref l) (upd H l (.tup ys)))\/(ej K H p ys/\Q (.ref p) H))) gh:=by
 intro L H st xs as b st' Q l rx e q;unfold gh at e;split at e
 ·split at e
  ·next ds hd =>
   cases e;obtain⟨v,rfl,r⟩:=rx.one';obtain⟨p,vs,rfl,s,r'⟩:=El l r hd;refine⟨p,vs,rfl,?_⟩;rcases s with s|s
   ·exact .inl ⟨s,(got l r' q).new⟩
   ·exact .inr ⟨s,(got l r' q).it s⟩
  ·cases e
 ·cases e
abbrev lH:List D->Dm D
 |[.int i,.int j],st=>some (.int (if j > i then j else i),st)
 |_,_=>none
abbrev wC:List D->Dm D
 |[.int i,.int j],st=>some (.int (if j<i then j else i),st)
 |_,_=>none
def Ie:nP K (λxs H Q=>∃i j,xs=[.int i,.int j]/\Q (.int (if j > i then j else i)) H) lH:=by intro L H st xs as b st' Q l rx e q;unfold lH at e;split at e;cases e;obtain⟨v,w,rfl,r1,r2⟩:=rx.two';cases r1;cases r2;exact⟨_,_,rfl,q _ H L .refl l (.int _)⟩;cases e
abbrev gG:List D->Dm D
 |[.int i],st=>some (.int i,st)
 |[.bl k],st=>some (.int (if k then 1 else 0),st)
 |_,_=>none
def Em:nP K (λxs H Q=>(∃i,xs=[.int i]/\Q (.int i) H)\/∃k,xs=[.bl k]/\Q (.int (if k then 1 else 0)) H) gG:=by intro L H st xs as b st' Q l rx e q;unfold gG at e;split at e;cases e;obtain⟨v,rfl,r⟩:=rx.one';cases r;exact .inl ⟨_,rfl,q _ H L .refl l (.int _)⟩;cases e;obtain⟨v,rfl,r⟩:=rx.one';cases r;exact .inr ⟨_,rfl,q _ H L .refl l (.int _)⟩;cases e
abbrev oY:List D->Dm D
 |[.int j],st=>some (.ref st.length,st ++ [.jE 0 j])
 |_,_=>none
abbrev oZ:List D->Dm D
 |[.int i,.int j],st=>some (.ref st.length,st ++ [.jE i j])
 |_,_=>none
abbrev aE(lo:Int)(n:Nat):List D:=(List.range n).map λ(k:Nat)=>D.int (lo+k)
abbrev qg(lo hi:Int):Bool:=decide (-4611686018427387904<=lo/\lo<4611686018427387904/\-4611686018427387904<=hi/\hi<4611686018427387904) && lim (hi-lo).toNat
abbrev fm(st:Store):D->Option (Int×Int)
 |.ref i=>match st[i]? with
  |some (.jE lo hi)=>some (lo,hi)
  |_=>none
 |_=>none
abbrev rX:List D->Dm D
 |[a],st=>match fm st a with
  |some (lo,hi)=>if qg lo hi=true then some (.ref st.length,st ++ [.lst (aE lo (hi-lo).toNat)])else none
  |none=>none
 |_,_=>none
abbrev o3:List D->Dm D
 |[a],st=>match fm st a with
  |some (lo,hi)=>if qg lo hi=true then some (.tup (aE lo (hi-lo).toNat),st)else none
  |none=>none
 |_,_=>none
abbrev iV:D->Option Int
 |.int i=>some i
 |_=>none
abbrev bV:D->Option Bool
 |.bl i=>some i
 |_=>none
def En{L:List Addr}{H:Hp}:∀{ws:List V} {ds:List D} {ns:List Bool},bj K L H ws ds->b8 bV ds=some ns->ws=ns.map V.bl
 |_,_,_,.nil,h=>by cases h;rfl
 |_,_,_,.cons a b,h=>by
  obtain⟨x,t,h1,h2,rfl⟩:=wx h;rw[En b h2];cases a<;>first|(cases h1;rfl)|cases h1
abbrev jW:List D->Dm D
 |[.ref i],st=>match (items st i).bind (b8 bV)with
  |some bs=>some (.bl (bs.all id),st)
  |none=>none
 |_,_=>none
def Bq:nP K (λxs H Q=>∃(p:Addr) (bs:List Bool),xs=[.ref p]/\ez K H p (bs.map V.bl)/\Q (.bl (bs.all id)) H) jW:=by
 intro L H st xs as b st' Q l rx e q;unfold jW at e;split at e
 ·split at e
  ·next bs hd =>
   cases e;obtain⟨v,rfl,r⟩:=rx.one';obtain⟨ds,h3,h4⟩:=ME.mp hd;cases r with
   |ref hi =>
    obtain⟨vs,s,r⟩:=l.items hi h3;cases En r h4;exact⟨_,bs,rfl,s,q _ H L .refl l (.bl _)⟩
  ·cases e
 ·cases e
abbrev uz(T:String)(st:Store):D->Bool
 |.str _=>T == "str"
 |.tup _=>T == "tuple"
 |.ref i=>T == "list" && (items st i).isSome
 |_=>false
def rY{L:List Addr}{H:Hp}{st:Store}{x:V}{a:D}{T:String}(l:Rl K L H st)(r:Rp K L H x a)(h:uz T st a=true):Au K T x H:=by
 cases r<;>first|(cases h;done)|skip
 ·exact eq_of_beq h
 ·next hi =>
  simp only[uz,Mf]at h;obtain⟨ds,hd⟩:=Mj.mp h.2;obtain⟨vs,s,_⟩:=l.items hi hd;exact .inl ⟨eq_of_beq h.1,vs,s⟩
 ·next s r=>exact .inr (.inl ⟨eq_of_beq h,_,s⟩)
abbrev kH(T:String)(g:D->List D->Dm D)(fo:af->Dm D)(fa:af->Dm (List D)):af->Dm D:=λI st=>bnd (fo I st) λo st1=>if uz T st1 o=true then bnd (fa I st1) λas st2=>g o as st2 else none
def uA{T:String}{r:V->List V->Hp->VK->Prop}{g:D->List D->Dm D}{to:TE}{ta:TA}{fo:af->Dm D}{fa:af->Dm (List D)}(hr:wo K T r g)(ho:bW K to fo)(ha:kl K ta fa):bW K (Df K T r to ta) (kH T g fo fa):=by
 intro L U H I st b st' Q l rs e q;obtain⟨o,st1,e1,e⟩:=aZ e;split at e
 ·next ht =>
  obtain⟨as,st2,e2,e⟩:=aZ e;refine ho L U H I st o st1 _ l rs e1 λx H1 L1 m1 l1 r1=>⟨rY l1 r1 ht,ha L1 U H1 I st1 as st2 _ l1 (rs.mn m1) e2 λxs H2 L2 m2 l2 r2=>?_⟩;exact hr L2 H2 st2 x xs o as b st' Q l2 (r1.mn m2) r2 e λv H3 L3 m3 l3 r3=>q v H3 L3 ((m1.trans m2).trans m3) l3 r3
 ·cases e
abbrev eN:D->List D->Dm D
 |.ref i,[y],st=>match own st i with
  |some xs=>if lim xs.length=true then some (.non,st.set i (.lst (xs ++ [y])))else none
  |none=>none
 |_,_,_=>none
def Br:wo K "list" ll eN:=by
 intro L H st x xs a as b st' Q l rx rZ e q;unfold eN at e;split at e
 ·split at e
  ·next ys hy =>
   split at e
   ·next hl =>
    cases e;obtain⟨v,rfl,r⟩:=rZ.one';cases rx with
    |ref hi =>
     obtain⟨vs,e1,r1⟩:=l.obj _ _ _ hi (uy hy);obtain⟨l2,m2⟩:=l.putL hi (uy hy) (r1.append (.one r));exact⟨_,vs,v,rfl,rfl,e1,by rw[r1.length];exact Bb hl,q _ _ L m2 l2 .non⟩
   ·cases e
  ·cases e
 ·cases e
abbrev jq:D->List D->Dm D
 |.ref i,[.ref j],st=>match own st i,own st j with
  |some xs,some ys=>if lim (xs.length+ys.length)=true then some (.non,st.set i (.lst (xs ++ ys)))else none
  |_,_=>none
 |_,_,_=>none
abbrev kI:D->List D->Dm D
 |.ref i,[.int k],st=>match own st i with
  | some xs=>if decide (-9223372036854775808<=k/\k < 9223372036854775808)=true then match seqIndex? k xs.length with
    |some j=>match xs[j]? with
     |some y=>some (y,st.set i (.lst (xs.eraseIdx j)))
     |none=>none
    |none=>none
   else none
  |none=>none
 |_,_,_=>none
abbrev kJ:D->List D->Dm D
 |.tup ds,[.int v],st=>match b8 iV ds with
  |some ns=>match ns.findIdx? (λi=>decide (i=v))with
   |some j=>some (.int (j:Int),st)
   |none=>none
  |none=>none
 |_,_,_=>none
abbrev jr(st:Store):D->Option String
 |.non=>some "NoneType"
 |.bl _=>some "bool"
 |.int _=>some "int"
 |.str _=>some "str"
 |.tup _=>some "tuple"
 |.ref i=>match st[i]? with
  |some (.lst _)=>some "list"
  |some (.dct _)=>some "dict"
  |_=>none
 |.ty _=>none
abbrev jt:List D->Dm D
 |[a,.ty c],st=>match jr st a with
  |some T=>if T=c then some (.bl true,st)else none
  |none=>none
 |_,_=>none
end
section
variable {K:Zfr}
def Rs.set{L:List Addr}{H:Hp}{U:St}{I:af}{v:V}{d:D}{i:Nat}(h:Rs K L H U I)(r:Rp K L H v d):Rs K L H (U.set i (some v)) (I.set i (some d)):=by
 refine⟨by rw[Mq,Mq];exact h.1,λj e hj=>?_⟩;by_cases hij:i=j;subst hij;have hl:i<I.length:=by
  have:=(LN.mp hj).1
  rwa [Mq]at this
 rw[L8 hl]at hj;cases hj;exact⟨v,by rw[L8 (by rw[h.1];exact hl)],r⟩;rw[Mg hij]at hj;obtain⟨w,hw,rw'⟩:=h.2 j e hj;exact⟨w,by rw[Mg hij];exact hw,rw'⟩
abbrev ou(K:Zfr)(g:TG)(f:D->af->Dm af):Prop :=
 ∀(L:List Addr) (U:St) (H:Hp) (I:af) (st:Store) (v:V) (d:D) (I':af) (st':Store) (Q:St->Hp->Prop),Rl K L H st->Rs K L H U I->Rp K L H v d->f d I st=some (I',st') ->
  (∀U' H' L',Mn K L H L' H'->Rl K L' H' st'->Rs K L' H' U' I'->Q U' H')->g v U H Q
abbrev o4(K:Zfr)(g:mW)(f:List D->af->Dm af):Prop :=
 ∀(L:List Addr) (U:St) (H:Hp) (I:af) (st:Store) (v:List V) (d:List D) (I':af) (st':Store) (Q:St->Hp->Prop),Rl K L H st->Rs K L H U I->bj K L H v d->f d I st=some (I',st') ->
  (∀U' H' L',Mn K L H L' H'->Rl K L' H' st'->Rs K L' H' U' I'->Q U' H')->g v U H Q
abbrev hName(i:Nat):D->af->Dm af:=λd I st=>some (I.set i (some d),st)
def gW(i:Nat):ou K (iX i) (hName i):=by intro L U H I st v d I' st' Q l rs r e q;cases e;exact q _ H L .refl l (rs.set r)
abbrev ma:List D->af->Dm af
 |[],I,st=>some (I,st)
 |_,_,_=>none
abbrev fq(f:D->af->Dm af)(g:List D->af->Dm af):List D->af->Dm af
 |d :: ds,I,st=>bnd (f d I st) λI1 st1=>g ds I1 st1
 |_,_,_=>none
def zc:o4 K vd ma:=by
 intro L U H I st v d I' st' Q l rs r e q;cases r with
 |nil=>cases e;exact⟨rfl,q _ H L .refl l rs⟩
 |cons a b=>cases e
def uB{t:TG}{u:mW}{f:D->af->Dm af}{g:List D->af->Dm af}(hf:ou K t f)(hg:o4 K u g):o4 K (pH t u) (fq f g):=by
 intro L U H I st v d I' st' Q l rs r e q;cases r with
 |nil=>cases e
 |cons a b =>
  obtain⟨I1,st1,e1,e⟩:=aZ e;exact⟨_,_,rfl,hf L U H I st _ _ I1 st1 _ l rs a e1 λU1 H1 L1 m1 l1 r1=>hg L1 U1 H1 I1 st1 _ _ I' st' Q l1 r1 (b.mn m1) e λU2 H2 L2 m2 l2 r2=>q U2 H2 L2 (m1.trans m2) l2 r2⟩
abbrev kK(n:Nat)(f:List D->af->Dm af):D->af->Dm af
 |.tup ds,I,st=>if ds.length=n then f ds I st else none
 |_,_,_=>none
def zd{n:Nat}{t:mW}{f:List D->af->Dm af}(hf:o4 K t f):ou K (qP K n t) (kK n f):=by
 intro L U H I st v d I' st' Q l rs r e q;cases r<;>first|(cases e;done)|skip
 ·next s r =>
  simp only[kK]at e;split at e
  ·next hl=>exact⟨_,_,rfl,s,by rw[r.length];exact hl,hf L U H I st _ _ I' st' Q l rs r e q⟩
  ·cases e
abbrev hSub(fo fi:af->Dm D):D->af->Dm af:=λd I st=>bnd (fo I st) λo st1=>bnd (fi I st1) λi st2=>match o,i with
 |.ref r,.int k=>match own st2 r with
  |some xs=>match jG xs.length k with
   |some j=>some (I,st2.set r (.lst (xs.set j d)))
   |none=>none
  |none=>none
 |_,_=>none
def Eo{to ti:TE}{fo fi:af->Dm D}(ho:bW K to fo)(hi:bW K ti fi):ou K (L2.lW to ti pQ) (hSub fo fi):=by
 intro ρ U H I st v d I' st' Q l rs r e q;obtain⟨o,st1,e1,e⟩:=aZ e;obtain⟨i,st2,e2,e⟩:=aZ e;refine ho ρ U H I st o st1 _ l rs e1 λx H1 ρ1 m1 l1 r1=>hi ρ1 U H1 I st1 i st2 _ l1 (rs.mn m1) e2 λy H2 ρ2 m2 l2 r2=>?_;split at e
 ·split at e
  ·next xs hx =>
   split at e
   ·next j hj =>
    cases e;cases r2;cases r1 with
    |ref hr =>
     have hr2:=m2.r _ _ hr;obtain⟨vs,e3,r3⟩:=l2.obj _ _ _ hr2 (uy hx);obtain⟨l3,m3⟩:=l2.putL hr2 (uy hx) (r3.set (r.mn (m1.trans m2)) j);exact⟨_,vs,_,j,rfl,rfl,e3,by rw[r3.length];exact hj,q U _ ρ2 ((m1.trans m2).trans m3) l3 (rs.mn ((m1.trans m2).trans m3))⟩
   ·cases e
  ·cases e
 ·cases e
abbrev Go(K:Zfr)(L:List Addr)(H:Hp)(st':Store)(E:Ends):Fl->Prop
 |.nx I=>∀U' H' L',Mn K L H L' H'->Rl K L' H' st'->Rs K L' H' U' I->E.nx U' H'
 |.bk I=>∀U' H' L',Mn K L H L' H'->Rl K L' H' st'->Rs K L' H' U' I->E.bk U' H'
 |.ct I=>∀U' H' L',Mn K L H L' H'->Rl K L' H' st'->Rs K L' H' U' I->E.ct U' H'
 |.rt d=>∀v H' L',Mn K L H L' H'->Rl K L' H' st'->Rp K L' H' v d->E.rt v H'
def Go.mn{L L1:List Addr}{H H1:Hp}{st':Store}{E:Ends}{fl:Fl}(g:Go K L H st' E fl)(m:Mn K L H L1 H1):Go K L1 H1 st' E fl:=by cases fl<;>exactλv H' L' m' l r=>g v H' L' (m.trans m') l r
abbrev jH(K:Zfr)(t:TS)(f:af->Dm Fl):Prop :=
 ∀(L:List Addr) (U:St) (H:Hp) (I:af) (st:Store) (fl:Fl) (st':Store) (E:Ends),Rl K L H st->Rs K L H U I->f I st=some (fl,st')->Go K L H st' E fl->t E U H
abbrev bu:af->Dm Fl:=λI st=>some (.nx I,st)
def mK:jH K pE bu:=by intro L U H I st fl st' E l rs e g;cases e;exact g U H L .refl l rs
abbrev ay(f g:af->Dm Fl):af->Dm Fl:=λI st=>bnd (f I st) λfl st1=>match fl with
 |.nx I1=>g I1 st1
 |x=>some (x,st1)
def jX{t u:TS}{f g:af->Dm Fl}(hf:jH K t f)(hg:jH K u g):jH K (oH t u) (ay f g):=by
 intro L U H I st fl st' E l rs e q;obtain⟨x,st1,e1,e⟩:=aZ e;refine hf L U H I st x st1 _ l rs e1 ?_;cases x with
 |nx I1=>exactλU1 H1 L1 m1 l1 r1=>hg L1 U1 H1 I1 st1 fl st' E l1 r1 e (q.mn m1)
 |bk I1=>cases e;exact q
 |ct I1=>cases e;exact q
 |rt d=>cases e;exact q
def mL{c:TT}{t u:TS}{fc:af->Dm Bool}{f g:af->Dm Fl}(hc:kj K c fc)(hf:jH K t f)(hg:jH K u g):jH K (u9 c t u) (gb fc f g):=by
 intro L U H I st fl st' E l rs e q;obtain⟨a,st1,e1,e⟩:=aZ e;refine hc L U H I st _ _ _ l rs e1 λx H1 L1 m1 l1 r1=>?_;subst r1;cases x with
 |true =>
  refine kD ?_;rw[if_pos rfl]at e;exact hf L1 U H1 I st1 fl st' E l1 (rs.mn m1) e (q.mn m1)
 |false =>
  refine kC ?_;rw[if_neg LC]at e;exact hg L1 U H1 I st1 fl st' E l1 (rs.mn m1) e (q.mn m1)
abbrev i7(f:af->Dm D):af->Dm Fl:=λI st=>bnd (f I st) λ_ st1=>some (.nx I,st1)
def Bs{t:TE}{f:af->Dm D}(hf:bW K t f):jH K (pG t) (i7 f):=by intro L U H I st fl st' E l rs e q;obtain⟨a,st1,e1,e⟩:=aZ e;cases e;exact hf L U H I st a _ _ l rs e1 λx H1 L1 m1 l1 r1=>q U H1 L1 m1 l1 (rs.mn m1)
abbrev bB(f:af->Dm D):af->Dm Fl:=λI st=>bnd (f I st) λd st1=>some (.rt d,st1)
def lJ{t:TE}{f:af->Dm D}(hf:bW K t f):jH K (oK t) (bB f):=by intro L U H I st fl st' E l rs e q;obtain⟨a,st1,e1,e⟩:=aZ e;cases e;exact hf L U H I st a _ _ l rs e1 λx H1 L1 m1 l1 r1=>q x H1 L1 m1 l1 r1
abbrev aU(f:af->Dm D)(h:D->af->Dm af):af->Dm Fl:=λI st=>bnd (f I st) λd st1=>bnd (h d I st1) λI1 st2=>some (.nx I1,st2)
def lK{t:TE}{g:TG}{f:af->Dm D}{h:D->af->Dm af}(hf:bW K t f)(hh:ou K g h):jH K (mX t g) (aU f h):=by intro L U H I st fl st' E l rs e q;obtain⟨a,st1,e1,e⟩:=aZ e;obtain⟨I1,st2,e2,e⟩:=aZ e;cases e;exact hf L U H I st a st1 _ l rs e1 λx H1 L1 m1 l1 r1=>hh L1 U H1 I st1 x a I1 _ _ l1 (rs.mn m1) r1 e2 λU2 H2 L2 m2 l2 r2=>q U2 H2 L2 (m1.trans m2) l2 r2
abbrev o5(i j:Nat)(fa:af->Dm (List D)):af->Dm Fl:=λI st=>bnd (fa I st) λas st1=>match as with
 |[a,b]=>some (.nx ((I.set i (some a)).set j (some b)),st1)
 |_=>none
def r8{i j:Nat}{t:TA}{fa:af->Dm (List D)}(ha:kl K t fa):jH K (ve i j t) (o5 i j fa):=by intro L U H I st fl st' E l rs e q;obtain⟨as,st1,e1,e⟩:=aZ e;split at e;cases e;refine ha L U H I st _ _ _ l rs e1 λx H1 L1 m1 l1 r1=>?_;obtain⟨v,w,rfl,r,r'⟩:=r1.two';exact⟨v,w,rfl,q _ H1 L1 m1 l1 (((rs.mn m1).set r).set r')⟩;cases e
abbrev fuel:Nat:=1000000
inductive Src where
 |fix (ds:List D)|live (i:Nat)|Ig (i:Nat)|zl (i:Nat) (es:List D)|zr (ds:List D) (i:Nat)|fn (f:Nat->Store->Option (Option D))
abbrev Src.at:Src->Nat->Store->Option (Option D)
 |.fix ds,i,_=>if i<=ds.length then some ds[i]? else none
 |.live r,i,st=>(items st r).map λds=>ds[i]?
 |.Ig r,i,st=>(items st r).bind λds=>if i<=ds.length then some (ds.mapIdx λi d=>D.tup [.int (i:Int),d])[i]? else none
 |.zl r es,i,st=>(items st r).bind λds=>if i<=(List.zipWith (λa b=>D.tup [a,b]) ds es).length then some (List.zipWith (λa b=>D.tup [a,b]) ds es)[i]? else none
 |.zr ds r,i,st=>(items st r).bind λes=>if i<=(List.zipWith (λa b=>D.tup [a,b]) ds es).length then some (List.zipWith (λa b=>D.tup [a,b]) ds es)[i]? else none
 |.fn f,i,st=>f i st
def qh{ds:List D}{i:Nat}{st:Store}{o:Option D}(h:Src.at (.fix ds) i st=some o):i<=ds.length/\ds[i]?=o:=by
 simp only[Src.at]at h;split at h
 ·next hl=>exact⟨hl,LH h⟩
 ·cases h
abbrev r9(K:Zfr)(L:List Addr)(H:Hp)(J:It)(S:Src):Prop :=
 ∀(L2:List Addr) (H2:Hp) (st2:Store) (i:Nat),Mn K L H L2 H2->Rl K L2 H2 st2 ->
  (S.at i st2=some none->J.stop i H2)/\∀d,S.at i st2=some (some d)->J.go i H2/\∀x H3,J.kz i H2 x H3->Mn K L2 H2 L2 H3/\Rl K L2 H3 st2/\Rp K L2 H3 x d
@[reducible]def qi(K:Zfr)(t:TI)(f:af->Dm Src):Prop:=So K (r9 K) t f
abbrev eA(S:Src)(g:D->af->Dm af)(b:af->Dm Fl):Nat->Nat->af->Dm Fl
 |0,_,_,_=>none
 |n+1,i,I,st=>match S.at i st with
  |none=>none
  |some none=>some (.nx I,st)
  |some (some d)=>bnd (g d I st) λI1 st1=>bnd (b I1 st1) λfl st2=>match fl with
   |.nx I2=>eA S g b n (i+1) I2 st2
   |.ct I2=>eA S g b n (i+1) I2 st2
   |.bk I2=>some (.nx I2,st2)
   |.rt d=>some (.rt d,st2)
abbrev md(fi:af->Dm Src)(g:D->af->Dm af)(b:af->Dm Fl):af->Dm Fl:=λI st=>bnd (fi I st) λS st1=>eA S g b fuel 0 I st1
def ze{wi:TI}{tg:TG}{tb:TS}{fi:af->Dm Src}{g:D->af->Dm af}{b:af->Dm Fl}(hi:qi K wi fi)(hg:ou K tg g)(hb:jH K tb b):jH K (vh wi tg tb) (md fi g b):=by
 intro L U H I st fl st' E l rs e q;obtain⟨S,iq,e0,e⟩:=aZ e;refine hi L U H I st S iq _ l rs e0 λJ H0 L0 m0 l0 ok=>?_;refine⟨λi m U1 H1=>∃L1 I1 st1,Mn K L0 H0 L1 H1/\Rl K L1 H1 st1/\Rs K L1 H1 U1 I1/\eA S g b m i I1 st1=some (fl,st'),⟨fuel,L0,I,iq,.refl,l0,rs.mn m0,e⟩,?_⟩;rintro i m U1 H1 ⟨L1,I1,st1,m1,l1,uC,e1⟩;cases m with
 |zero=>cases e1
 |succ m =>
  obtain⟨hstop,hgo⟩:=ok L1 H1 st1 i m1 l1;unfold eA at e1;split at e1
  ·cases e1
  ·next hs=>cases e1;exact .inl ⟨hstop hs,q.mn (m0.trans m1) U1 H1 L1 .refl l1 uC⟩
  ·next d hs =>
   obtain⟨I2,st2,e2,e1⟩:=aZ e1;obtain⟨f3,st3,e3,e1⟩:=aZ e1;obtain⟨go,kz⟩:=hgo d hs;refine .inr ⟨go,λU3 H3=>∃m',m' < m+1/\∃L1 I1 st1,Mn K L0 H0 L1 H3/\Rl K L1 H3 st1/\Rs K L1 H3 U3 I1/\eA S g b m' (i+1) I1 st1=some (fl,st'),λ_ _ h=>h,λx H2 hy=>?_⟩;obtain⟨m2,l2,r2⟩:=kz x H2 hy;refine hg L1 U1 H2 I1 st1 x d I2 st2 _ l2 (uC.mn m2) r2 e2 λU4 H4 L4 m4 l4 r4=>hb L4 U4 H4 I2 st2 f3 st3 _ l4 r4 e3 ?_;have m5:=((m1.trans m2).trans m4);cases f3 with
   |nx I3=>exactλU5 H5 L5 m6 l5 r5=>⟨m,Mu m,L5,I3,st3,m5.trans m6,l5,r5,e1⟩
   |ct I3=>exactλU5 H5 L5 m6 l5 r5=>⟨m,Mu m,L5,I3,st3,m5.trans m6,l5,r5,e1⟩
   |bk I3=>cases e1;exact q.mn (m0.trans m5)
   |rt d=>cases e1;exact q.mn (m0.trans m5)
abbrev lL(fa:af->Dm D):af->Dm Src:=λI st=>bnd (fa I st) λa st1=>match a with
 |.tup ds=>some (.fix ds,st1)
 |_=>none
def Ih{t:TE}{fa:af->Dm D}(ha:bW K t fa):qi K (vg K t) (lL fa):=by
 intro L U H I st S st' Q l rs e q;obtain⟨a,st1,e1,e⟩:=aZ e;cases a<;>simp at e;obtain⟨rfl,rfl⟩:=e;refine ha L U H I st _ _ _ l rs e1 λx H1 L1 m1 l1 r1=>?_;cases r1 with
 |tup s r =>
  refine⟨_,rfl,⟨_,s⟩,q _ H1 L1 m1 l1 λL2 H2 st2 i m2 l2=>⟨λh=>?_,λd h=>?_⟩⟩;exact⟨_,m2.t _ _ s,by rw[r.length];exact Mh.mp (qh h).2⟩;obtain⟨v,hv,rv⟩:=r.got (qh h).2;refine⟨⟨_,v,m2.t _ _ s,hv⟩,λx H3 y=>?_⟩;obtain⟨rfl,hx⟩:=y;have:=hx _ (m2.t _ _ s);rw[hv]at this;cases this;exact⟨.refl,l2,rv.mn m2⟩
abbrev gj(fa:af->Dm D):af->Dm Src:=λI st=>bnd (fa I st) λa st1=>match a with
 |.ref i=>match items st1 i with
  |some _=>some (.live i,st1)
  |none=>none
 |_=>none
def zf{t:TE}{fa:af->Dm D}(ha:bW K t fa):qi K (pI K t) (gj fa):=by
 intro L U H I st S st' Q l rs e q;obtain⟨a,st1,e1,e⟩:=aZ e;split at e
 ·next k =>
  split at e
  ·next ds hd =>
   cases e;refine ha L U H I st _ _ _ l rs e1 λx H1 L1 m1 l1 r1=>?_;cases r1 with
   |ref hi =>
    obtain⟨vs,s,r⟩:=l1.items hi hd;refine⟨_,rfl,⟨_,s⟩,q _ H1 L1 m1 l1 λL2 H2 st2 i m2 l2=>⟨λh=>?_,λd h=>?_⟩⟩
    ·obtain⟨Ii,hd2,h⟩:=Mc.mp h
     obtain⟨Ep,s2,r2⟩:=l2.items (m2.r _ _ hi) hd2;exact⟨Ep,s2,by rw[r2.length];exact Mh.mp h⟩
    ·obtain⟨Ii,hd2,h⟩:=Mc.mp h
     obtain⟨Ep,s2,r2⟩:=l2.items (m2.r _ _ hi) hd2;obtain⟨v,hv,rv⟩:=r2.got h;refine⟨⟨_,v,s2,hv⟩,λx H3 y=>?_⟩;obtain⟨rfl,hx⟩:=y;have:=hx _ s2;rw[hv]at this;cases this;exact⟨.refl,l2,rv⟩
  ·cases e
 ·cases e
abbrev gk(fa:af->Dm (List D)):af->Dm Src:=λI st=>bnd (fa I st) λas st1=>match as with
 |[.int j]=>if decide (-4611686018427387904<=j/\j<4611686018427387904)=true then some (.fix (aE 0 j.toNat),st1)else none
 |_=>none
abbrev nR(fa:af->Dm (List D)):af->Dm Src:=λI st=>bnd (fa I st) λas st1=>match as with
 |[.int i,.int j]=>if decide ((-4611686018427387904<=i/\i<4611686018427387904)/\-4611686018427387904<=j/\j<4611686018427387904)=true then some (.fix (aE i (j-i).toNat),st1)else none
 |_=>none
def kL(lo:Int)(n:Nat):(aE lo n).length=n:=by simp[aE]
def Er{lo:Int}{n k:Nat}(h:k<n):(aE lo n)[k]?=some (.int (lo+k)):=by simp[aE,h]
def Es{L:List Addr}{H:Hp}(lo:Int)(n:Nat):r9 K L H (uh lo n) (.fix (aE lo n)):=by
 intro L2 H2 st2 i m2 l2;refine⟨λh=>?_,λd h=>?_⟩
 have:=Mh.mp (qh h).2
 rw[kL]at this;exact this;have h:=(qh h).2;have hl:=(LN.mp h).1;rw[kL]at hl;rw[Er hl]at h;cases h;refine⟨hl,λx H3 y=>?_⟩;obtain⟨rfl,rfl⟩:=y;exact⟨.refl,l2,.int _⟩
def zg{t:TA}{fa:af->Dm (List D)}(ha:kl K t fa):qi K (pJ t) (gk fa):=by
 intro L U H I st S st' Q l rs e q;obtain⟨as,st1,e1,e⟩:=aZ e;split at e
 ·split at e
  ·next ok =>
   cases e;have ok:=of_decide_eq_true ok;refine ha L U H I st _ _ _ l rs e1 λx H1 L1 m1 l1 r1=>?_;obtain⟨v,rfl,r⟩:=r1.one';cases r;exact⟨_,rfl,by lk,by lk,q _ H1 L1 m1 l1 (Es 0 _)⟩
  ·cases e
 ·cases e
abbrev qj(ds:List D):List D:=ds.mapIdx λi d=>.tup [.int (i:Int),d]
abbrev nS(fa:af->Dm (List D)):af->Dm Src:=λI st=>bnd (fa I st) λas st1=>match as with
 |[.tup ds]=>some (.fix (qj ds),st1)
 |_=>none
abbrev dw(S:Src)(g:D->af->Dm af)(tc:af->Dm Bool)(te:af->Dm D):Nat->Nat->List D->af->Dm (List D)
 |0,_,_,_,_=>none
 |n+1,i,ys,I,st=>if lim ys.length=true then match S.at i st with
  |none=>none
  |some none=>some (ys,st)
  |some (some d)=>bnd (g d I st) λI1 st1=>bnd (tc I1 st1) λt st2=>if t=true then bnd (te I1 st2) λy st3=>dw S g tc te n (i+1) (ys ++ [y]) I1 st3 else dw S g tc te n (i+1) ys I1 st2
  else none
abbrev jY(n:Nat)(js:List Nat)(I:af):af:=List.replicate n none ++ js.map λj=>I.getD j none
abbrev cz(fi:af->Dm Src)(n:Nat)(js:List Nat)(g:D->af->Dm af)(tc:af->Dm Bool)(te:af->Dm D):af->Dm D:=λI st=>bnd (fi I st) λS st1=>bnd (dw S g tc te fuel 0 [] (jY n js I) st1) λys st2=>some (.ref st2.length,st2 ++ [.lst ys])
def Rs.comp{L:List Addr}{H:Hp}{U:St}{I:af}(h:Rs K L H U I)(n:Nat)(js:List Nat):Rs K L H (bq n js U) (jY n js I):=by
 unfold bq jY;refine⟨by simp,λi d hd=>?_⟩;by_cases hi:i<n;rw[L0 (by simpa using hi),Ms,if_pos hi]at hd;cases hd;rw[LV (by simpa using MY hi),L3]at hd;rw[LV (by simpa using MY hi),L3];simp only[Mk]at hd ⊢;cases hj:js[i-n]? with
 |none=>rw[hj]at hd;cases hd
 |some j =>
  rw[hj]at hd;have hd:I.getD j none=some d:=LH hd;rw[MA]at hd;have hd':I[j]?=some (some d):=by
   cases hx:I[j]? with
   |none=>rw[hx]at hd;cases hd
   |some y=>rw[hx]at hd;exact congrArg some hd
  obtain⟨v,hv,r⟩:=h.2 j d hd';exact⟨v,by show some (U.getD j none)=_;rw[MA,hv];rfl,r⟩
def Et{wi:TI}{tg:TG}{tc:TT}{te:TE}{fi:af->Dm Src}{n:Nat}{js:List Nat}{g:D->af->Dm af}{c:af->Dm Bool}{f:af->Dm D}{L:List Addr}{U:St}{H:Hp}{I:af}{st:Store}{b:D}{st':Store}{Q:VK}(hi:∀S iq R,fi I st=some (S,iq)->(∀J H' L',Mn K L H L' H'->Rl K L' H' iq->r9 K L' H' J S->R J H')->wi U H R)(hg:ou K tg g)(hc:kj K tc c)(hf:bW K te f)(rs:Rs K L H U I)(e:cz fi n js g c f I st=some (b,st'))(q:∀a H' L',Mn K L H L' H'->Rl K L' H' st'->Rp K L' H' a b->Q a H'):gA wi n js tg tc te U H Q:=by
 obtain⟨S,iq,e0,e⟩:=aZ e;obtain⟨zs,nU,e9,e⟩:=aZ e;cases e;refine hi S iq _ e0 λJ H0 L0 m0 l0 ok=>?_;refine⟨λi m ys U1 H1=>∃L1 I1 st1 ws,Mn K L0 H0 L1 H1/\Rl K L1 H1 st1/\Rs K L1 H1 U1 I1/\bj K L1 H1 ys ws/\dw S g c f m i ws I1 st1=some (zs,nU),⟨fuel,L0,_,iq,[],.refl,l0,(rs.mn m0).comp n js,.nil,e9⟩,?_⟩;rintro i m ys U1 H1 ⟨L1,I1,st1,ws,m1,l1,uC,o6,e1⟩;cases m with
 |zero=>cases e1
 |succ m =>
  obtain⟨hstop,hgo⟩:=ok L1 H1 st1 i m1 l1;unfold dw at e1;split at e1
  ·next hl =>
   refine⟨by rw[o6.length];exact Bb hl,?_⟩;split at e1
   ·cases e1
   ·next hs =>
    cases e1;exact .inl ⟨hstop hs,λp hp=>q _ _ _ ((m0.trans m1).trans (Mn.new hp)) (l1.newL hp o6) (.ref (newR l1))⟩
   ·next d hs =>
    obtain⟨I2,st2,e2,e1⟩:=aZ e1;obtain⟨t,st3,e3,e1⟩:=aZ e1;obtain⟨go,kz⟩:=hgo d hs;refine .inr ⟨go,λx H2 hy=>?_⟩;obtain⟨m2,l2,r2⟩:=kz x H2 hy;refine hg L1 U1 H2 I1 st1 x d I2 st2 _ l2 (uC.mn m2) r2 e2 λU4 H4 L4 m4 l4 r4=>hc L4 U4 H4 I2 st2 t st3 _ l4 r4 e3 λt' H5 L5 m5 l5 r5=>?_;subst r5;have m6:=(((m1.trans m2).trans m4).trans m5);cases t' with
    |true =>
     refine kD ?_;rw[if_pos rfl]at e1;obtain⟨y,o7,e6,e1⟩:=aZ e1;exact hf L5 U4 H5 I2 st3 y o7 _ l5 (r4.mn m5) e6 λv H7 L7 m7 l7 r7=>⟨m,Mu m,L7,I2,o7,ws ++ [y],m6.trans m7,l7,r4.mn (m5.trans m7),(o6.mn (((m2.trans m4).trans m5).trans m7)).append (.one r7),e1⟩
    |false =>
     refine kC ?_;rw[if_neg LC]at e1;exact⟨m,Mu m,L5,I2,st3,ws,m6,l5,r4.mn m5,o6.mn ((m2.trans m4).trans m5),e1⟩
  ·cases e1
def uD{wi:TI}{tg:TG}{tc:TT}{te:TE}{fi:af->Dm Src}{n:Nat}{js:List Nat}{g:D->af->Dm af}{c:af->Dm Bool}{f:af->Dm D}(hi:qi K wi fi)(hg:ou K tg g)(hc:kj K tc c)(hf:bW K te f):bW K (gA wi n js tg tc te) (cz fi n js g c f) :=
 λL U H I st _ _ _ l rs e q=>Et (λS iq R e0 r=>hi L U H I st S iq R l rs e0 r) hg hc hf rs e q
abbrev cB:af->Dm Bool:=λ_ st=>some (true,st)
abbrev iQ(n:Nat)(b:af->Dm Fl):List D->Dm D:=λds st=>bnd (b (ds.map some ++ List.replicate (n-ds.length) none) st) λfl st1=>match fl with
 |.rt d=>some (d,st1)
 |.nx _=>some (.non,st1)
 |_=>none
def Rs.start{L:List Addr}{H:Hp}{vs:List V}{ds:List D}(r:bj K L H vs ds)(N:List Str):Rs K L H (start N vs) (ds.map some ++ List.replicate (N.length-ds.length) none):=by
 unfold L2.start;rw[r.length];refine⟨by simp[r.length],λi d hd=>?_⟩;by_cases hi:i<ds.length;rw[L0 (by simpa using hi),L3]at hd;rw[L0 (by rw[LG,r.length];exact hi),L3];cases hx:ds[i]? with
 |none=>rw[hx]at hd;cases hd
 |some y =>
  rw[hx]at hd;cases hd;obtain⟨v,hv,rv⟩:=r.got hx;exact⟨v,by rw[hv];rfl,rv⟩
 rw[LV (by simpa using MY hi),Ms]at hd;split at hd<;>cases hd
def nV{N:List Str}{k n:Nat}{t:TS}{b:af->Dm Fl}{vs:List V}{H:Hp}{Q:VK}{E:XK}(hb:jH K t b)(hn:N.length=n)(h:gg K k (iQ n b) vs H Q E):t { nx:=λ_ H'=>Q .non H',rt:=Q } (start N vs) H:=by
 obtain⟨hk,L,st,ds,d,st',l,r,e,q⟩:=h;subst hn;obtain⟨fl,st1,e1,e⟩:=aZ e;refine hb L _ H _ st fl st1 _ l (Rs.start r N) e1 ?_;cases fl with
 |rt v=>cases e;exact q
 |nx I=>cases e;exactλU' H' L' m l' r'=>q .non H' L' m l' .non
 |bk I=>cases e
 |ct I=>cases e
end
section
variable {X:Cx}{K:Zfr}
def qk:kj K (λ_ H Q=>Q true H) cB:=by intro L U H I st b st' Q l rs e q;cases e;exact q _ H L .refl l rfl
end
abbrev ql(K:Zfr):Sp:=λvs H Q _=>∃(a:Addr) (ns:List Int),vs=[.ref a]/\vE K H a (ns.map V.int)/\ns.length<=63/\∀H',Q (.bl true) H'
def sd{P:Program}{w:World}{K:Zfr}{mg:Str->Option Value}{base:Heap}{k:Nat}{f:Addr}{fd:FuncData}{ps:List Str}{F:List D->Dm D}(G:aN P w K mg base dm k f fd ps (gg K 1 F))
  (h:∀ns:List Int,ns.length<=63->∃st',F [.ref 0] [.jT (ns.map D.int)]=some (.bl true,st')):aN P w K mg base dm k f fd ps (ql K):=by
 refine G.imp λvs H Q E hs=>?_;obtain⟨a,ns,rfl,hS,hn,q⟩:=hs;obtain⟨st',e⟩:=h ns hn;have one:∀i (b:Addr),([a]:List Addr)[i]?=some b->i=0/\b=a:=λi b h=>by
  cases i with
  |zero=>exact⟨rfl,(LH h).symm⟩
  |succ i=>simp at h
 refine⟨rfl,[a],[.jT (ns.map D.int)],[.ref 0],.bl true,st',⟨rfl,λi j b o o' h1 h2 _ _ _ _=>by rw[(one i b h1).1,(one j b h2).1],λi b o h1 h2=>?_⟩,.one (.ref rfl),e,λv H' L' m l r=>by cases r;exact q H'⟩;obtain⟨rfl,rfl⟩:=one i b h1;cases(LH h2);exact⟨ns.map V.int,hS,bj.ints ns⟩
abbrev Wp{J:Type}(m:Option (J×Store))(Q:J->Store->Prop):Prop:=∃a st,m=some (a,st)/\Q a st
section
variable {J S:Type}{Q Q':J->Store->Prop}{st:Store}{I:af}
def bf{m:Option (J×Store)}(h:Wp m Q)(hq:∀a st,Q a st->Q' a st):Wp m Q':=let ⟨a,st,e,q⟩:=h;⟨a,st,e,hq a st q⟩
def aB{a:J}:Wp (some (a,st)) Q↔Q a st:=⟨λ⟨_,_,e,q⟩=>by cases e;exact q,λq=>⟨a,st,rfl,q⟩⟩
def cg:Wp (none:Option (J×Store)) Q↔False:=⟨λ⟨_,_,e,_⟩=>(by cases e),False.elim⟩
def bI{R:S->Store->Prop}{m:Option (J×Store)}{k:J->Dm S}:Wp (bnd m k) R↔Wp m λa st1=>Wp (k a st1) R:=by
 cases m with
 |none=>exact⟨λ⟨_,_,e,_⟩=>(by cases e),λ⟨_,_,e,_⟩=>(by cases e)⟩
 |some p=>exact⟨λh=>⟨p.1,p.2,rfl,h⟩,λ⟨a,s,e,h⟩=>by cases e;exact h⟩
def iu{c:Prop}[Decidable c]{m n:Option (J×Store)}:Wp (if c then m else n) Q↔if c then Wp m Q else Wp n Q:=by split<;>exact Iff.rfl
end
section
variable {st:Store}{I:af}{Q:D->Store->Prop}
def se{i:Nat}:Wp (ag i I st) Q↔∃d,I[i]?=some (some d)/\Q d st:=by
 unfold ag;split
 ·next d hd=>rw[aB];exact⟨λh=>⟨d,hd,h⟩,λ⟨e,he,h⟩=>by rw[hd]at he;cases he;exact h⟩
 ·next h=>rw[cg];exact⟨False.elim,λ⟨e,he,_⟩=>h e he⟩
def Bt{d:D}:Wp (fC d I st) Q↔Q d st:=aB
def wD{g:D->D->Dm D}{fa fb:af->Dm D}:Wp (aC g fa fb I st) Q↔Wp (fa I st) λa st1=>Wp (fb I st1) λb st2=>Wp (g a b st2) Q:=by unfold aC;rw[bI];simp only[bI]
def wF{g:D->Dm D}{fa:af->Dm D}:Wp (yZ g fa I st) Q↔Wp (fa I st) λa st1=>Wp (g a st1) Q:=bI
def wG{g:List D->Dm D}{fa:af->Dm (List D)}:Wp (br g fa I st) Q↔Wp (fa I st) λa st1=>Wp (g a st1) Q:=bI
def sf{R:List D->Store->Prop}:Wp (aj I st) R↔R [] st:=aB
def Ij{R:List D->Store->Prop}{fa:af->Dm D}{fr:af->Dm (List D)}:Wp (ae fa fr I st) R↔Wp (fa I st) λa st1=>Wp (fr I st1) λr st2=>R (a :: r) st2:=by unfold ae;rw[bI];simp only[bI,aB]
def sh{fa:af->Dm (List D)}:Wp (fA fa I st) Q↔Wp (fa I st) λas st1=>lim as.length=true/\Q (.tup as) st1:=by unfold fA;rw[bI];simp only[iu,aB,cg];constructor<;>exactλh=>bf h λa s h=>by first|(split at h;exact⟨by assumption,h⟩;exact h.elim)|(rw[if_pos h.1];exact h.2)
def si{fa:af->Dm (List D)}:Wp (eo fa I st) Q↔Wp (fa I st) λas st1=>lim as.length=true/\Q (.ref st1.length) (st1 ++ [.lst as]):=by unfold eo;rw[bI];simp only[iu,aB,cg];constructor<;>exactλh=>bf h λa s h=>by first|(split at h;exact⟨by assumption,h⟩;exact h.elim)|(rw[if_pos h.1];exact h.2)
def Ik{R:Bool->Store->Prop}{fa:af->Dm D}:Wp (ax fa I st) R↔Wp (fa I st) λa st1=>∃b,a=.bl b/\R b st1:=by unfold ax;rw[bI];constructor<;>refineλh=>bf h λa s h=>?_;cases a<;>simp only[aB,cg]at h;exact⟨_,rfl,h⟩;obtain⟨b,rfl,h⟩:=h;exact aB.mpr h
def sj{R:Bool->Store->Prop}{fa:af->Dm Bool}:Wp (oW fa I st) R↔Wp (fa I st) λa st1=>R (!a) st1:=by unfold oW;rw[bI];simp only[aB]
def sk{R:Bool->Store->Prop}{fa fb:af->Dm Bool}:Wp (l9 fa fb I st) R↔Wp (fa I st) λa st1=>if a=true then Wp (fb I st1) R else R false st1:=by unfold l9;rw[bI];simp only[iu,aB]
def wH{R:Bool->Store->Prop}{fa fb:af->Dm Bool}:Wp (oo fa fb I st) R↔Wp (fa I st) λa st1=>if a=true then R true st1 else Wp (fb I st1) R:=by unfold oo;rw[bI];simp only[iu,aB]
def qm{J:Type}{R:J->Store->Prop}{c:af->Dm Bool}{fa fb:af->Dm J}:Wp (gb c fa fb I st) R↔Wp (c I st) λa st1=>if a=true then Wp (fa I st1) R else Wp (fb I st1) R:=by unfold gb;rw[bI];simp only[iu]
def Il{fa fb:af->Dm D}:Wp (dY fa fb I st) Q↔Wp (ax fa I st) λa st1=>if a=true then Wp (fb I st1) Q else Q (.bl false) st1:=by unfold dY;rw[bI];simp only[iu,aB]
def sm{fa fb:af->Dm D}:Wp (oX fa fb I st) Q↔Wp (ax fa I st) λa st1=>if a=true then Q (.bl true) st1 else Wp (fb I st1) Q:=by unfold oX;rw[bI];simp only[iu,aB]
def Im{fa:af->Dm D}:Wp (qc fa I st) Q↔Wp (ax fa I st) λa st1=>Q (.bl (!a)) st1:=by unfold qc;rw[bI];simp only[aB]
def Io{R:Option Int->Store->Prop}:Wp (aL I st) R↔R none st:=aB
def Ip{R:Option Int->Store->Prop}{fa:af->Dm D}:Wp (bt fa I st) R↔Wp (fa I st) λa st1=>∃i,a=.int i/\R (some i) st1:=by unfold bt;rw[bI];constructor<;>refineλh=>bf h λa s h=>?_;cases a<;>simp only[aB,cg]at h;exact⟨_,rfl,h⟩;obtain⟨b,rfl,h⟩:=h;exact aB.mpr h
def wI{g:D->Option Int->Option Int->Dm D}{fa:af->Dm D}{fl fh:af->Dm (Option Int)}:Wp (iJ g fa fl fh I st) Q↔Wp (fa I st) λa st1=>Wp (fl I st1) λlo st2=>Wp (fh I st2) λhi st3=>Wp (g a lo hi st3) Q:=by unfold iJ;rw[bI];simp only[bI]
def wJ{T:String}{g:D->List D->Dm D}{fo:af->Dm D}{fa:af->Dm (List D)}:Wp (kH T g fo fa I st) Q↔Wp (fo I st) λo st1=>uz T st1 o=true/\Wp (fa I st1) λas st2=>Wp (g o as st2) Q:=by unfold kH;rw[bI];simp only[iu,bI,cg];constructor<;>exactλh=>bf h λa s h=>by first|(split at h;exact⟨by assumption,h⟩;exact h.elim)|(rw[if_pos h.1];exact h.2)
variable {i j:Int}{ds es:List D}{k:Nat}
def sr:Wp (er (.int i) (.int j) st) Q↔Q (.int (i+j)) st:=aB
def su:Wp (lW (.int i) (.int j) st) Q↔Q (.int (i-j)) st:=aB
def wK:Wp (oq (.int i) (.int j) st) Q↔Q (.bl (decide (i<j))) st:=aB
def wL:Wp (HZ (.int i) (.int j) st) Q↔Q (.bl (decide (i<=j))) st:=aB
def wM:Wp (ux (.int i) (.int j) st) Q↔Q (.bl (decide (j<i))) st:=aB
def wN:Wp (Bd (.int i) (.int j) st) Q↔Q (.bl (decide (j<=i))) st:=aB
def sv:Wp (Bh (.int i) st) Q↔Q (.int (-i)) st:=aB
def zh{c:Int->Int->Bool}{h:Int->Int->D}:Wp (rW c h (.int i) (.int j) st) Q↔c i j=true/\Q (h i j) st:=by
 show Wp (if c i j=true then some (h i j,st)else none) Q↔_;rw[iu,aB,cg];split
 ·next h=>exact⟨λq=>⟨h,q⟩,λq=>q.2⟩
 ·next h=>exact⟨False.elim,λq=>h q.1⟩
def sx:Wp (hZ (.int i) (.int j) st) Q↔((-18446744073709551616<i/\i<18446744073709551616)\/(-18446744073709551616<j/\j<18446744073709551616))/\Q (.int (i*j)) st:=by unfold hZ;rw[zh,Bool.or_eq_true,decide_eq_true_eq,decide_eq_true_eq]
def Iq:Wp (jU (.int i) (.int j) st) Q↔(0<j/\j<1073741824)/\Q (.int (i / j)) st:=by unfold jU;rw[zh,decide_eq_true_eq]
def sy:Wp (ia (.int i) (.int j) st) Q↔0<j/\Q (.int (i % j)) st:=by unfold ia;rw[zh,decide_eq_true_eq]
def sA:Wp (nQ (.int i) (.int j) st) Q↔(0<=j/\j<=1000000/\i.natAbs<18446744073709551616)/\Q (.int (i ^ j.toNat)) st:=by unfold nQ;rw[zh,decide_eq_true_eq]
def sC{neg:Bool}:Wp (eM neg (.int i) (.int j) st) Q↔Q (.bl (if neg then !decide (i=j)else decide (i=j))) st:=by
 have e:decide (V.int i=V.int j)=decide (i=j):=by
  by_cases h:i=j;subst h;simp;simp[h]
 show Wp (if gZ (V.int i) (V.int j)=true then some (D.bl (if neg then !decide (V.int i=V.int j)else decide (V.int i=V.int j)),st)else none) Q↔_;rw[if_pos (show gZ _ _=true from rfl),aB,e]
def sD{neg:Bool}{x y:Str}:Wp (eM neg (.str x) (.str y) st) Q↔Q (.bl (if neg then !decide (x=y)else decide (x=y))) st:=by
 have e:decide (V.str x=V.str y)=decide (x=y):=by
  by_cases h:x=y;subst h;simp;simp[h]
 show Wp (if gZ (V.str x) (V.str y)=true then some (D.bl (if neg then !decide (V.str x=V.str y)else decide (V.str x=V.str y)),st)else none) Q↔_;rw[if_pos (show gZ _ _=true from rfl),aB,e]
def sE:Wp (Bj (.tup ds) (.int i) st) Q↔∃d,fL ds i=some d/\Q d st:=by
 show Wp (match fL ds i with|some d=>some (d,st)|none=>none) Q↔_;cases fL ds i with
 |none=>rw[cg];exact⟨False.elim,λ⟨_,e,_⟩=>by cases e⟩
 |some d=>rw[aB];exact⟨λq=>⟨d,rfl,q⟩,λ⟨_,e,q⟩=>by cases e;exact q⟩
def zi:Wp (dv (.ref k) (.int i) st) Q↔∃ds d,items st k=some ds/\fL ds i=some d/\Q d st:=by
 show Wp (match items st k with|some ds=>(match fL ds i with|some d=>some (d,st)|none=>none)|none=>none) Q↔_;cases items st k with
 |none=>rw[cg];exact⟨False.elim,λ⟨_,_,e,_⟩=>by cases e⟩
 |some ds =>
  show Wp (match fL ds i with|some d=>some (d,st)|none=>none) Q↔_;cases h:fL ds i with
  |none=>rw[cg];exact⟨False.elim,λ⟨_,_,e,e',_⟩=>by cases e;rw[h]at e';cases e'⟩
  |some d=>rw[aB];exact⟨λq=>⟨ds,d,rfl,h,q⟩,λ⟨_,_,e,e',q⟩=>by cases e;rw[h]at e';cases e';exact q⟩
def sF{lo hi:Option Int}:Wp (Bm (.tup ds) lo hi st) Q↔Q (.tup (cutD ds lo hi)) st:=aB
def sG{lo hi:Option Int}:Wp (ib (.ref k) lo hi st) Q↔∃ds,items st k=some ds/\Q (.ref st.length) (st ++ [.lst (cutD ds lo hi)]):=by
 show Wp (match items st k with|some ds=>some (D.ref st.length,st ++ [O.lst (cutD ds lo hi)])|none=>none) Q↔_;cases items st k with
 |none=>rw[cg];exact⟨False.elim,λ⟨_,e,_⟩=>by cases e⟩
 |some ds=>rw[aB];exact⟨λq=>⟨ds,rfl,q⟩,λ⟨_,e,q⟩=>by cases e;exact q⟩
def Ir:Wp (wz (.tup ds) (.tup es) st) Q↔lim (ds.length+es.length)=true/\Q (.tup (ds ++ es)) st:=by
 show Wp (if lim (ds.length+es.length)=true then some (D.tup (ds ++ es),st)else none) Q↔_;rw[iu,aB,cg];split
 ·next h=>exact⟨λq=>⟨h,q⟩,λq=>q.2⟩
 ·next h=>exact⟨False.elim,λq=>h q.1⟩
def Eu{a b:Nat}:Wp (ie (.ref a) (.ref b) st) Q↔∃xs ys,own st a=some xs/\own st b=some ys/\lim (xs.length+ys.length)=true/\Q (.ref st.length) (st ++ [.lst (xs ++ ys)]):=by
 show Wp (match own st a,own st b with|some xs,some ys=>if lim (xs.length+ys.length)=true then some (D.ref st.length,st ++ [O.lst (xs ++ ys)])else none|_,_=>none) Q↔_;cases ha:own st a<;>cases hb:own st b
 ·simp only[cg];exact⟨False.elim,λ⟨_,_,e,_⟩=>by cases e⟩
 ·simp only[cg];exact⟨False.elim,λ⟨_,_,e,_⟩=>by cases e⟩
 ·simp only[cg];exact⟨False.elim,λ⟨_,_,_,e,_⟩=>by cases e⟩
 ·next xs ys =>
  show Wp (if lim (xs.length+ys.length)=true then some (D.ref st.length,st ++ [O.lst (xs ++ ys)])else none) Q↔_;rw[iu,aB,cg];split
  ·next h=>exact⟨λq=>⟨_,_,rfl,rfl,h,q⟩,λ⟨_,_,e,e',_,q⟩=>by cases e;cases e';exact q⟩
  ·next h=>exact⟨False.elim,λ⟨_,_,e,e',q,_⟩=>by cases e;cases e';exact h q⟩
def sH{a:D}:Wp (ig [a] st) Q↔∃ds,bT st a=some ds/\Q (.int ds.length) st:=by
 show Wp (match bT st a with|some ds=>some (D.int ds.length,st)|none=>none) Q↔_;cases bT st a with
 |none=>rw[cg];exact⟨False.elim,λ⟨_,e,_⟩=>by cases e⟩
 |some ds=>rw[aB];exact⟨λq=>⟨ds,rfl,q⟩,λ⟨_,e,q⟩=>by cases e;exact q⟩
def Iu{a:D}:Wp (wB [a] st) Q↔∃ds,bT st a=some ds/\Q (.ref st.length) (st ++ [.lst ds]):=by
 show Wp (match bT st a with|some ds=>some (D.ref st.length,st ++ [O.lst ds])|none=>none) Q↔_;cases bT st a with
 |none=>rw[cg];exact⟨False.elim,λ⟨_,e,_⟩=>by cases e⟩
 |some ds=>rw[aB];exact⟨λq=>⟨ds,rfl,q⟩,λ⟨_,e,q⟩=>by cases e;exact q⟩
def Iv{a:D}:Wp (gh [a] st) Q↔∃ds,bT st a=some ds/\Q (.tup ds) st:=by
 show Wp (match bT st a with|some ds=>some (D.tup ds,st)|none=>none) Q↔_;cases bT st a with
 |none=>rw[cg];exact⟨False.elim,λ⟨_,e,_⟩=>by cases e⟩
 |some ds=>rw[aB];exact⟨λq=>⟨ds,rfl,q⟩,λ⟨_,e,q⟩=>by cases e;exact q⟩
def Iw:Wp (lH [.int i,.int j] st) Q↔Q (.int (if j > i then j else i)) st:=aB
def Iy:Wp (wC [.int i,.int j] st) Q↔Q (.int (if j<i then j else i)) st:=aB
def Iz:Wp (gG [.int i] st) Q↔Q (.int i) st:=aB
def Ew{b:Bool}:Wp (gG [.bl b] st) Q↔Q (.int (if b then 1 else 0)) st:=aB
def IA:Wp (oY [.int j] st) Q↔Q (.ref st.length) (st ++ [.jE 0 j]):=aB
def IB:Wp (oZ [.int i,.int j] st) Q↔Q (.ref st.length) (st ++ [.jE i j]):=aB
def IC{y:D}:Wp (eN (.ref k) [y] st) Q↔∃xs,own st k=some xs/\lim xs.length=true/\Q .non (st.set k (.lst (xs ++ [y]))):=by
 show Wp (match own st k with|some xs=>if lim xs.length=true then some (D.non,st.set k (O.lst (xs ++ [y])))else none|none=>none) Q↔_;cases own st k with
 |none=>rw[cg];exact⟨False.elim,λ⟨_,e,_⟩=>by cases e⟩
 |some xs =>
  show Wp (if lim xs.length=true then some (D.non,st.set k (O.lst (xs ++ [y])))else none) Q↔_;rw[iu,aB,cg];split
  ·next h=>exact⟨λq=>⟨_,rfl,h,q⟩,λ⟨_,e,_,q⟩=>by cases e;exact q⟩
  ·next h=>exact⟨False.elim,λ⟨_,e,q,_⟩=>by cases e;exact h q⟩
end
abbrev Ws(m:Option (Fl×Store))(N B C:af->Store->Prop)(R:D->Store->Prop):Prop:=Wp m λfl st=>match fl with
 |.nx I=>N I st
 |.bk I=>B I st
 |.ct I=>C I st
 |.rt d=>R d st
section
variable {st:Store}{I:af}{N B C:af->Store->Prop}{R:D->Store->Prop}{f g:af->Dm Fl}{e:af->Dm D}
def zj{m:Option (Fl×Store)}{N':af->Store->Prop}(h:Ws m N B C R)(hn:∀I st,N I st->N' I st):Ws m N' B C R:=bf h λfl st q=>by
 cases fl with
 |nx I=>exact hn I st q
 |bk I=>exact q
 |ct I=>exact q
 |rt d=>exact q
def bN(h:Ws (f I st) (λI1 st1=>Ws (g I1 st1) N B C R) B C R):Ws (ay f g I st) N B C R:=by
 unfold Ws ay;rw[bI];refine bf h λfl st1 q=>?_;cases fl with
 |nx I1=>exact q
 |bk I1=>exact aB.mpr q
 |ct I1=>exact aB.mpr q
 |rt d=>exact aB.mpr q
def iK(h:N I st):Ws (bu I st) N B C R:=aB.mpr h
def zk{t:D->af->Dm af}(h:Wp (e I st) λd st1=>Wp (t d I st1) N):Ws (aU e t I st) N B C R:=by unfold Ws aU;rw[bI];refine bf h λd st1 q=>?_;rw[bI];exact bf q λI1 st2 q=>aB.mpr q
def eu{i:Nat}(h:Wp (e I st) λd st1=>N (I.set i (some d)) st1):Ws (aU e (hName i) I st) N B C R:=zk (bf h λd st1 q=>aB.mpr q)
def Bu(h:Wp (e I st) λ_ st1=>N I st1):Ws (i7 e I st) N B C R:=by unfold Ws i7;rw[bI];exact bf h λd st1 q=>aB.mpr q
def fU(h:Wp (e I st) R):Ws (bB e I st) N B C R:=by unfold Ws bB;rw[bI];exact bf h λd st1 q=>aB.mpr q
def iw{c:af->Dm Bool}(h:Wp (c I st) λb st1=>(b=true->Ws (f I st1) N B C R)/\(b=false->Ws (g I st1) N B C R)):Ws (gb c f g I st) N B C R:=by
 unfold Ws;rw[qm];refine bf h λb st1 q=>?_;cases b with
 |true=>rw[if_pos rfl];exact q.1 rfl
 |false=>rw[if_neg LC];exact q.2 rfl
def sI{i j:Nat}{fa:af->Dm (List D)}(h:Wp (fa I st) λas st1=>∃a b,as=[a,b]/\N ((I.set i (some a)).set j (some b)) st1):Ws (o5 i j fa I st) N B C R:=by unfold Ws o5;rw[bI];refine bf h λas st1 q=>?_;obtain⟨a,b,rfl,q⟩:=q;exact aB.mpr q
def kM{n:Nat}{b:af->Dm Fl}{ds:List D}(h:Ws (b (ds.map some ++ List.replicate (n-ds.length) none) st) (λ_ st1=>R .non st1) (λ_ _=>False) (λ_ _=>False) R):Wp (iQ n b ds st) R:=by
 unfold iQ;rw[bI];refine bf h λfl st1 q=>?_;cases fl with
 |nx I1=>exact aB.mpr q
 |bk I1=>exact q.elim
 |ct I1=>exact q.elim
 |rt d=>exact aB.mpr q
def Bv{fi:af->Dm Src}{t:D->af->Dm af}{b:af->Dm Fl}(ds:List D)(Pv:Nat->af->Store->Prop)(hi:Wp (fi I st) λS st1=>S=.fix ds/\Pv 0 I st1)(hl:ds.length<100000)
  (step:∀i d I st,ds[i]?=some d->Pv i I st->Wp (t d I st) λI1 st1=>Ws (b I1 st1) (Pv (i+1)) N (Pv (i+1)) R) (fin:∀I st,Pv ds.length I st->N I st):Ws (md fi t b I st) N B C R:=by
 unfold Ws md;rw[bI];refine bf hi λS iq q=>?_;obtain⟨rfl,h0⟩:=q;have key:∀(k i:Nat) (I:af) (st:Store),i<=ds.length->ds.length-i<k->Pv i I st->Ws (eA (.fix ds) t b k i I st) N B C R:=by
  intro k
  induction k with
  |zero=>intro i I st _ h;exact absurd h (Nat.not_lt_zero _)
  |succ k ih =>
   intro i I st hi hk hw;unfold Ws eA;have e:Src.at (.fix ds) i st=some ds[i]?:=by show(if i<=ds.length then some ds[i]? else none)=_;rw[if_pos hi]
   rw[e];cases hd:ds[i]? with
   |none =>
    have:=Mh.mp hd;have e:i=ds.length:=by lk
    exact aB.mpr (fin I st (e ▸ hw))
   |some d =>
    have hlt:=(LN.mp hd).1;show Wp (bnd _ _) _;rw[bI];refine bf (step i d I st hd hw) λI1 st1 q=>?_;rw[bI];refine bf q λfl st2 q=>?_;cases fl with
    |nx I2=>exact ih (i+1) I2 st2 ⋯ ⋯ q
    |ct I2=>exact ih (i+1) I2 st2 ⋯ ⋯ q
    |bk I2=>exact aB.mpr q
    |rt d=>exact aB.mpr q
 exact key fuel 0 I iq (Mx _) (Nat.lt_trans ⋯ (show 100000<fuel by decide)) h0
def Bw{fi:af->Dm Src}{n:Nat}{js:List Nat}{t:D->af->Dm af}{c:af->Dm Bool}{f:af->Dm D}{Q:D->Store->Prop}(ds:List D)(Pv:Nat->List D->af->Store->Prop)
  (hi:Wp (fi I st) λS st1=>(∀i ys I st,i<=ds.length->Pv i ys I st->S.at i st=some ds[i]?)/\Pv 0 [] (jY n js I) st1) (hl:ds.length<100000) (hy:∀i ys I st,Pv i ys I st->ys.length<=i)
  (step:∀i d ys I st,ds[i]?=some d->Pv i ys I st->Wp (t d I st) λI1 st1=>Wp (c I1 st1) λb st2=>(b=true->Wp (f I1 st2) λy st3=>Pv (i+1) (ys ++ [y]) I1 st3)/\(b=false->Pv (i+1) ys I1 st2))
  (fin:∀ys I st,Pv ds.length ys I st->Q (.ref st.length) (st ++ [.lst ys])):Wp (cz fi n js t c f I st) Q:=by
 unfold cz;rw[bI];refine bf hi λS iq q=>?_;obtain⟨hS,h0⟩:=q;have key:∀(k i:Nat) (ys:List D) (I:af) (st:Store),i<=ds.length->ds.length-i<k->Pv i ys I st->Wp (dw S t c f k i ys I st) λzs nU=>∃I9,Pv ds.length zs I9 nU:=by
  intro k
  induction k with
  |zero=>intro i ys I st _ h;exact absurd h (Nat.not_lt_zero _)
  |succ k ih =>
   intro i ys I st hi hk' hw;unfold dw;have hlim:lim ys.length=true:=M0 (by have:=hy i ys I st hw;lk);rw[if_pos hlim,hS i ys I st hi hw];cases hd:ds[i]? with
   |none =>
    have:=Mh.mp hd;have e:i=ds.length:=by lk
    exact aB.mpr ⟨I,e ▸ hw⟩
   |some d =>
    have hlt:=(LN.mp hd).1;show Wp (bnd _ _) _;rw[bI];refine bf (step i d ys I st hd hw) λI1 st1 q=>?_;rw[bI];refine bf q λb st2 q=>?_;cases b with
    |true =>
     rw[if_pos rfl,bI];exact bf (q.1 rfl) λy st3 q=>ih (i+1) _ I1 st3 ⋯ ⋯ q
    |false =>
     rw[if_neg LC];exact ih (i+1) ys I1 st2 ⋯ ⋯ (q.2 rfl)
 rw[bI];exact bf (key fuel 0 [] _ iq (Mx _) (Nat.lt_trans ⋯ (show 100000<fuel by decide)) h0) λzs nU ⟨I9,q⟩=>aB.mpr (fin zs I9 nU q)
end
abbrev keyOf:D->Option Key
 |.int i=>some (.inl i)
 |.str x=>some (.inr x)
 |_=>none
abbrev lM(st:Store):D->Option (List (Key×D))
 |.ref i=>match st[i]? with
  |some (.dct kvs)=>some kvs
  |_=>none
 |_=>none
abbrev mf(kvs:List (Key×D))(k:Key):Option D:=(kvs.find? λkv=>decide (kv.1=k)).map (·.2)
abbrev putD(kvs:List (Key×D))(k:Key)(v:D):List (Key×D) :=
 if(kvs.any λkv=>decide (kv.1=k))=true then kvs.map (λkv=>if kv.1=k then(kv.1,v)else kv)else kvs ++ [(k,v)]
section
variable {K:Zfr}
abbrev wO:af->Dm D:=λ_ st=>some (.ref st.length,st ++ [.dct []])
abbrev qo(fd fy:af->Dm D):af->Dm D:=λI st=>bnd (fd I st) λx st1=>bnd (fy I st1) λy st2=>match lM st2 x,keyOf y with
 |some kvs,some k=>match mf kvs k with
  |some v=>some (v,st2)
  |none=>none
 |_,_=>none
abbrev wQ(neg:Bool)(fy fd:af->Dm D):af->Dm D:=λI st=>bnd (fy I st) λy st1=>bnd (fd I st1) λx st2=>match lM st2 x,keyOf y with
 |some kvs,some k=>some (.bl (if neg then !(mf kvs k).isSome else(mf kvs k).isSome),st2)
 |_,_=>none
abbrev wR:af->Dm (List (D×D)):=λ_ st=>some ([],st)
abbrev nW(fk fv:af->Dm D)(fr:af->Dm (List (D×D))):af->Dm (List (D×D)):=λI st=>bnd (fk I st) λk st1=>bnd (fv I st1) λv st2=>bnd (fr I st2) λr st3=>some ((k,v) :: r,st3)
abbrev keysOf:List (D×D)->Option (List (Key×D))
 |[]=>some []
 |(k,v) :: r=>match keyOf k,keysOf r with
  |some k',some r'=>some ((k',v) :: r')
  |_,_=>none
abbrev nX(kvs more:List (Key×D)):List (Key×D):=more.foldl (λacc kv=>putD acc kv.1 kv.2) kvs
abbrev qp(fp:af->Dm (List (D×D))):af->Dm D:=λI st=>bnd (fp I (st ++ [.dct []])) λps st2=>match st2[st.length]?,keysOf ps with
 |some (.dct []),some kvs=>if kvs.length<=15 then some (.ref st.length,st2.set st.length (.dct (nX [] kvs)))else none
 |_,_=>none
end
section
variable {st:Store}{I:af}{Q:D->Store->Prop}
def IE:Wp (wO I st) Q↔Q (.ref st.length) (st ++ [.dct []]):=aB
def IF{fd fy:af->Dm D}:Wp (qo fd fy I st) Q↔Wp (fd I st) λx st1=>Wp (fy I st1) λy st2=>∃kvs k v,lM st2 x=some kvs/\keyOf y=some k/\mf kvs k=some v/\Q v st2:=by
 unfold qo;rw[bI];simp only[bI];constructor<;>refineλh=>bf h λx s h=>bf h λy s2 h=>?_
 ·split at h
  ·next kvs k h1 h2 =>
   split at h
   ·next v h3=>exact⟨kvs,k,v,by assumption,by assumption,h3,aB.mp h⟩
   ·exact(cg.mp h).elim
  ·exact(cg.mp h).elim
 ·obtain⟨kvs,k,v,h1,h2,h3,h⟩:=h
  rw[h1,h2];simp only[h3];exact aB.mpr h
def sJ{neg:Bool}{fd fy:af->Dm D}:Wp (wQ neg fy fd I st) Q↔Wp (fy I st) λy st1=>Wp (fd I st1) λx st2=>∃kvs k,lM st2 x=some kvs/\keyOf y=some k/\Q (.bl (if neg then !(mf kvs k).isSome else(mf kvs k).isSome)) st2:=by
 unfold wQ;rw[bI];simp only[bI];constructor<;>refineλh=>bf h λx s h=>bf h λy s2 h=>?_
 ·split at h
  ·next kvs k h1 h2=>exact⟨kvs,k,by assumption,by assumption,aB.mp h⟩
  ·exact(cg.mp h).elim
 ·obtain⟨kvs,k,h1,h2,h⟩:=h
  rw[h1,h2];exact aB.mpr h
def IG{R:List (D×D)->Store->Prop}:Wp (wR I st) R↔R [] st:=aB
def IH{fk fv:af->Dm D}{fr:af->Dm (List (D×D))}{R:List (D×D)->Store->Prop}:Wp (nW fk fv fr I st) R↔Wp (fk I st) λk st1=>Wp (fv I st1) λv st2=>Wp (fr I st2) λr st3=>R ((k,v) :: r) st3:=by unfold nW;rw[bI];simp only[bI,aB]
def II{fp:af->Dm (List (D×D))}:Wp (qp fp I st) Q↔Wp (fp I (st ++ [.dct []])) λps st2=>st2[st.length]?=some (.dct [])/\∃kvs,keysOf ps=some kvs/\kvs.length<=15/\Q (.ref st.length) (st2.set st.length (.dct (nX [] kvs))):=by
 unfold qp;rw[bI];constructor<;>refineλh=>bf h λps s h=>?_
 ·split at h
  ·next kvs h1 h2 =>
   rw[iu,aB,cg]at h;split at h
   ·next hl=>exact⟨by assumption,kvs,by assumption,hl,h⟩
   ·exact h.elim
  ·exact(cg.mp h).elim
 ·obtain⟨h1,kvs,h2,h3,h⟩:=h
  rw[h1,h2];simp only[if_pos h3];exact aB.mpr h
end
structure Ex(c:List Nat)(st st':Store):Prop where
 len:st.length<=st'.length
 keep:∀(i:Nat) (o:O),st[i]?=some o->i ∉ c->st'[i]?=some o
section
variable {c c':List Nat}{st st1 st2:Store}{i:Nat}{o:O}{ds:List D}
def Ex.refl:Ex c st st:=⟨LI _,λ_ _ h _=>h⟩
def Ex.trans(a:Ex c st st1)(b:Ex c st1 st2):Ex c st st2:=⟨L5 a.len b.len,λi o h n=>b.keep i o (a.keep i o h n) n⟩
def Ex.mono(a:Ex c st st1)(h:∀x∈c,x∈c'):Ex c' st st1:=⟨a.len,λi o e n=>a.keep i o e λz=>n (h i z)⟩
def Ex.any(a:Ex [] st st1):Ex c st st1:=a.mono λx h=>nomatch h
def mM{J:Type}{l:List J}{i:Nat}{o:J}(h:l[i]?=some o):i<l.length:=(LN.mp h).1
def mO{l m:List O}(h:l[i]?=some o):(l ++ m)[i]?=some o:=by rw[L0 (mM h)];exact h
def jZ{l:List O}:(l ++ [o])[l.length]?=some o:=by rw[LV (LI _),Nl];rfl
def Ex.app(a:Ex c st st1)(m:List O):Ex c st (st1 ++ m):=⟨by rw[LP];exact L5 a.len (MI _ _),λi o h n=>mO (a.keep i o h n)⟩
def Ex.cD(m:List O):Ex c st (st ++ m):=Ex.refl.app m
def Ex.put(a:Ex c st st1)(h:i∈c):Ex c st (st1.set i o):=⟨by rw[Mq];exact a.len,λj u e n=>by rw[Mg (λz=>n (by rw[<- z];exact h))];exact a.keep j u e n⟩
def Ex.loc(a:Ex c st st1)(h:st.length<=i):Ex c st (st1.set i o):=⟨by rw[Mq];exact a.len,λj u e n=>by rw[Mg (by have:=mM e;lk)];exact a.keep j u e n⟩
def fV(h:st[i]?=some (.lst ds)):items st i=some ds:=by unfold items;rw[h]
def Ey(h:st[i]?=some (.jT ds)):items st i=some ds:=by unfold items;rw[h]
def mh(h:st[i]?=some (.lst ds)):own st i=some ds:=by unfold own;rw[h]
def iL:items (st ++ [.lst ds]) st.length=some ds:=fV jZ
def IJ:own (st ++ [.lst ds]) st.length=some ds:=mh jZ
def IK{o':O}:items (st ++ [.lst ds] ++ [o']) st.length=some ds:=fV (mO jZ)
def IL{o':O}:own (st ++ [.lst ds] ++ [o']) st.length=some ds:=mh (mO jZ)
def IP{o' o2:O}:items (st ++ [.lst ds] ++ [o'] ++ [o2]) st.length=some ds:=fV (mO (mO jZ))
def IQ{o' o2:O}:own (st ++ [.lst ds] ++ [o'] ++ [o2]) st.length=some ds:=mh (mO (mO jZ))
def IU{lo hi:Int}:fm (st ++ [.jE lo hi]) (.ref st.length)=some (lo,hi):=by simp only[fm,jZ]
def IW:bT st (.tup ds)=some ds:=rfl
def IX:bT st (.ref i)=items st i:=rfl
def Ez(h:(items st i).isSome=true):uz "list" st (.ref i)=true:=by simp only[uz,h];rfl
def ft{n:Nat}(h:n<=100000):lim n=true:=M0 h
end
section
variable {st:Store}{Q:D->Store->Prop}{i j:Int}{k:Nat}{ds es:List D}
def IY{a:D}:Wp (rX [a] st) Q↔∃p,fm st a=some p/\qg p.1 p.2=true/\Q (.ref st.length) (st ++ [.lst (aE p.1 (p.2-p.1).toNat)]):=by
 show Wp (match fm st a with|some (lo,hi)=>if qg lo hi=true then some (D.ref st.length,st ++ [O.lst (aE lo (hi-lo).toNat)])else none|none=>none) Q↔_;cases fm st a with
 |none=>rw[cg];exact⟨False.elim,λ⟨_,e,_⟩=>by cases e⟩
 |some p =>
  obtain⟨lo,hi⟩:=p;show Wp (if qg lo hi=true then some (D.ref st.length,st ++ [O.lst (aE lo (hi-lo).toNat)])else none) Q↔_;rw[iu,aB,cg];split
  ·next h=>exact⟨λq=>⟨_,rfl,h,q⟩,λ⟨_,e,_,q⟩=>by cases e;exact q⟩
  ·next h=>exact⟨False.elim,λ⟨_,e,q,_⟩=>by cases e;exact h q⟩
def IZ{a:D}:Wp (o3 [a] st) Q↔∃p,fm st a=some p/\qg p.1 p.2=true/\Q (.tup (aE p.1 (p.2-p.1).toNat)) st:=by
 show Wp (match fm st a with|some (lo,hi)=>if qg lo hi=true then some (D.tup (aE lo (hi-lo).toNat),st)else none|none=>none) Q↔_;cases fm st a with
 |none=>rw[cg];exact⟨False.elim,λ⟨_,e,_⟩=>by cases e⟩
 |some p =>
  obtain⟨lo,hi⟩:=p;show Wp (if qg lo hi=true then some (D.tup (aE lo (hi-lo).toNat),st)else none) Q↔_;rw[iu,aB,cg];split
  ·next h=>exact⟨λq=>⟨_,rfl,h,q⟩,λ⟨_,e,_,q⟩=>by cases e;exact q⟩
  ·next h=>exact⟨False.elim,λ⟨_,e,q,_⟩=>by cases e;exact h q⟩
def sL:Wp (Bo (.ref k) (.int j) st) Q↔∃xs,own st k=some xs/\(-9223372036854775808<=j/\j<9223372036854775808)/\lim (xs.length*j.toNat)=true/\Q (.ref st.length) (st ++ [.lst (List.replicate j.toNat xs).flatten]):=by
 show Wp (match own st k with|some a=>if(decide (-9223372036854775808<=j/\j<9223372036854775808) && lim (a.length*j.toNat))=true then some (D.ref st.length,st ++ [O.lst (List.replicate j.toNat a).flatten])else none|_=>none) Q↔_;cases own st k with
 |none=>simp only[cg];exact⟨False.elim,λ⟨_,e,_⟩=>by cases e⟩
 |some xs =>
  show Wp (if(decide (-9223372036854775808<=j/\j<9223372036854775808) && lim (xs.length*j.toNat))=true then some (D.ref st.length,st ++ [O.lst (List.replicate j.toNat xs).flatten])else none) Q↔_;rw[iu,aB,cg];split
  ·next h=>rw[Mf,decide_eq_true_eq]at h;exact⟨λq=>⟨_,rfl,h.1,h.2,q⟩,λ⟨_,e,_,_,q⟩=>by cases e;exact q⟩
  ·next h=>rw[Mf,decide_eq_true_eq]at h;exact⟨False.elim,λ⟨_,e,q,q',_⟩=>by cases e;exact h ⟨q,q'⟩⟩
def I0:Wp (kI (.ref k) [.int i] st) Q↔∃xs j y,own st k=some xs/\(-9223372036854775808<=i/\i<9223372036854775808)/\seqIndex? i xs.length=some j/\xs[j]?=some y/\Q y (st.set k (.lst (xs.eraseIdx j))):=by
 constructor
 ·rintro⟨a,s,e,q⟩
  simp only[kI]at e;split at e
  ·next xs hx =>
   split at e
   ·next hk =>
    split at e
    ·next j hj =>
     split at e
     ·next y hy=>cases e;exact⟨xs,j,_,hx,of_decide_eq_true hk,hj,hy,q⟩
     ·cases e
    ·cases e
   ·cases e
  ·cases e
 ·rintro⟨xs,j,y,hx,hk,hj,hy,q⟩
  refine⟨_,_,?_,q⟩;simp only[kI,hx,hj,hy,decide_eq_true hk];rfl
def Ja{b:Nat}:Wp (jq (.ref k) [.ref b] st) Q↔∃xs ys,own st k=some xs/\own st b=some ys/\lim (xs.length+ys.length)=true/\Q .non (st.set k (.lst (xs ++ ys))):=by
 constructor
 ·rintro⟨a,s,e,q⟩
  simp only[jq]at e;split at e
  ·next xs ys hx hy =>
   split at e
   ·next hl=>cases e;exact⟨xs,ys,hx,hy,hl,q⟩
   ·cases e
  ·cases e
 ·rintro⟨xs,ys,hx,hy,hl,q⟩
  refine⟨_,_,?_,q⟩;simp only[jq,hx,hy,hl];rfl
def Jb{v:Int}:Wp (kJ (.tup ds) [.int v] st) Q↔∃ns j,b8 iV ds=some ns/\ns.findIdx? (λi=>decide (i=v))=some j/\Q (.int (j:Int)) st:=by
 constructor
 ·rintro⟨a,s,e,q⟩
  simp only[kJ]at e;split at e
  ·next ns hn =>
   split at e
   ·next j hj=>cases e;exact⟨ns,j,hn,hj,q⟩
   ·cases e
  ·cases e
 ·rintro⟨ns,j,hn,hj,q⟩
  refine⟨_,_,?_,q⟩;simp only[kJ,hn,hj]
def EA:Wp (jW [.ref k] st) Q↔∃ds bs,items st k=some ds/\b8 bV ds=some bs/\Q (.bl (bs.all id)) st:=by
 constructor
 ·rintro⟨a,s,e,q⟩
  simp only[jW]at e;split at e
  ·next bs hb =>
   cases e;obtain⟨ds,h1,h2⟩:=ME.mp hb;exact⟨ds,bs,h1,h2,q⟩
  ·cases e
 ·rintro⟨ds,bs,h1,h2,q⟩
  refine⟨_,_,?_,q⟩;simp only[jW,h1,MJ,h2]
def EB{neg:Bool}{a b:D}:Wp (jV neg a b st) Q↔∃p q,gD st 20 a=some p/\gD st 20 b=some q/\(PyData.canLay0 p=true/\PyData.canLay0 q=true/\min p.depth q.depth<=60)/\Q (.bl (if neg then !PyData.eqv p q else PyData.eqv p q)) st:=by
 constructor
 ·rintro⟨c,s,e,q⟩
  simp only[jV]at e;split at e
  ·next x y h1 h2 =>
   split at e
   ·next hs =>
    cases e;rw[Mf,Mf,decide_eq_true_eq]at hs;exact⟨x,y,h1,h2,⟨hs.1.1,hs.1.2,hs.2⟩,q⟩
   ·cases e
  ·cases e
 ·rintro⟨x,y,h1,h2,⟨h3,h4,h5⟩,q⟩
  refine⟨_,_,?_,q⟩;simp only[jV,h1,h2,h3,h4,decide_eq_true h5];rfl
def EC{z:Str}:Wp (jo (.str z) (.int i) st) Q↔∃c,lim z.length=true/\fL z.cps.toList i=some c/\Q (.str ⟨#[c]⟩) st:=by
 constructor
 ·rintro⟨c,s,e,q⟩
  simp only[jo]at e;split at e
  ·next h1 =>
   split at e
   ·next c hc=>cases e;exact⟨c,h1,hc,q⟩
   ·cases e
  ·cases e
 ·rintro⟨c,h1,h2,q⟩
  refine⟨_,_,?_,q⟩;simp only[jo,h1,h2];rfl
def Jc{I:af}{fa:af->Dm (List D)}{R:Src->Store->Prop}:Wp (gk fa I st) R↔Wp (fa I st) λas st1=>∃j,as=[.int j]/\(-4611686018427387904<=j/\j<4611686018427387904)/\R (.fix (aE 0 j.toNat)) st1:=by
 unfold gk;rw[bI];constructor<;>refineλh=>bf h λas s h=>?_
 ·split at h
  ·next j =>
   rw[iu,aB,cg]at h;split at h
   ·next hk=>exact⟨j,rfl,of_decide_eq_true hk,h⟩
   ·exact h.elim
  ·exact(cg.mp h).elim
 ·obtain⟨j,rfl,h1,h⟩:=h
  simp only[decide_eq_true h1,if_true];exact aB.mpr h
def Jd{I:af}{fa:af->Dm (List D)}{R:Src->Store->Prop}:Wp (nR fa I st) R↔Wp (fa I st) λas st1=>∃i j,as=[.int i,.int j]/\((-4611686018427387904<=i/\i<4611686018427387904)/\-4611686018427387904<=j/\j<4611686018427387904)/\R (.fix (aE i (j-i).toNat)) st1:=by
 unfold nR;rw[bI];constructor<;>refineλh=>bf h λas s h=>?_
 ·split at h
  ·next i j =>
   rw[iu,aB,cg]at h;split at h
   ·next hk=>exact⟨i,j,rfl,of_decide_eq_true hk,h⟩
   ·exact h.elim
  ·exact(cg.mp h).elim
 ·obtain⟨i,j,rfl,h1,h⟩:=h
  simp only[decide_eq_true h1,if_true];exact aB.mpr h
def Je{I:af}{fa:af->Dm D}{R:Src->Store->Prop}:Wp (lL fa I st) R↔Wp (fa I st) λa st1=>∃ds,a=.tup ds/\R (.fix ds) st1:=by unfold lL;rw[bI];constructor<;>refineλh=>bf h λa s h=>?_;cases a<;>simp only[aB,cg]at h;exact⟨_,rfl,h⟩;obtain⟨j,rfl,h⟩:=h;exact aB.mpr h
def Jf{I:af}{fa:af->Dm D}{R:Src->Store->Prop}:Wp (gj fa I st) R↔Wp (fa I st) λa st1=>∃i ds,a=.ref i/\items st1 i=some ds/\R (.live i) st1:=by
 unfold gj;rw[bI];constructor<;>refineλh=>bf h λa s h=>?_
 ·split at h
  ·split at h
   ·next i ds hd=>exact⟨_,ds,rfl,hd,aB.mp h⟩
   ·exact(cg.mp h).elim
  ·exact(cg.mp h).elim
 ·obtain⟨i,ds,rfl,hd,h⟩:=h
  simp only[hd];exact aB.mpr h
def Jg{I:af}{fa:af->Dm (List D)}{R:Src->Store->Prop}:Wp (nS fa I st) R↔Wp (fa I st) λas st1=>∃ds,as=[.tup ds]/\R (.fix (qj ds)) st1:=by unfold nS;rw[bI];constructor<;>refineλh=>bf h λas s h=>?_;split at h;exact⟨_,rfl,aB.mp h⟩;exact(cg.mp h).elim;obtain⟨ds,rfl,h⟩:=h;exact aB.mpr h
def wU{i:Nat}{d:D}{I:af}{R:af->Store->Prop}:Wp (hName i d I st) R↔R (I.set i (some d)) st:=aB
def ED{I:af}{R:af->Store->Prop}:Wp (ma [] I st) R↔R I st:=aB
def Bx{f:D->af->Dm af}{g:List D->af->Dm af}{d:D}{ds:List D}{I:af}{R:af->Store->Prop}:Wp (fq f g (d :: ds) I st) R↔Wp (f d I st) λI1 st1=>Wp (g ds I1 st1) R:=bI
def EE{n:Nat}{f:List D->af->Dm af}{ds:List D}{I:af}{R:af->Store->Prop}:Wp (kK n f (.tup ds) I st) R↔ds.length=n/\Wp (f ds I st) R:=by
 show Wp (if ds.length=n then f ds I st else none) R↔_;rw[iu,cg];split
 ·next h=>exact⟨λq=>⟨h,q⟩,λq=>q.2⟩
 ·next h=>exact⟨False.elim,λq=>h q.1⟩
def Jh{fo fi:af->Dm D}{d:D}{I:af}{R:af->Store->Prop}:Wp (hSub fo fi d I st) R↔Wp (fo I st) λo st1=>Wp (fi I st1) λi st2=>∃r k xs j,o=.ref r/\i=.int k/\own st2 r=some xs/\jG xs.length k=some j/\R I (st2.set r (.lst (xs.set j d))):=by
 unfold hSub;rw[bI];simp only[bI];constructor<;>refineλh=>bf h λo s h=>bf h λi s2 h=>?_
 ·split at h
  ·split at h
   ·next xs hx =>
    split at h
    ·next j hj=>exact⟨_,_,xs,j,rfl,rfl,hx,hj,aB.mp h⟩
    ·exact(cg.mp h).elim
   ·exact(cg.mp h).elim
  ·exact(cg.mp h).elim
 ·obtain⟨r,k,xs,j,rfl,rfl,hx,hj,h⟩:=h
  simp only[hx,hj];exact aB.mpr h
def Ji{a:D}{c:String}:Wp (jt [a,.ty c] st) Q↔jr st a=some c/\Q (.bl true) st:=by
 constructor
 ·rintro⟨b,s,e,q⟩
  simp only[jt]at e;split at e
  ·next T hT =>
   split at e
   ·next h=>cases e;subst h;exact⟨hT,q⟩
   ·cases e
  ·cases e
 ·rintro⟨h,q⟩
  refine⟨_,_,?_,q⟩;simp only[jt,h,if_true]
def By{I:af}{R:Bool->Store->Prop}:Wp (cB I st) R↔R true st:=aB
end
def EF{J:Type}(x:J)(xs:List J):fL (x :: xs) 0=some x:=by unfold fL jG;rw[if_pos ∅,if_pos (by simp only[LZ];lk)];rfl
def EG{J:Type}(x y:J)(xs:List J):fL (x :: y :: xs) 1=some y:=by unfold fL jG;rw[if_pos ∅,if_pos (by simp only[LZ];lk)];rfl
def sM{J:Type}{a:J}{l:List J}:(a :: l)[0]?=some a:=List.getElem?_cons_zero
def sN{J:Type}{a:J}{l:List J}{i:Nat}:(a :: l)[i+1]?=l[i]?:=List.getElem?_cons_succ
def sP{J:Type}{a b:J}{l:List J}:(a :: l).set 0 b=b :: l:=List.set_cons_zero
def sQ{J:Type}{a b:J}{l:List J}{i:Nat}:(a :: l).set (i+1) b=a :: l.set i b:=List.set_cons_succ
def sR{J:Type}(a b:J):(some a=some b)=(a=b):=Option.some.injEq a b
def wV{J:Type}{p:J->Prop}{a':J}:(∃a,a'=a/\p a)↔p a':=exists_eq_left'
def Bz{J:Type}{p:J->Prop}{a':J}:(∃a,a=a'/\p a)↔p a':=exists_eq_left
def wW{J:Type}{p:J->Prop}{b:Prop}:(∃x,b/\p x)↔b/\∃x,p x:=exists_and_left
def wX(a b:Int):(D.int a=D.int b)=(a=b):=D.int.injEq a b
def BA(a b:Bool):(D.bl a=D.bl b)=(a=b):=D.bl.injEq a b
def wY(a b:Str):(D.str a=D.str b)=(a=b):=D.str.injEq a b
def wZ(a b:List D):(D.tup a=D.tup b)=(a=b):=D.tup.injEq a b
def w6(a b:Nat):(D.ref a=D.ref b)=(a=b):=D.ref.injEq a b
def sS{J:Type}(a:J)(l:List J)(b:J)(m:List J):(a :: l=b :: m)=(a=b/\l=m):=List.cons.injEq a l b m
def sT{J S:Type}(a:J)(b:S)(c:J)(d:S):((a,b)=(c,d))=(a=c/\b=d):=Prod.mk.injEq a b c d
def sU(p:Prop):(p/\True)=p:=and_true p
def sW(p:Prop):(True/\p)=p:=true_and p
def sX:(!true)=false:=rfl
def sY:(!false)=true:=rfl
def BB:(false=true)=False:=by simp
def w8{J:Type}{h:Decidable False}(t e:J):@ite J False h t e=e:=if_false t e
def xa{J:Type}{h:Decidable True}(t e:J):@ite J True h t e=t:=if_true t e
abbrev bD:=And.intro @se (And.intro @Bt (And.intro @wD (And.intro @wF (And.intro @wG (And.intro @sf (And.intro @Ij (And.intro @sh (And.intro @si (And.intro @Ik (And.intro @sj (And.intro @sk (And.intro @wH (And.intro @qm (And.intro @Il (And.intro @sm (And.intro @Im (And.intro @Io (And.intro @Ip (And.intro @wI (And.intro @wJ (And.intro @sr (And.intro @su (And.intro @wK (And.intro @wL (And.intro @wM (And.intro @wN (And.intro @sv (And.intro @sx (And.intro @Iq (And.intro @sy (And.intro @sA (And.intro @sC (And.intro @sD (And.intro @sE (And.intro @zi (And.intro @sF (And.intro @sG (And.intro @Ir (And.intro @Eu (And.intro @sH (And.intro @Iu (And.intro @Iv (And.intro @Iw (And.intro @Iy (And.intro @Iz (And.intro @Ew (And.intro @IA (And.intro @IB (And.intro @IC (And.intro @IE (And.intro @IF (And.intro @sJ (And.intro @IG (And.intro @IH (And.intro @II (And.intro @iL (And.intro @IJ (And.intro @IK (And.intro @IL (And.intro @IP (And.intro @IQ (And.intro @IU (And.intro @IW (And.intro @IX (And.intro @IY (And.intro @IZ (And.intro @sL (And.intro @I0 (And.intro @Ja (And.intro @Jb (And.intro @EA (And.intro @EC (And.intro @Jc (And.intro @Jd (And.intro @Je (And.intro @Jf (And.intro @Jg (And.intro @wU (And.intro @ED (And.intro @Bx (And.intro @EE (And.intro @Jh (And.intro @Ji (And.intro @By (And.intro @EF (And.intro @EG (And.intro @sM (And.intro @sN (And.intro @sP (And.intro @sQ (And.intro @sR (And.intro @wV (And.intro @Bz (And.intro @wW (And.intro @wX (And.intro @BA (And.intro @wY (And.intro @wZ (And.intro @w6 (And.intro @sS (And.intro @sT (And.intro @sU (And.intro @sW (And.intro @sX (And.intro @sY (And.intro @BB (And.intro @w8 (@xa))))))))))))))))))))))))))))))))))))))))))))))))))))))))))))))))))))))))))))))))))))))))))))))))))))))))))))
def bX{J:Type}{m:Option (J×Store)}{Q:J->Store->Prop}(h:∀Q':J->Store->Prop,(∀a st,Q a st->Q' a st)->Wp m Q'):Wp m Q:=h Q λ_ _ h=>h
section
variable {st:Store}{Q:D->Store->Prop}
def Jj(a b:List PyData):PyData.eqv (.list a) (.list b)=PyData.eqvAll a b:=by simp only[PyData.eqv]
def Jk(a b:List PyData):PyData.eqv (.tuple a) (.tuple b)=PyData.eqvAll a b:=by simp only[PyData.eqv]
end
abbrev aF(st:Store)(f:Nat):Prop:=∃o m:Int,st[f]?=some (.lst [.int o,.int m])/\0<=o/\0<=m/\m<4294967296
def xb:jG 2 0=some 0:=by decide
def xc:jG 2 1=some 1:=by decide
def Jl(n:Nat):aE 0 n=(hW.upto n).map D.int:=by unfold aE hW.upto;rw[Mz];apply M8;intro i _;simp
def aF.keep{st st':Store}{f:Nat}(h:aF st f)(e:Ex [] st st'):aF st' f:=by obtain⟨o,m,e1,r⟩:=h;exact⟨o,m,e.keep _ _ e1 (by simp),r⟩
def aF.ne{st:Store}{f i:Nat}{o:O}(h:aF st f)(hi:i≠f):aF (st.set i o) f:=by obtain⟨x,m,e1,r⟩:=h;exact⟨x,m,by rw[Mg hi];exact e1,r⟩
def aF.lt{st:Store}{f:Nat}(h:aF st f):f<st.length:=let ⟨_,_,e,_⟩:=h;mM e
def zm(xs:List D)(j:Nat):cutD xs none (some (j:Int))=xs.take j:=by unfold cutD;rw[HT.C8,HT.yF,List.drop_zero,Nat.sub_zero,List.take_eq_take_iff];lk
def BD(xs:List D)(i:Nat):cutD xs (some (i:Int)) none=xs.drop i:=by unfold cutD;rw[HT.yF,HT.C8];by_cases h:i<=xs.length;rw[M6 h,MX (by rw[Me];exact LI _)];rw[Nat.min_eq_right ⋯,MO (LI _),MO ⋯];simp
def EH(n:Nat):b8 bV (List.replicate n (.bl true))=some (List.replicate n true):=by
 have:=y8 (f:=bV) (g:=D.bl) (k:=id) (λ_=>rfl) (List.replicate n true)
 simpa using this
abbrev iy(S:Src)(ds:List D)(st:Store):Prop:=∀(i:Nat) (st2:Store),i<=ds.length->Ex [] st st2->S.at i st2=some ds[i]?
def qq{st st':Store}{r:Nat}{ds:List D}(h:items st r=some ds)(e:Ex [] st st'):items st' r=some ds:=by
 unfold items at h ⊢;cases hx:st[r]? with
 |none=>rw[hx]at h;cases h
 |some o=>rw[e.keep _ _ hx (by simp)];rw[hx]at h;exact h
def zo(ds:List D)(st:Store):iy (.fix ds) ds st:=λi st2 hi _=>by
 show(if i<=ds.length then some ds[i]? else none)=_;rw[if_pos hi]
def BE{ds:List D}{st:Store}{r:Nat}(h:items st r=some ds):iy (.live r) ds st:=λi st2 hi e=>by
 show(items st2 r).map _=_;rw[qq h e];rfl
def zp{I:af}{st:Store}{fi:af->Dm Src}{js:List Nat}{f:af->Dm D}{Q:D->Store->Prop}(ds:List D)(h:D->D)(hi:Wp (fi I st) λS st1=>iy S ds st1/\Ex [] st st1)(hl:ds.length<100000)
  (step:∀d∈ds,∀st1,Ex [] st st1->Wp (f (some d :: js.map λj=>I.getD j none) st1) λy st2=>y=h d/\Ex [] st1 st2) (fin:∀st',Ex [] st st'->Q (.ref st'.length) (st' ++ [.lst (ds.map h)])):Wp (cz fi 1 js (hName 0) cB f I st) Q:=by
 obtain⟨S,st1,e1,hS,k1⟩:=hi;refine Bw ds (λi ys I' gH=>(∃v,I'=v :: js.map λj=>I.getD j none)/\ys=(ds.take i).map h/\Ex [] st1 gH) ⟨S,st1,e1,λi ys I' gH hi' hp=>hS i gH hi' hp.2.2,⟨none,rfl⟩,rfl,Ex.refl⟩ hl ?_ ?_ ?_;rintro i ys I' gH ⟨_,rfl,_⟩;rw[LG,LW];lk;rintro i d ys I' gH hd ⟨⟨v,rfl⟩,rfl,k8⟩;rw[wU];show Wp (cB _ _) _;rw[By];refine⟨λ_=>?_,λh=>absurd h ∅⟩;refine bf (step d (L6 hd) gH (k1.trans k8)) ?_;rintro y nU ⟨rfl,k9⟩;refine⟨⟨some d,rfl⟩,?_,k8.trans k9⟩;obtain⟨hlt,e⟩:=LN.mp hd;rw[MB hlt,Md,e];rfl;rintro ys I' gH ⟨_,rfl,k8⟩;rw[MZ];exact fin gH (k1.trans k8)
def Jm{xs:List Int}{d:D}(h:d∈xs.map D.int):∃x∈xs,d=.int x:=by obtain⟨x,hx,rfl⟩:=LX.mp h;exact⟨x,hx,rfl⟩
abbrev inD:D->Int
 |.int i=>i
 |_=>0
@[reducible]def mP:=Bool×Int
abbrev mQ(s:mP):D:=.tup [.str (if s.1 then "s" else "t"),.int s.2]
section
variable {K:Zfr}
abbrev ml(neg:Bool):D->D->Dm D
 |a,.non,st=>some (.bl (match a with|.non=>!neg|_=>neg),st)
 |_,_,_=>none
abbrev nY(neg:Bool):R2:=λx y H Q=>y=.non/\Q (.bl (if neg then !decide (x=.non)else decide (x=.non))) H
def EI(neg:Bool):gP K (nY neg) (ml neg):=by intro L H st x y a c b st' Q l rx ry e q;unfold ml at e;split at e;cases e;cases ry;refine⟨rfl,?_⟩;have k:=q _ H L .refl l (.bl _);cases rx<;>cases neg<;>exact k;cases e
end
section
variable {X:Cx}
def Jn:eY X (compareOp .Is) (nY false):=qZ
def Jo:eY X (compareOp .IsNot) (nY true):=F5
end
section
variable {st:Store}{Q:D->Store->Prop}
def Jp{neg:Bool}:Wp (ml neg .non .non st) Q↔Q (.bl (!neg)) st:=aB
def Jq{neg:Bool}{i:List D}:Wp (ml neg (.tup i) .non st) Q↔Q (.bl neg) st:=aB
def BF{neg a b:Bool}:Wp (eM neg (.bl a) (.bl b) st) Q↔Q (.bl (if neg then !decide (a=b)else decide (a=b))) st:=by
 have e:decide (V.bl a=V.bl b)=decide (a=b):=by
  by_cases h:a=b;subst h;simp;simp[h]
 show Wp (if gZ (V.bl a) (V.bl b)=true then some (D.bl (if neg then !decide (V.bl a=V.bl b)else decide (V.bl a=V.bl b)),st)else none) Q↔_;rw[if_pos (show gZ _ _=true from rfl),aB,e]
end
def Jr{st:Store}{Q:D->Store->Prop}{k:Nat}:Wp (lG (.ref k) st) Q↔∃ds,items st k=some ds/\Q (.ref st.length) (st ++ [.lst ds.reverse]):=by
 show Wp (match items st k with|some ds=>some (D.ref st.length,st ++ [O.lst ds.reverse])|none=>none) Q↔_;cases items st k with
 |none=>rw[cg];exact⟨False.elim,λ⟨_,e,_⟩=>by cases e⟩
 |some ds=>rw[aB];exact⟨λq=>⟨ds,rfl,q⟩,λ⟨_,e,q⟩=>by cases e;exact q⟩
abbrev sO(L:List Nat):Str:=⟨L.toArray⟩
def iR(L:List Nat):(sO L).cps.toList=L:=by simp[sO]
def jI(L:List Nat):(sO L).length=L.length:=by simp[sO,Str.length]
def zq(L M:List Nat):sO L ++ sO M=sO (L ++ M):=by show Str.append (sO L) (sO M)=_;simp[sO,Str.append]
def uE(x:Str):x=sO x.cps.toList:=by simp[sO]
def mq{L M:List Nat}:sO L=sO M↔L=M:=by constructor;intro h;rw[<- iR L,h,iR];rintro rfl;rfl
abbrev o8:D->Option Str
 |.str x=>some x
 |_=>none
def Js(xs:List Str):b8 o8 (xs.map D.str)=some xs:=by have:=y8 (f:=o8) (g:=D.str) (k:=id) (λ_=>rfl) xs;rw[this,List.map_id]
abbrev iz:D->D->Dm D
 |.str x,.str y,st=>if lim (x.length+y.length)=true then some (.str (x ++ y),st)else none
 |_,_,_=>none
abbrev nZ(neg:Bool):D->D->Dm D
 |.str x,.str y,st=>some (.bl (if neg then !(!(Builtin.Str.occurrences y x 0 y.length 1).isEmpty)else !(Builtin.Str.occurrences y x 0 y.length 1).isEmpty),st)
 |_,_,_=>none
abbrev dZ:D->List D->Dm D
 |.str sep,[.ref i],st=>match (items st i).bind (b8 o8)with
  |some xs=>if xs.length<=100000/\sep.length<=10/\∀x∈xs,x.length<=100 then some (.str (Str.join sep xs),st)else none
  |none=>none
 |_,_,_=>none
abbrev j2(x:Str):List D:=x.cps.toList.map λc=>.str ⟨#[c]⟩
abbrev j3(fa:af->Dm D):af->Dm Src:=λI st=>bnd (fa I st) λa st1=>match a with
 |.str x=>if x.length<=100000 then some (.fix (j2 x),st1)else none
 |_=>none
section
variable {K:Zfr}
def EJ{L:List Addr}{H:Hp}:∀{ws:List V} {ds:List D} {ns:List Str},bj K L H ws ds->b8 o8 ds=some ns->ws=ns.map V.str
 |_,_,_,.nil,h=>by cases h;rfl
 |_,_,_,.cons a b,h=>by
  obtain⟨x,t,h1,h2,rfl⟩:=wx h;rw[EJ b h2];cases a<;>first|(cases h1;rfl)|cases h1
def BG:wo K "str" (rJoin K) dZ:=by
 intro L H st x xs a as b st' Q l rx rZ e q;unfold dZ at e;split at e
 ·split at e
  ·next ts hd =>
   split at e
   ·next ok =>
    cases e;obtain⟨v,rfl,r⟩:=rZ.one';obtain⟨ds,h3,h4⟩:=ME.mp hd;cases rx;cases r with
    |ref hi =>
     obtain⟨vs,s,r⟩:=l.items hi h3;cases EJ r h4;exact⟨_,_,_,rfl,rfl,s,ok.1,ok.2.1,ok.2.2,q _ H L .refl l (.str _)⟩
   ·cases e
  ·cases e
 ·cases e
def BH:gP K (λx y H Q=>∃i j,x=.str i/\y=.str j/\i.length+j.length<=sizeLine/\Q (.str (i ++ j)) H) iz:=by
 intro L H st x y a c b st' Q l rx ry e q;unfold iz at e;split at e
 ·split at e
  ·next ok =>
   cases e;cases rx;cases ry;exact⟨_,_,rfl,rfl,rR ok,q _ H L .refl l (.str _)⟩
  ·cases e
 ·cases e
def BJ(neg:Bool):gP K (λx y H Q=>∃i j,x=.str i/\y=.str j/\Q (.bl (if neg then !(!(Builtin.Str.occurrences j i 0 j.length 1).isEmpty)else !(Builtin.Str.occurrences j i 0 j.length 1).isEmpty)) H) (nZ neg):=by intro L H st x y a c b st' Q l rx ry e q;unfold nZ at e;split at e;cases e;cases rx;cases ry;exact⟨_,_,rfl,rfl,q _ H L .refl l (.bl _)⟩;cases e
def BK{t:TE}{fa:af->Dm D}(ha:bW K t fa):qi K (vP t) (j3 fa):=by
 intro L U H I st S st' Q l rs e q;obtain⟨a,st1,e1,e⟩:=aZ e;split at e
 ·next x =>
  split at e
  ·next hl =>
   cases e;refine ha L U H I st _ _ _ l rs e1 λy H1 L1 m1 l1 r1=>?_;cases r1;refine⟨_,rfl,q _ H1 L1 m1 l1 λL2 H2 st2 i m2 l2=>⟨λh=>?_,λd h=>?_⟩⟩
   ·have h2:=Mh.mp (qh h).2
    show x.cps.size<=i;simpa[j2]using h2
   ·have h2:=(qh h).2
    unfold j2 at h2;rw[L3]at h2;obtain⟨c,hc,e⟩:=Mc.mp h2;subst e;have hc':x.cps[i]?=some c:=by simpa using hc
    refine⟨?_,λy H3 hy=>?_⟩
    ·show i<x.cps.size
     exact(LS.mp hc').1
    ·obtain⟨rfl,c',hc2,rfl⟩:=hy
     rw[hc']at hc2;cases hc2;exact⟨.refl,l2,.str _⟩
  ·cases e
 ·cases e
end
section
variable {st:Store}{Q:D->Store->Prop}
def EK{sep:Str}{k:Nat}{xs:List Str}(h:items st k=some (xs.map D.str))(hl:xs.length<=100000)(hs:sep.length<=10)(hb:∀x∈xs,x.length<=100):Wp (dZ (.str sep) [.ref k] st) Q↔Q (.str (Str.join sep xs)) st:=by
 have e:dZ (.str sep) [.ref k] st=some (.str (Str.join sep xs),st):=by
  simp only[dZ,h,MJ,Js];rw[if_pos ⟨hl,hs,hb⟩]
 rw[e,aB]
def EL{I:af}{fa:af->Dm D}{R:Src->Store->Prop}:Wp (j3 fa I st) R↔Wp (fa I st) λa st1=>∃x,a=.str x/\x.length<=100000/\R (.fix (j2 x)) st1:=by
 unfold j3;rw[bI];constructor<;>refineλh=>bf h λa s h=>?_
 ·cases a<;>simp only[cg]at h
  ·next x =>
   rw[iu,aB,cg]at h;split at h
   ·next hl=>exact⟨_,rfl,hl,h⟩
   ·exact h.elim
 ·obtain⟨j,rfl,hl,h⟩:=h
  simp only[if_pos hl];exact aB.mpr h
def EM{neg:Bool}{x y:Str}:Wp (nZ neg (.str x) (.str y) st) Q↔Q (.bl (if neg then !(!(Builtin.Str.occurrences y x 0 y.length 1).isEmpty)else !(Builtin.Str.occurrences y x 0 y.length 1).isEmpty)) st:=aB
def xg{x y:Str}:Wp (iz (.str x) (.str y) st) Q↔lim (x.length+y.length)=true/\Q (.str (x ++ y)) st:=by
 show Wp (if lim (x.length+y.length)=true then some (D.str (x ++ y),st)else none) Q↔_;rw[iu,aB,cg];split
 ·next h=>exact⟨λq=>⟨h,q⟩,λq=>q.2⟩
 ·next h=>exact⟨False.elim,λq=>h q.1⟩
end
abbrev xh:D->Option (List D)
 |.tup ds=>some ds
 |.str x=>some (j2 x)
 |_=>none
abbrev eE:List D->List D->List D
 |a :: r,b :: t=>.tup [a,b] :: eE r t
 |_,_=>[]
def EN:∀{ds es:List D} {i:Nat} {d:D},(eE ds es)[i]?=some d->∃a b,ds[i]?=some a/\es[i]?=some b/\d=.tup [a,b]
 |a :: r,b :: t,0,d,h=>⟨a,b,rfl,rfl,(LH h).symm⟩
 |a :: r,b :: t,i+1,d,h=>EN (ds:=r) (es:=t) (i:=i) h
 |[],_,_,_,h=>by simp[eE]at h
 |_ :: _,[],_,_,h=>by simp[eE]at h
def EO:∀{ds es:List D} {i:Nat},i<=(eE ds es).length->(eE ds es)[i]?=none->(i=ds.length/\i<=es.length)\/(i<ds.length/\i=es.length)
 |[],es,i,h,_=>by
  have:i=0:=by simpa[eE]using h
  subst this;exact .inl ⟨rfl,Mx _⟩
 |a :: r,[],i,h,_=>by
  have:i=0:=by simpa[eE]using h
  subst this;exact .inr ⟨Nat.succ_pos _,rfl⟩
 |a :: r,b :: t,0,_,h=>by simp[eE]at h
 |a :: r,b :: t,i+1,h,hn=>by
  have h1:i<=(eE r t).length:=by simp only[eE,LZ]at h;lk
  have h2:(eE r t)[i]?=none:=by simpa[eE]using hn
  have:=EO (ds:=r) (es:=t) h1 h2;simp only[LZ];lk
def ER{J:Type}(f g:J->D):∀(l:List J),eE (l.map f) (l.map g)=l.map λx=>.tup [f x,g x]
 |[]=>rfl
 |a :: r=>by simp only[Mt,eE,ER f g r]
abbrev lN(fa:af->Dm (List D)):af->Dm Src:=λI st=>bnd (fa I st) λas st1=>match as with
 |[a,b]=>match xh a,xh b with
  |some ds,some es=>some (.fix (eE ds es),st1)
  |_,_=>none
 |_=>none
section
variable {K:Zfr}
def qr{L:List Addr}{H:Hp}{x:V}{a:D}{ds:List D}(r:Rp K L H x a)(h:xh a=some ds):∃src:ZS,src.val K H x/\∀(L2:List Addr) (H2:Hp),Mn K L H L2 H2->∀i,(∀d,ds[i]?=some d->∃v,src.has K H2 i v/\Rp K L2 H2 v d)/\(i=ds.length->src.fin K H2 i):=by
 cases r with
 |non=>cases h
 |bl b=>cases h
 |int i=>cases h
 |ty n=>cases h
 |ref e=>cases h
 |str x =>
  cases h;refine⟨.str x,rfl,λL2 H2 m i=>⟨λd hd=>?_,λe=>?_⟩⟩;unfold j2 at hd;rw[L3]at hd;obtain⟨c,hc,rfl⟩:=Mc.mp hd;exact⟨_,⟨c,by simpa using hc,rfl⟩,.str _⟩;show x.cps.size=i;rw[e];simp[j2]
 |tup s r =>
  cases h;refine⟨.tup _,⟨rfl,_,s⟩,λL2 H2 m i=>⟨λd hd=>?_,λe=>?_⟩⟩;obtain⟨v,hv,rv⟩:=r.got hd;exact⟨v,⟨_,m.t _ _ s,hv⟩,rv.mn m⟩;exact⟨_,m.t _ _ s,by rw[r.length];exact e.symm⟩
def Jt{t:TA}{fa:af->Dm (List D)}(ha:kl K t fa):qi K (vT K t) (lN fa):=by
 intro L U H I st S st' Q l rs e q;obtain⟨as,st1,e1,e⟩:=aZ e;split at e
 ·next a b =>
  split at e
  ·next ds es h1 h2 =>
   cases e;refine ha L U H I st _ _ _ l rs e1 λxs H1 L1 m1 l1 r1=>?_;obtain⟨x,y,rfl,rx,ry⟩:=r1.two';obtain⟨s1,v1,g1⟩:=qr rx h1;obtain⟨s2,v2,g2⟩:=qr ry h2;refine⟨x,y,s1,s2,rfl,v1,v2,q _ H1 L1 m1 l1 λL2 H2 st2 i m2 l2=>⟨λh=>?_,λd h=>?_⟩⟩
   ·obtain⟨hl,hn⟩:=qh h
    have BL:i<es.length->∃y,s2.has K H2 i y:=λhi=>by
     obtain⟨v,hv,_⟩:=(g2 L2 H2 m2 i).1 es[i] (L9 hi);exact⟨v,hv⟩
    rcases EO hl hn with⟨e1,e2⟩|⟨e1,e2⟩
    ·refine .inl ⟨(g1 L2 H2 m2 i).2 e1,?_⟩
     rcases Nat.lt_or_ge i es.length with hi|hi
     ·exact .inr (BL hi)
     ·exact .inl ((g2 L2 H2 m2 i).2 ⋯)
    ·obtain⟨v,hv,_⟩:=(g1 L2 H2 m2 i).1 ds[i] (L9 e1)
     exact .inr ⟨⟨v,hv⟩,(g2 L2 H2 m2 i).2 e2⟩
   ·obtain⟨c,b,hc,hb,rfl⟩:=EN (qh h).2
    obtain⟨v,hv,rv⟩:=(g1 L2 H2 m2 i).1 c hc;obtain⟨w,hw,rw'⟩:=(g2 L2 H2 m2 i).1 b hb;refine⟨⟨v,w,hv,hw⟩,λz H3 hz=>?_⟩;obtain⟨p,v',w',rfl,hp,rfl,k1,k2⟩:=hz;cases k1 _ hv;cases k2 _ hw;have m3:Mn K L2 H2 L2 (upd H2 p (.tup [v,w])):=Mn.same (cY.up hp);exact⟨m3,l2.same (cY.up hp),.tup (ej.of gw) (.cons (rv.mn m3) (.one (rw'.mn m3)))⟩
  ·cases e
 ·cases e
end
section
variable {st:Store}
def Ju{I:af}{fa:af->Dm (List D)}{R:Src->Store->Prop}:Wp (lN fa I st) R↔Wp (fa I st) λas st1=>∃a b ds es,as=[a,b]/\xh a=some ds/\xh b=some es/\R (.fix (eE ds es)) st1:=by
 unfold lN;rw[bI];constructor<;>refineλh=>bf h λas s h=>?_
 ·split at h
  ·next a b =>
   split at h
   ·next ds es h1 h2=>exact⟨a,b,ds,es,rfl,h1,h2,aB.mp h⟩
   ·exact(cg.mp h).elim
  ·exact(cg.mp h).elim
 ·obtain⟨a,b,ds,es,rfl,h1,h2,h⟩:=h
  simp only[h1,h2];exact aB.mpr h
end
abbrev o9:List String:=["NoneType","bool","int","str","tuple","list","dict"]
abbrev pb:List String:=["bool","int","str","tuple","list","dict"]
abbrev sZ(T c:String):Option Bool:=if o9.contains T && pb.contains c then some (T == c || (T == "bool" && c == "int"))else none
abbrev bE(T:String):List String->Option Bool
 |[]=>some false
 |c :: r=>match sZ T c with
  |some true=>some true
  |some false=>bE T r
  |none=>none
abbrev ES:D->Option String
 |.ty n=>some n
 |_=>none
abbrev ju:D->Option (List String)
 |.ty n=>some [n]
 |.tup ds=>b8 ES ds
 |_=>none
abbrev dy:List D->Dm D
 |[a,c],st=>match jr st a,ju c with
  |some T,some cs=>match bE T cs with
   |some b=>some (.bl b,st)
   |none=>none
  |_,_=>none
 |_,_=>none
def pd{st:Store}{Q:D->Store->Prop}{a c:D}{T:String}{cs:List String}{b:Bool}(h:jr st a=some T)(hc:ju c=some cs)(hb:bE T cs=some b):Wp (dy [a,c] st) Q↔Q (.bl b) st:=by
 have e:dy [a,c] st=some (.bl b,st):=by simp only[dy,h,hc,hb]
 rw[e,aB]
section
variable {X:Cx}{K:Zfr}
def zt(K:Zfr){T c:String}{b:Bool}(h:sZ T c=some b):PySem.W.kitOne K (.type T) (.type c)=some b:=by
 have hh:o9.contains T=true/\pb.contains c=true:=by
  unfold sZ at h;split at h
  ·next g=>simpa using g
  ·cases h
 have h1:T∈o9:=List.contains_iff_mem.mp hh.1;have h2:c∈pb:=List.contains_iff_mem.mp hh.2;unfold o9 at h1;unfold pb at h2;simp only[LO,Mb,or_false]at h1 h2;rcases h1 with rfl|rfl|rfl|rfl|rfl|rfl|rfl<;>rcases h2 with rfl|rfl|rfl|rfl|rfl|rfl<;>(cases h;rfl)
def ET(K:Zfr){T:String}:∀{cs:List String} {b:Bool},bE T cs=some b->PySem.W.kitAny K (.type T) (cs.map Value.type)=some b
 |[],b,h=>by cases h;rfl
 |c :: r,b,h=>by
  simp only[bE]at h;split at h
  ·next e=>cases h;simp only[Mt,PySem.W.kitAny,zt K e]
  ·next e=>simp only[Mt,PySem.W.kitAny,zt K e];exact ET K h
  ·cases h
abbrev BM(K:Zfr)(H:Hp)(x:V)(T:String):Prop:=gJ K H x (.type T)\/(T="tuple" /\ ∃a ys,x=.ref a/\ej K H a ys)
abbrev xi(K:Zfr):List V->Hp->VK->Prop:=λxs H Q=>∃x c T cs b,xs=[x,c]/\BM K H x T/\((∃n,c=.ty n/\cs=[n])\/∃p,c=.ref p/\ej K H p (cs.map V.ty))/\bE T cs=some b/\Q (.bl b) H
def Jv{pins:List (Addr×Obj)}{U:St}{H:Hp}{s:Shared}{x:V}{u:Value}{T:String}(I:Inv X pins U H s)(rx:RelV x u)(ty:BM X.K H x T):∃Hh,PySem.W.KitX X.K u (.type T) Hh/\Hh s.heap/\u≠.builtin "__main__.__loader__#opaque" := by
 rcases ty with ty|⟨rfl,a,ys,rfl,hs⟩
 generalize ht:Value.type T=t at ty;cases ty with
 |non=>cases ht;cases(show u=Value.none from rx);exact⟨_,PySem.W.kitx_none,True.intro,λz=>nomatch z⟩
 |bl y=>cases ht;cases(show u=Value.bool y from rx);exact⟨_,PySem.W.kitx_bool,True.intro,λz=>nomatch z⟩
 |int i=>cases ht;obtain⟨t,q⟩:=(show∃t,u=Value.int i t from rx);cases q;exact⟨_,PySem.W.kitx_int,True.intro,λz=>nomatch z⟩
 |str y=>cases ht;obtain⟨t,q⟩:=(show∃t,u=Value.str y t from rx);cases q;exact⟨_,PySem.W.kitx_str,True.intro,λz=>nomatch z⟩
 |qF y=>cases ht;obtain⟨t,q⟩:=(show∃t,u=Value.float y t from rx);cases q;exact⟨_,PySem.W.kitx_float,True.intro,λz=>nomatch z⟩
 |@lst a xs ea =>
  cases ht;cases(show u=Value.ref a from rx);obtain⟨_,_,n,_,h1⟩:=(show aT X.prog X.w H s.heap a (.lst xs)from I.hok a _ ea);exact⟨_,PySem.W.kitx_list,⟨_,h1,rfl⟩,λz=>nomatch z⟩
 |@gR a ob xs ea =>
  cases ht;cases(show u=Value.ref a from rx);obtain⟨_,_,_,n,_,h1⟩:=(show aT X.prog X.w H s.heap a (.gR ob (.lst xs))from I.hok a _ ea);exact⟨_,PySem.W.kitx_list,⟨_,h1,rfl⟩,λz=>nomatch z⟩
 |@tup a xs ea =>
  cases ht;cases(show u=Value.ref a from rx);obtain⟨_,_,_,p⟩:=(show aT X.prog X.w H s.heap a (.tup xs)from I.hok a _ ea);obtain⟨o,h1,h2,_⟩:=p;exact⟨_,PySem.W.kitx_tuple,⟨o,h1,h2⟩,λz=>nomatch z⟩
 |@dK a kvs ea =>
  cases ht;cases(show u=Value.ref a from rx);obtain⟨_,_,vs,_,p⟩:=(show aT X.prog X.w H s.heap a (.dK kvs)from I.hok a _ ea);obtain⟨o,es,ep,h1,h2,_⟩:=p;exact⟨_,PySem.W.kitx_dict,⟨o,h1,h2.1⟩,λz=>nomatch z⟩
 |@dT a kvs ea =>
  cases ht;cases(show u=Value.ref a from rx);obtain⟨_,_,xs,_,o,es,ep,h1,h2,_⟩:=(show aT X.prog X.w H s.heap a (.dT kvs)from I.hok a _ ea);exact⟨_,PySem.W.kitx_dict,⟨o,h1,h2.1⟩,λz=>nomatch z⟩
 |ins=>cases ht
 cases(show u=Value.ref a from rx);obtain⟨its,_,⟨o,h1,h2,_⟩,_⟩:=I.tuple hs;exact⟨_,PySem.W.kitx_tuple,⟨o,h1,h2⟩,λz=>nomatch z⟩
def EU:∀{cs:List String} {us:List Value},Vals (cs.map V.ty) us->us=cs.map Value.type
 |[],us,h=>by
  cases us with
  |nil=>rfl
  |cons a b=>cases h
 |x :: xs,us,h=>by
  cases us with
  |nil=>cases h
  |cons u us =>
   cases h with
   |cons r t =>
    rw[EU t];cases(show u=Value.type x from r);rfl
def lO:dX X (.builtin "isinstance") (xi X.K):=by
 intro pins s U H xs us Q I r h;obtain⟨x,c,T,cs,b,rfl,ty,hc,hb,q⟩:=h;obtain⟨u,u',rfl,ru,vY⟩:=vals2 r;obtain⟨Hh,Z,hh,hx⟩:=Jv I ru ty;have fin:∀tk,EP X pins U Q (.bool b) { s with toks:=tk }:=λtk=>⟨.bl b,H,I.tok tk,rfl,q⟩;have ka:=ET X.K hb;rcases hc with⟨n,rfl,rfl⟩|⟨p,rfl,hp⟩
 ·cases(show u'=Value.type n from vY)
  refine PySem.W.kia_one Z I.iG hh ?_ hx fin;simp only[bE]at hb;split at hb
  ·next e=>cases hb;exact zt _ e
  ·next e=>cases hb;exact zt _ e
  ·cases hb
 ·cases(show u'=Value.ref p from vY)
  obtain⟨its,rv,⟨⟨oc,od,yS,osl⟩,e,h2,h3,n,h4⟩,_⟩:=I.ky hp;cases(show oc=.type "tuple" from h2);cases(show yS=.seq its.toArray n from h4);cases EU rv;exact PySem.W.kia_tup Z I.iG hh e ka hx fin
def tf{L:List Addr}{H:Hp}{st:Store}{v:V}{a:D}{T:String}(l:Rl K L H st)(r1:Rp K L H v a)(hT:jr st a=some T):BM K H v T:=by
 cases r1<;>simp only[jr]at hT
 ·cases hT;exact .inl .non
 ·cases hT;exact .inl (.bl _)
 ·cases hT;exact .inl (.int _)
 ·cases hT;exact .inl (.str _)
 ·cases hT
 ·next hi =>
  split at hT
  ·next ds hs=>cases hT;obtain⟨vs,e1,_⟩:=l.obj _ _ _ hi hs;exact .inl (.lst e1)
  ·next ds hs=>cases hT;obtain⟨vs,e1,_⟩:=l.obj _ _ _ hi hs;exact .inl (.dK e1)
  ·cases hT
 ·next hs hr=>cases hT;exact .inr ⟨rfl,_,_,rfl,hs⟩
def EV{L:List Addr}{H:Hp}:∀{ws:List V} {ds:List D} {ns:List String},bj K L H ws ds->b8 ES ds=some ns->ws=ns.map V.ty
 |_,_,_,.nil,h=>by cases h;rfl
 |_,_,_,.cons a b,h=>by
  obtain⟨x,t,h1,h2,rfl⟩:=wx h;rw[EV b h2];cases a<;>first|(cases h1;rfl)|cases h1
def lP:nP K (xi K) dy:=by
 intro L H st xs as b st' Q l rx e q;unfold dy at e;split at e
 ·next a c =>
  split at e
  ·next T cs h1 h2 =>
   split at e
   ·next bb hb =>
    cases e;obtain⟨v,w,rfl,r1,r2⟩:=rx.two';refine⟨v,w,T,cs,bb,rfl,tf l r1 h1,?_,hb,q _ H L .refl l (.bl _)⟩;cases r2 with
    |non=>cases h2
    |bl _=>cases h2
    |int _=>cases h2
    |str _=>cases h2
    |ref _=>cases h2
    |ty n=>cases h2;exact .inl ⟨n,rfl,rfl⟩
    |tup s r=>exact .inr ⟨_,rfl,EV r h2 ▸ s⟩
   ·cases e
  ·cases e
 ·cases e
end
def Jw{P:Program}{w:World}{K:Zfr}{mg:Str->Option Value}{base:Heap}{CX:iY}{k:Nat}{f:Addr}{fd:FuncData}{ps:List Str}{n:Nat}(hn:n=ps.length):aN P w K mg base CX k f fd ps (gg K n λ_ _=>none):=by refine⟨λ_ _ _ _ h=>h.1.trans hn,λA outer s H args us vs Q E _ _ _ _ h=>?_⟩;obtain⟨_,L,st,ds,b,st',_,_,e,_⟩:=h;cases e
structure jM(K:Zfr)(mg:Str->Option Value)(x:Str)(v:V)(d:D):Prop where
 ex:∃u,mg x=some u/\RelV v u
 rp:∀(L:List Addr) (H:Hp),Rp K L H v d
def zu{X:Cx}{K:Zfr}{mg:Str->Option Value}{x:Str}{v:V}{d:D}{pos:Pos}(C:jM K mg x v d)(hg:Gl X x)(hX:X.mg=mg)(hd:(x == ("__debug__" : Str))=false):PE X (.Name x pos) (tC v):=by obtain⟨u,h,r⟩:=C.ex;subst hX;exact CH hg h r hd
def zv{K:Zfr}{mg:Str->Option Value}{x:Str}{v:V}{d:D}(C:jM K mg x v d):bW K (tC v) (fC d):=l8 C.rp
def BN{K:Zfr}{h:Heap}{mg:Str->Option Value}(X:K.In h)(G:h.Ns mainGlobals mg){x:Str}{u:Value}{v:V}{d:D}(e:PySem.W.nsIn K mainGlobals x=some (some u))(r:RelV v u)(rp:∀(L:List Addr) (H:Hp),Rp K L H v d):∃v,jM K mg x v d :=
 ⟨v,⟨u,PySem.W.mg_of X G e,r⟩,rp⟩
def Jx{K:Zfr}{h:Heap}{mg:Str->Option Value}(X:K.In h)(G:h.Ns mainGlobals mg){x:Str}{a:Addr}{od:Option Addr}{its:Array Value}{n:Nat}{sl:Array (Option Value)}{vs:List V}{ds:List D}(e:PySem.W.nsIn K mainGlobals x=some (some (.ref a)))(l:K.lookup a=some ⟨.type "tuple",od,.seq its n,sl⟩)
  (ho:od=none) (hz:its.size<=sizeLine) (hv:Vals vs its.toList) (hd:∀(L:List Addr) (H:Hp),bj K L H vs ds):∃v,jM K mg x v (.tup ds) :=
 ⟨.ref a,⟨_,PySem.W.mg_of X G e,rfl⟩,λL H=>.tup (.inr ⟨_,its,n,l,rfl,ho,rfl,hz,hv⟩) (hd L H)⟩
def EW{I:af}{st:Store}{fi:af->Dm Src}{js:List Nat}{f:af->Dm D}{Q:D->Store->Prop}(ps:List (D×D))(h:D×D->D)(hi:Wp (fi I st) λS st1=>iy S (ps.map λp=>.tup [p.1,p.2]) st1/\Ex [] st st1)(hl:ps.length<100000)
  (step:∀p∈ps,∀st1,Ex [] st st1->Wp (f (some p.1 :: some p.2 :: js.map λj=>I.getD j none) st1) λy st2=>y=h p/\Ex [] st1 st2) (fin:∀st',Ex [] st st'->Q (.ref st'.length) (st' ++ [.lst (ps.map h)])):Wp (cz fi 2 js (kK 2 (fq (hName 0) (fq (hName 1) ma))) cB f I st) Q:=by
 obtain⟨S,st1,e1,hS,k1⟩:=hi;refine Bw (ps.map λp=>.tup [p.1,p.2]) (λi ys I' gH=>(∃v w,I'=v :: w :: js.map λj=>I.getD j none)/\ys=(ps.take i).map h/\Ex [] st1 gH) ⟨S,st1,e1,λi ys I' gH hi' hp=>hS i gH hi' hp.2.2,⟨none,none,rfl⟩,rfl,Ex.refl⟩ (by rw[LG];exact hl) ?_ ?_ ?_;rintro i ys I' gH ⟨_,rfl,_⟩;rw[LG,LW];lk;rintro i d ys I' gH hd ⟨⟨v,w,rfl⟩,rfl,k8⟩;rw[L3]at hd;obtain⟨p,hp,rfl⟩:=Mc.mp hd;rw[EE];refine⟨rfl,?_⟩;rw[Bx,wU,Bx,wU,ED];show Wp (cB _ _) _;rw[By];refine⟨λ_=>?_,λh=>absurd h ∅⟩;refine bf (step p (L6 hp) gH (k1.trans k8)) ?_;rintro y nU ⟨rfl,k9⟩;refine⟨⟨some p.1,some p.2,rfl⟩,?_,k8.trans k9⟩;obtain⟨hlt,e⟩:=LN.mp hp;rw[MB hlt,Md,e];rfl;rintro ys I' gH ⟨_,rfl,k8⟩;rw[LG,MZ];exact fin gH (k1.trans k8)
def Jy{st:Store}{Q:D->Store->Prop}{a:D}{v:V}(h:sV a=some v)(hs:gZ v v=true):Wp (eM false a a st) Q↔Q (.bl true) st:=by
 have e:eM false a a st=some (.bl true,st):=by
  simp only[eM,h,hs,if_true,decide_true];rfl
 rw[e,aB]
abbrev pU:Nat->D->Prop
 |_,.int _=>True
 |_,.str x=>PyData.canLay0 (.str x)=true
 |_,.non=>True
 |n+1,.tup ds=>∀d∈ds,pU n d
 |_,_=>False
abbrev fe:Nat->D->PyData
 |_,.int i=>.int i
 |_,.str x=>.str x
 |n+1,.tup ds=>.tuple (ds.map (fe n))
 |_,_=>.none
def zw{J S:Type}{f:J->Option S}{g:J->S}:∀{l:List J},(∀x∈l,f x=some (g x))->b8 f l=some (l.map g)
 |[],_=>rfl
 |a :: r,h=>by
  have h1:=h a LL;have h2:=zw (f:=f) (g:=g) (l:=r) λx hx=>h x (LQ _ hx);simp only[b8,h1,h2,Mt]
def zx:∀(n:Nat) (d:D),pU n d->∀(m:Nat),n<m->∀st,gD st m d=some (fe n d)
 |n,.int i,_,m+1,_,st=>by cases n<;>rfl
 |n,.str x,_,m+1,_,st=>by cases n<;>rfl
 |n,.non,_,m+1,_,st=>by cases n<;>rfl
 |n,.bl b,h,_,_,_=>by cases n<;>exact h.elim
 |n,.ty b,h,_,_,_=>by cases n<;>exact h.elim
 |n,.ref b,h,_,_,_=>by cases n<;>exact h.elim
 |0,.tup ds,h,_,_,_=>h.elim
 |n+1,.tup ds,h,m+1,hm,st=>by
  simp only[gD];rw[zw (g:=fe n) λx hx=>zx n x (h x hx) m ⋯ st];rfl
def BO:∀{l:List PyData},(∀x∈l,x.canLay0=true)->PyData.canLayAll0 l=true
 |[],_=>rfl
 |a :: r,h=>by
  simp only[PyData.canLayAll0,h a LL,BO λx hx=>h x (LQ _ hx),Bool.and_self]
def BP{n:Nat}:∀{l:List PyData},(∀x∈l,x.depth<=n)->PyData.depthAll l<=n
 |[],_=>Mx _
 |a :: r,h=>by
  have h1:=h a LL;have h2:=BP λx hx=>h x (LQ _ hx);simp only[PyData.depthAll];lk
def uF:∀(n:Nat) (d:D),pU n d->(fe n d).canLay0=true/\(fe n d).depth<=n
 |n,.int i,_=>by cases n<;>exact⟨rfl,Mx _⟩
 |n,.str x,h=>by cases n<;>exact⟨h,Mx _⟩
 |n,.non,_=>by cases n<;>exact⟨rfl,Mx _⟩
 |n,.bl b,h=>by cases n<;>exact h.elim
 |n,.ty b,h=>by cases n<;>exact h.elim
 |n,.ref b,h=>by cases n<;>exact h.elim
 |0,.tup ds,h=>h.elim
 |n+1,.tup ds,h=>by
  refine⟨?_,?_⟩;show PyData.canLayAll0 (ds.map (fe n))=true;exact BO λx hx=>by
   obtain⟨d,hd,rfl⟩:=LX.mp hx;exact(uF n d (h d hd)).1
  show PyData.depthAll (ds.map (fe n))+1<=n+1
  have:=BP (n:=n) (l:=ds.map (fe n)) λx hx=>by
   obtain⟨d,hd,rfl⟩:=LX.mp hx;exact(uF n d (h d hd)).2
  lk
def BQ{n:Nat}(ih:∀a b:D,pU n a->pU n b->(PyData.eqv (fe n a) (fe n b)=true↔a=b)):∀(l m:List D),(∀x∈l,pU n x)->(∀x∈m,pU n x)->(PyData.eqvAll (l.map (fe n)) (m.map (fe n))=true↔l=m)
 |[],[],_,_=>by simp[PyData.eqvAll]
 |[],_ :: _,_,_=>by simp[PyData.eqvAll]
 |_ :: _,[],_,_=>by simp[PyData.eqvAll]
 |a :: l,b :: m,h1,h2=>by
  have e1:=ih a b (h1 a LL) (h2 b LL);have e2:=BQ ih l m (λx hx=>h1 x (LQ _ hx)) λx hx=>h2 x (LQ _ hx);simp only[Mt,PyData.eqvAll,Mf,e1,e2,List.cons.injEq]
def BR:∀(n:Nat) (a b:D),pU n a->pU n b->(PyData.eqv (fe n a) (fe n b)=true↔a=b):=by
 intro n
 induction n with
 |zero =>
  intro a b ha hb;cases a<;>first|exact ha.elim|skip
  all_goals (cases b<;>first|exact hb.elim|simp[fe,PyData.eqv])
 |succ n ih =>
  intro a b ha hb;cases a<;>first|exact ha.elim|skip
  all_goals (cases b<;>first|exact hb.elim|skip)
  all_goals first
   |(simp[fe,PyData.eqv];done)
   |skip
  next l m =>
   have:=BQ ih l m ha hb;show PyData.eqv (.tuple (l.map (fe n))) (.tuple (m.map (fe n)))=true↔_;rw[Jk,this];constructor
   ·rintro rfl;rfl
   ·intro h;exact D.tup.inj h
abbrev jv(neg:Bool):D->D->Dm D:=λa c st=>match gD st 20 a,(bT st c).bind (b8 (gD st 19))with
 |some dx,some ds=>if dx.canLay0 && ds.all PyData.canLay0 && decide (dx.depth<=60)then some (.bl (if neg then !ds.any (λd=>PyData.eqv d dx)else ds.any λd=>PyData.eqv d dx),st)else none
 |_,_=>none
section
variable {K:Zfr}
def EX{L:List Addr}{H:Hp}{st:Store}(l:Rl K L H st)(n:Nat):∀{vs:List V} {ds:List D} {ps:List PyData},bj K L H vs ds->b8 (gD st n) ds=some ps->cZ K H vs ps
 |_,_,_,.nil,h=>by cases h;exact .nil
 |_,_,_,.cons a b,h=>by
  obtain⟨x,t,h1,h2,rfl⟩:=wx h;exact .cons (wy l n a h1) (EX l n b h2)
def BS(neg:Bool):gP K (rL K neg) (jv neg):=by
 intro L H st x y a c b st' Q l rx ry e q;unfold jv at e;split at e
 ·next dx ds h1 h2 =>
  split at e
  ·next ok =>
   cases e;rw[Mf,Mf,decide_eq_true_eq,Nm]at ok;obtain⟨es,h3,h4⟩:=ME.mp h2;obtain⟨p,xs,rfl,hq,rr⟩:∃p xs,y=.ref p/\(ez K H p xs\/ej K H p xs)/\bj K L H xs es:=by
    cases ry with
    |non=>cases h3
    |bl _=>cases h3
    |int _=>cases h3
    |str _=>cases h3
    |ty _=>cases h3
    |ref hi=>obtain⟨vs,s,r⟩:=l.items hi h3;exact⟨_,vs,rfl,.inl s,r⟩
    |tup s r=>cases h3;exact⟨_,_,rfl,.inr s,r⟩
   exact⟨p,xs,ds,dx,rfl,hq,EX l 19 rr h4,wy l 20 rx h1,ok.1.2,ok.1.1,ok.2,q _ H L .refl l (.bl _)⟩
  ·cases e
 ·cases e
end
open Classical in
def BU{st:Store}{Q:D->Store->Prop}{neg:Bool}{n:Nat}{a c:D}{es:List D}(ha:pU n a)(hc:bT st c=some es)(he:∀e∈es,pU n e)(hn:n<=15):Wp (jv neg a c st) Q↔Q (.bl (if neg then !decide (a∈es)else decide (a∈es))) st:=by
 have h1:=zx n a ha 20 ⋯ st;have h2:b8 (gD st 19) es=some (es.map (fe n)):=zw λx hx=>zx n x (he x hx) 19 ⋯ st;have ea:(es.map (fe n)).any (λd=>PyData.eqv d (fe n a))=decide (a∈es):=by
  rw[MD,Nk,decide_eq_true_eq];constructor;rintro⟨d,hd,h⟩;obtain⟨x,hx,rfl⟩:=LX.mp hd;rw[<- (BR n x a (he x hx) ha).mp h];exact hx;intro h;exact⟨_,LX.mpr ⟨a,h,rfl⟩,(BR n a a ha ha).mpr rfl⟩
 have l1:=uF n a ha;have l2:(es.map (fe n)).all PyData.canLay0=true:=by
  rw[Nm];intro d hd;obtain⟨x,hx,rfl⟩:=LX.mp hd;exact(uF n x (he x hx)).1
 have e:jv neg a c st=some (.bl (if neg then !decide (a∈es)else decide (a∈es)),st):=by
  unfold jv;simp only[h1,hc,MJ,h2,ea,l1.1,l2,Bool.true_and,decide_eq_true_eq];rw[if_pos ⋯]
 rw[e,aB]
def zy{st:Store}{Q:D->Store->Prop}{z:Str}:Wp (gF [.str z] st) Q↔lim z.length=true/\Q (.int z.length) st:=by
 show Wp (if lim z.length=true then some (D.int z.length,st)else none) Q↔_;rw[iu,aB,cg];split
 ·next h=>exact⟨λq=>⟨h,q⟩,λq=>q.2⟩
 ·next h=>exact⟨False.elim,λq=>h q.1⟩
section
variable {K:Zfr}
abbrev n4:af->Dm Fl:=λ_ _=>none
def Jz:jH K mV n4:=by intro L U H I st fl st' E l rs e q;cases e
abbrev fB:D->List D->Dm D
 |.str a,[.str b],st=>if(!(b.length == 0) && decide (a.length<=sizeLine) && decide ((Txt.split a b).length<=sizeLine))=true then some (.ref st.length,st ++ [.lst ((Txt.split a b).map D.str)])else none
 |_,_,_=>none
def bj.strs{L:List Addr}{H:Hp}:∀ts:List Str,bj K L H (ts.map V.str) (ts.map D.str)
 |[]=>.nil
 |t :: ts=>.cons (.str t) (bj.strs ts)
def BV:wo K "str" nJ fB:=by
 intro L H st x xs a as b st' Q l rx rZ e q;unfold fB at e;split at e
 ·next a b =>
  split at e
  ·next ok =>
   cases e;rw[Mf,Mf,decide_eq_true_eq,decide_eq_true_eq,Bool.not_eq_true']at ok;obtain⟨v,rfl,r⟩:=rZ.one';cases r;cases rx;exact⟨a,b,rfl,rfl,ok.1.1,ok.1.2,ok.2,λp hp=>q _ _ _ (Mn.new hp) (l.newL hp (bj.strs _)) (.ref (newR l))⟩
  ·cases e
 ·cases e
abbrev ja:List D->Dm D
 |[.int i],st=>if i.natAbs.log2<1920 then some (.str (toString i),st)else none
 |_,_=>none
def BW:nP K (λxs H Q=>∃i:Int,xs=[.int i]/\i.natAbs.log2<1920/\Q (.str (toString i)) H) ja:=by
 intro L H st xs as b st' Q l rx e q;unfold ja at e;split at e
 ·split at e
  ·next ok =>
   cases e;obtain⟨v,rfl,r⟩:=rx.one';cases r;exact⟨_,rfl,ok,q _ H L .refl l (.str _)⟩
  ·cases e
 ·cases e
end
section
variable {st:Store}{Q:D->Store->Prop}
def BX{a b:Str}(hb:(b.length == 0)=false)(ha:a.length<=sizeLine)(hz:(Txt.split a b).length<=sizeLine):Wp (fB (.str a) [.str b] st) Q↔Q (.ref st.length) (st ++ [.lst ((Txt.split a b).map D.str)]):=by
 have e:fB (.str a) [.str b] st=some (.ref st.length,st ++ [.lst ((Txt.split a b).map D.str)]):=by
  show(if(!(b.length == 0) && decide (a.length<=sizeLine) && decide ((Txt.split a b).length<=sizeLine))=true then _ else none)=_;rw[if_pos (by rw[hb,decide_eq_true ha,decide_eq_true hz];rfl)]
 rw[e,aB]
def EY{i:Int}(h:i.natAbs.log2<1920):Wp (ja [.int i] st) Q↔Q (.str (toString i)) st:=by have e:ja [.int i] st=some (.str (toString i),st):=if_pos h;rw[e,aB]
end
def JA{I:af}{st:Store}{fi:af->Dm Src}{js:List Nat}{c:af->Dm Bool}{f:af->Dm D}{Q:D->Store->Prop}(ds:List D)(q:D->Bool)(h:D->D)(hi:Wp (fi I st) λS st1=>iy S ds st1/\Ex [] st st1)(hl:ds.length<100000)
  (cond:∀d∈ds,∀st1,Ex [] st st1->Wp (c (some d :: js.map λj=>I.getD j none) st1) λb st2=>b=q d/\Ex [] st1 st2)
  (step:∀d∈ds,q d=true->∀st1,Ex [] st st1->Wp (f (some d :: js.map λj=>I.getD j none) st1) λy st2=>y=h d/\Ex [] st1 st2) (fin:∀st',Ex [] st st'->Q (.ref st'.length) (st' ++ [.lst ((ds.filter q).map h)])):Wp (cz fi 1 js (hName 0) c f I st) Q:=by
 obtain⟨S,st1,e1,hS,k1⟩:=hi;refine Bw ds (λi ys I' gH=>(∃v,I'=v :: js.map λj=>I.getD j none)/\ys=((ds.take i).filter q).map h/\Ex [] st1 gH) ⟨S,st1,e1,λi ys I' gH hi' hp=>hS i gH hi' hp.2.2,⟨none,rfl⟩,rfl,Ex.refl⟩ hl ?_ ?_ ?_;rintro i ys I' gH ⟨_,rfl,_⟩;rw[LG];refine L5 (List.length_filter_le _ _) ?_;rw[LW];lk;rintro i d ys I' gH hd ⟨⟨v,rfl⟩,rfl,k8⟩;obtain⟨hlt,e⟩:=LN.mp hd;have hm:=L6 hd;rw[wU];refine bf (cond d hm gH (k1.trans k8)) ?_;rintro b nU ⟨rfl,k9⟩;refine⟨λhq=>bf (step d hm hq nU (k1.trans (k8.trans k9))) ?_,λhq=>⟨⟨some d,rfl⟩,?_,k8.trans k9⟩⟩;rintro y JB ⟨rfl,JC⟩;refine⟨⟨some d,rfl⟩,?_,(k8.trans k9).trans JC⟩;rw[MB hlt,List.filter_append,Md,e,List.filter_cons_of_pos hq];rfl;rw[MB hlt,List.filter_append,Md,e,List.filter_cons_of_neg (by rw[hq];decide)];simp;rintro ys I' gH ⟨_,rfl,k8⟩;rw[MZ];exact fin gH (k1.trans k8)
section
variable {K:Zfr}
abbrev fN:List D->Dm D
 |[.str x],st=>match PySem.intText? x with
  |some n=>if x.length<=640 then some (.int n,st)else none
  |none=>none
 |_,_=>none
def zz:nP K (λxs H Q=>∃(x:Str) (n:Int),xs=[.str x]/\PySem.intText? x=some n/\x.length<=640/\Q (.int n) H) fN:=by
 intro L H st xs as b st' Q l rx e q;unfold fN at e;split at e
 ·split at e
  ·next n hn =>
   split at e
   ·next hl =>
    cases e;obtain⟨v,rfl,r⟩:=rx.one';cases r;exact⟨_,n,rfl,hn,hl,q _ H L .refl l (.int _)⟩
   ·cases e
  ·cases e
 ·cases e
abbrev gX:D->List D->Dm D
 |.str a,[.str b],st=>some (.bl (PySem.Txt.startswith a b),st)
 |_,_,_=>none
def JD:wo K "str" lB gX:=by
 intro L H st x xs a as b st' Q l rx rZ e q;unfold gX at e;split at e
 ·next a b =>
  cases e;obtain⟨v,rfl,r⟩:=rZ.one';cases r;cases rx;exact⟨a,b,rfl,rfl,q _ H L .refl l (.bl _)⟩
 ·cases e
end
section
variable {st:Store}{Q:D->Store->Prop}
def BZ{x:Str}{n:Int}(hn:PySem.intText? x=some n)(hl:x.length<=640):Wp (fN [.str x] st) Q↔Q (.int n) st:=by
 have e:fN [.str x] st=some (.int n,st):=by simp only[fN,hn,if_pos hl]
 rw[e,aB]
def JE{a b:Str}:Wp (gX (.str a) [.str b] st) Q↔Q (.bl (PySem.Txt.startswith a b)) st:=aB
end
abbrev fD:D->Option Int->Option Int->Dm D
 |.str z,lo,hi,st=>if lim z.length=true then some (.str (PySem.Txt.slice z lo hi),st)else none
 |_,_,_,_=>none
section
variable {K:Zfr}
def xj:rV K vZ fD:=by
 intro lo hi L H st x a b st' Q l rx e q;have e:fD a lo hi st=some (b,st'):=e;unfold fD at e;split at e
 ·split at e
  ·next ok =>
   cases e;cases rx;exact⟨_,rfl,rR ok,q _ H L .refl l (.str _)⟩
  ·cases e
 ·cases e
end
def ow{st:Store}{Q:D->Store->Prop}{z:Str}{lo hi:Option Int}:Wp (fD (.str z) lo hi st) Q↔lim z.length=true/\Q (.str (PySem.Txt.slice z lo hi)) st:=by
 show Wp (if lim z.length=true then some (D.str (PySem.Txt.slice z lo hi),st)else none) Q↔_;rw[iu,aB,cg];split
 ·next h=>exact⟨λq=>⟨h,q⟩,λq=>q.2⟩
 ·next h=>exact⟨False.elim,λq=>h q.1⟩
def JF{z:Str}(h:1<=z.length):PySem.Txt.slice z none (some 1)=sO (z.cps.toList.take 1):=by rw[v8,StrLaws.sliceText_to ⟨by decide,by simp[Str.length]at h ⊢;lk⟩];rfl
def JG{z:Str}(h:1<=z.length):PySem.Txt.slice z (some 1) none=sO (z.cps.toList.drop 1):=by
 rw[v8,StrLaws.sliceText_from ⟨by decide,by simp[Str.length]at h ⊢;lk⟩];unfold sO
 congr 2
 refine MX ?_;rw[Me];have:(Int.toNat 1)=1:=rfl;rw[this];lk
def EZ{c:Nat}:∀{A A' B B':List Nat},c ∉ A->c ∉ A'->A ++ c :: B=A' ++ c :: B'->A=A'/\B=B'
 |[],[],B,B',_,_,h=>⟨rfl,(Nd h).2⟩
 |[],a :: A',B,B',_,h2,h=>absurd (show c∈a :: A' by rw[(Nd h).1];exact LL) h2
 |a :: A,[],B,B',h1,_,h=>absurd (show c∈a :: A by rw[(Nd h).1];exact LL) h1
 |a :: A,b :: A',B,B',h1,h2,h=>by
  obtain⟨e1,e2⟩:=Nd h;obtain⟨e3,e4⟩:=EZ (A:=A) (A':=A') (λz=>h1 (LQ _ z)) (λz=>h2 (LQ _ z)) e2;exact⟨by rw[e1,e3],e4⟩
abbrev fr(c:Nat)(ws:List Str):Prop:=∀w∈ws,c ∉ w.cps.toList
def tj{c:Nat}(x y:Str)(r:List Str):(Str.join ⟨#[c]⟩ (x :: y :: r)).cps.toList=x.cps.toList ++ c :: (Str.join ⟨#[c]⟩ (y :: r)).cps.toList:=by show(x ++ (⟨#[c]⟩:Str) ++ Str.join ⟨#[c]⟩ (y :: r)).cps.toList=_;simp only[Str.cps_append,Array.toList_append];simp
def E1{c:Nat}:∀(ws us:List Str),ws≠[]->us≠[]->fr c ws->fr c us->Str.join ⟨#[c]⟩ ws=Str.join ⟨#[c]⟩ us->ws=us
 |[],_,h,_,_,_,_=>absurd rfl h
 |_,[],_,h,_,_,_=>absurd rfl h
 |[w],[u],_,_,_,_,h=>by rw[show w=u from h]
 |[w],u :: u' :: r,_,_,f,_,h=>by
  have e:=congrArg (λz:Str=>z.cps.toList) h;have e:w.cps.toList=(Str.join ⟨#[c]⟩ (u :: u' :: r)).cps.toList:=e;rw[tj]at e;exact absurd (show c∈w.cps.toList by rw[e];simp) (f w LL)
 |w :: w' :: r,[u],_,_,_,f,h=>by
  have e:=congrArg (λz:Str=>z.cps.toList) h;have e:(Str.join ⟨#[c]⟩ (w :: w' :: r)).cps.toList=u.cps.toList:=e;rw[tj]at e;exact absurd (show c∈u.cps.toList by rw[<- e];simp) (f u LL)
 |w :: w' :: r,u :: u' :: r',_,_,f,f',h=>by
  have e:=congrArg (λz:Str=>z.cps.toList) h;have e:(Str.join ⟨#[c]⟩ (w :: w' :: r)).cps.toList=(Str.join ⟨#[c]⟩ (u :: u' :: r')).cps.toList:=e;rw[tj,tj]at e;obtain⟨e1,e2⟩:=EZ (f w LL) (f' u LL) e;have e3:w=u:=Str.ext' (Array.toList_inj.mp e1);have e4:Str.join ⟨#[c]⟩ (w' :: r)=Str.join ⟨#[c]⟩ (u' :: r'):=Str.ext' (Array.toList_inj.mp e2);rw[e3,E1 (w' :: r) (u' :: r') (by simp) (by simp) (λx hx=>f x (LQ _ hx)) (λx hx=>f' x (LQ _ hx)) e4]
def JH{c:Nat}{ws:List Str}(h:ws≠[])(f:fr c ws):Txt.split (Str.join ⟨#[c]⟩ ws) ⟨#[c]⟩=ws:=by have hp:=PyProof.Rows.split_pos (Str.join ⟨#[c]⟩ ws) ⟨#[c]⟩;refine E1 _ _ (λz=>by rw[z]at hp;simp at hp) h (StrLaws.split_free _ c) f (StrLaws.join_split _ _)
end L4
namespace L4
open PySem PySem.NumText PySem.W
abbrev tx(i:Int):Str:=toString i
def B0{m:Nat}(h:¬m<10):Nat.toDigits 10 m=Nat.toDigits 10 (m / 10) ++ Nat.toDigits 10 (m % 10):=by have hm:m % 10<10:=Nat.mod_lt m ∅;have t:Nat.toDigits 10 (m / 10) ++ Nat.toDigits 10 (m % 10)=Nat.toDigits 10 (10*(m / 10)+m % 10):=Nat.toDigits_append_toDigits ∅ ⋯ hm;rw[Nat.div_add_mod]at t;exact t.symm
def E2:∀(k m:Nat),m<10 ^ (k+1)->(Nat.toDigits 10 m).length<=k+1
 |0,m,h=>by rw[Mw ⋯];simp
 |k+1,m,h=>by
  by_cases hm:m<10;rw[Mw hm];simp;have ih:=E2 k (m / 10) (by rw[Nat.pow_succ]at h;lk);have h2:m % 10<10:=Nat.mod_lt m ∅;rw[B0 hm,LP,Mw h2];simp;lk
def xk:∀d:Nat,d<10->1<=d->(Nat.digitChar d).toNat≠48:=by decide
def E3:∀(f m:Nat),m<=f->1<=m->∃c l,Nat.toDigits 10 m=c :: l/\c.toNat≠48
 |0,m,h,h1=>by lk
 |f+1,m,h,h1=>by
  by_cases hm:m<10;exact⟨_,_,Mw hm,xk m hm h1⟩;obtain⟨c,l,e,hc⟩:=E3 f (m / 10) ⋯ ⋯;exact⟨c,l ++ Nat.toDigits 10 (m % 10),by rw[B0 hm,e];rfl,hc⟩
def xl(m:Nat):(tx (m:Int)).cps.toList=(Nat.toDigits 10 m).map Char.toNat:=KIN.signs_num m
def zA(m:Nat):AllDigits (tx (m:Int)).cps.toList:=λc hc=>by
 rw[xl]at hc;obtain⟨ch,hch,e⟩:=LX.mp hc;have r:=PyProof.Rows.digit_range (Nat.isDigit_of_mem_toDigits ∅ ∅ hch);rw[<- e];exact r
def B1{m:Nat}(h1:1<=m)(h2:m<10000):∃c l,(tx (m:Int)).cps.toList=c :: l/\c≠48/\l.length<=3:=by obtain⟨c,l,e,hc⟩:=E3 m m (LI _) h1;have hl:=E2 3 m ⋯;refine⟨c.toNat,l.map Char.toNat,by rw[xl,e];rfl,hc,?_⟩;rw[e,LZ]at hl;rw[LG];lk
def xm{m:Nat}(h1:1<=m):(tx (-(m:Int))).cps.toList=45 :: (tx (m:Int)).cps.toList:=by obtain⟨k,rfl⟩:∃k,m=k+1:=⟨m-1,by lk⟩;rw[xl];have e:(tx (-((k+1:Nat):Int))).cps.toList=(toString (Int.negSucc k)).toList.map Char.toNat:=PyProof.Rows.signs_ofString _;rw[e];show("-" ++ Nat.repr (k+1)).toList.map Char.toNat=_;rw[String.toList_append,Md,Nat.toList_repr];rfl
def mr(x:Str):x.length=x.cps.toList.length:=by simp[Str.length]
def tm{m:Nat}(h1:1<=m)(h2:m<10000):PySem.intText? (tx (m:Int))=some (m:Int):=KIN.num_reads ⋯ ⋯
def JI{m:Nat}(h1:1<=m)(h2:m<10000):PySem.intText? (tx (-(m:Int)))=some (-(m:Int)):=by obtain⟨c,l,e,_,hl⟩:=B1 h1 h2;have:=intText_neg (xm h1) (zA m) (by rw[e];simp) (by rw[mr,xm h1,e];simp;lk);rw[this,xl,KIN.val_back]
end L4
namespace L4
open PySem PySem.NumText PySem.W L2
abbrev aO:List Nat->List Nat
 |45 :: m=>m
 |l=>l
def xn{l:List Nat}(h:l.head?≠some 45):aO l=l:=by unfold aO;split;exact absurd rfl h;rfl
abbrev nB(l:List Nat):Bool:=decide (1<=(aO l).length/\(aO l).length<=4/\(aO l).head?≠some 48/\∀c∈aO l,48<=c/\c<=57)
def E7(cs:List Nat)(c:Nat):digitsVal (cs ++ [c])=digitsVal cs*10+(c-48):=by unfold digitsVal;rw[List.foldl_append];rfl
def Fb{P:List Nat->Prop}(h0:P [])(h1:∀cs c,P cs->P (cs ++ [c]))(l:List Nat):P l:=by
 have key:∀r:List Nat,P r.reverse:=λr=>by
  induction r with
  |nil=>exact h0
  |cons c r ih=>rw[MQ];exact h1 _ _ ih
 have:=key l.reverse
 rwa [List.reverse_reverse]at this
def qt(cs:List Nat)(h:AllDigits cs):digitsVal cs<10 ^ cs.length:=by revert h;refine Fb (P:=λcs=>AllDigits cs->digitsVal cs<10 ^ cs.length) ?_ ?_ cs;intro _;decide;intro cs c ih h;have h1:=ih λd hd=>h d (Mm _ hd);have h2:=h c (LK _ LL);rw[E7,LP,MR,Nat.pow_succ];lk
def Fc:∀d:Nat,d<10->(Nat.digitChar d).toNat=d+48:=by decide
def Fd(cs:List Nat)(h:AllDigits cs)(h0:cs≠[])(h1:cs.head?≠some 48):(Nat.toDigits 10 (digitsVal cs)).map Char.toNat=cs/\1<=digitsVal cs:=by
 revert h h0 h1;refine Fb (P:=λcs=>AllDigits cs->cs≠[]->cs.head?≠some 48->(Nat.toDigits 10 (digitsVal cs)).map Char.toNat=cs/\1<=digitsVal cs) ?_ ?_ cs;intro _ h;exact absurd rfl h;intro cs c ih h h0 h1;have hc:=h c (LK _ LL);rw[E7];by_cases hn:cs=[];subst hn;have hc0:c≠48:=λz=>h1 (by rw[z];rfl);have e0:digitsVal []=0:=rfl;rw[e0,Nat.zero_mul,Nat.zero_add,Mw ⋯];refine⟨?_,by lk⟩;show[(Nat.digitChar (c-48)).toNat]=[c];rw[Fc _ ⋯]
 congr 1;lk
 obtain⟨e,g⟩:=ih (λd hd=>h d (Mm _ hd)) hn (λz=>h1 (by
  cases cs with
  |nil=>exact absurd rfl hn
  |cons a r=>exact z))
 refine⟨?_,by lk⟩;rw[B0 ⋯,show(digitsVal cs*10+(c-48)) / 10=digitsVal cs by lk,show(digitsVal cs*10+(c-48)) % 10=c-48 by lk,Md,e,Mw ⋯];show cs ++ [(Nat.digitChar (c-48)).toNat]=cs ++ [c];rw[Fc _ ⋯]
 congr 2;lk
def xo{cs:List Nat}(h:AllDigits cs)(h0:cs≠[])(h1:cs.head?≠some 48):tx (digitsVal cs:Nat)=sO cs:=by rw[uE (tx _),xl,(Fd cs h h0 h1).1]
def xq{n:List Nat}(h:nB n=true):∃k:Int,k≠0/\k.natAbs<10000/\sO n=tx k:=by
 obtain⟨a,b,c,d⟩:=of_decide_eq_true h;have h0:aO n≠[]:=λz=>by rw[z]at a;simp at a
 have v1:=(Fd _ d h0 c).2;have v2:=qt _ d;have v3:digitsVal (aO n)<10000:=LR v2 (Nat.pow_le_pow_right ∅ b);have e:=xo d h0 c;by_cases hm:n.head?=some 45;obtain⟨m,rfl⟩:∃ m,n=45 :: m:=by
  cases n with
  |nil=>cases hm
  |cons x m=>cases hm;exact⟨m,rfl⟩
 have ef:aO (45 :: m)=m:=rfl;rw[ef]at e v1 v3;refine⟨-((digitsVal m:Nat):Int),by lk,by lk,?_⟩;rw[uE (tx (-((digitsVal m:Nat):Int))),xm v1,e,iR];rw[xn hm]at e v1 v3;exact⟨(digitsVal n:Nat),by lk,by lk,e.symm⟩
def xr{k:Int}(h0:k≠0)(h1:k.natAbs<10000):nB (tx k).cps.toList=true:=by
 have key:∀m:Nat,1<=m->m<10000->∀l,aO l=(tx (m:Int)).cps.toList->nB l=true:=λm m1 m2 l e=>by
  obtain⟨c,r,e2,hc,hl⟩:=B1 m1 m2;have hd:=zA m;refine decide_eq_true ?_;rw[e];refine⟨by rw[e2];simp,by rw[e2];simp;lk,by rw[e2];simpa using hc,hd⟩
 rcases(show k=(k.natAbs:Int)\/k=-(k.natAbs:Int) by lk)with e|e
 rw[e];refine key k.natAbs ⋯ h1 _ (xn ?_);intro z;cases hh:(tx (k.natAbs:Int)).cps.toList with
 |nil=>rw[hh]at z;cases z
 |cons x r =>
  have:=zA k.natAbs x (by rw[hh];exact LL);rw[hh]at z;cases z;lk
 rw[e,xm ⋯];exact key k.natAbs ⋯ h1 _ rfl
def B2{n:List Nat}(a:1<=(aO n).length)(b:(aO n).length<=4)(d:AllDigits (aO n)):∃k:Int,PySem.intText? (sO n)=some k/\k.natAbs<10000:=by
 have h0:aO n≠[]:=λz=>by rw[z]at a;simp at a
 have v2:=qt _ d;have v3:digitsVal (aO n)<10000:=LR v2 (Nat.pow_le_pow_right ∅ b);by_cases hm:n.head?=some 45;obtain⟨m,rfl⟩:∃ m,n=45 :: m:=by
  cases n with
  |nil=>cases hm
  |cons x m=>cases hm;exact⟨m,rfl⟩
 have ef:aO (45 :: m)=m:=rfl;rw[ef]at d h0 b v3;refine⟨_,intText_neg (cs:=m) (iR _) d h0 ?_,by lk⟩;rw[jI,LZ];lk;rw[xn hm]at d h0 b v3;refine⟨_,intText_digits (by rw[iR];exact d) (by rw[iR];exact h0) ?_,?_⟩;rw[jI];lk;rw[iR];lk
def tq{z:Str}{n:Nat}(h:n<=z.length):PySem.Txt.slice z none (some (n:Int))=sO (z.cps.toList.take n):=by rw[v8,StrLaws.sliceText_to ⟨by lk,by simp[Str.length]at h ⊢;lk⟩];simp[sO]
def Fe{z:Str}{n:Nat}(h:n<=z.length):PySem.Txt.slice z (some (n:Int)) none=sO (z.cps.toList.drop n):=by
 rw[v8,StrLaws.sliceText_from ⟨by lk,by simp[Str.length]at h ⊢;lk⟩];unfold sO
 congr 2
 refine MX ?_;rw[Me];lk
def JJ{z:Str}:PySem.Txt.slice z (some ((z.length:Int)+1)) none=sO []:=by
 have e:=Fe (z:=z) (n:=z.length) (LI _);rw[v8]at e ⊢;have e2:Builtin.Str.strSliceIndices (some ((z.length:Int)+1)) none 1 z.length=Builtin.Str.strSliceIndices (some (z.length:Int)) none 1 z.length:=by
  unfold Builtin.Str.strSliceIndices;simp only[];rw[if_neg (show ¬((z.length:Int)+1<0) by lk),if_neg (show ¬((z.length:Int)<0) by lk),show min ((z.length:Int)+1) (z.length:Int)=z.length by lk,show min (z.length:Int) (z.length:Int)=z.length by lk,if_pos ∅,if_pos ∅,if_pos ∅]
 unfold StrLaws.sliceText at e ⊢;rw[e2,e,MO (by rw[mr];exact LI _)]
def xt{z:Str}{n:Nat}(h:n<=z.length+1):PySem.Txt.slice z (some (n:Int)) none=sO (z.cps.toList.drop n):=by
 by_cases hn:n<=z.length;exact Fe hn;rw[show n=z.length+1 by lk]
 have:=JJ (z:=z);rw[show((z.length+1:Nat):Int)=(z.length:Int)+1 by lk,this,MO (by rw[mr];lk)]
abbrev eO(ws:List Str):Nat:=(ws.map (·.length)).sum+ws.length
def uG(a b:List Str):eO (a ++ b)=eO a+eO b:=by unfold eO;simp;lk
def B3(w:Str):eO [w]=w.length+1:=by simp[eO]
def tu(w:Str)(ws:List Str):eO (w :: ws)=w.length+1+eO ws:=by unfold eO;simp;lk
def B4{c:Nat}:∀(ws:List Str),ws≠[]->(Str.join ⟨#[c]⟩ ws).length+1=eO ws
 |[],h=>absurd rfl h
 |[w],_=>by
  rw[B3];have:Str.join ⟨#[c]⟩ [w]=w:=by simp[Str.join]
  rw[this]
 |w :: u :: r,_=>by
  have ih:=B4 (c:=c) (u :: r) (by simp);rw[mr,tj,LP,LZ,tu,<- ih,mr,mr];lk
def B5(t:Str)(c:Nat):eO (Txt.split t ⟨#[c]⟩)=t.length+1:=by have hp:=PyProof.Rows.split_pos t ⟨#[c]⟩;rw[<- B4 (c:=c) _ (λz=>by rw[z]at hp;simp at hp),StrLaws.join_split]
def Ff{w:Str}:∀{ws:List Str},w∈ws->w.length+ws.length<=eO ws
 |u :: r,h=>by
  rw[tu,LZ];rcases LO.mp h with rfl|h
  have:r.length<=eO r:=by unfold eO;lk
  lk
  have:=Ff h;lk
def Fg(ws:List Str):ws.length<=eO ws:=by unfold eO;lk
def B6{x:Str}:∀(ws:List Str) (i:Nat),eO (ws.set i x)<=eO ws+x.length
 |[],i=>by simp[eO]
 |w :: r,0=>by rw[List.set_cons_zero,tu,tu];lk
 |w :: r,i+1=>by have:=B6 (x:=x) r i;rw[List.set_cons_succ,tu,tu];lk
def xu(ws:List Str)(i:Nat):eO (ws.take i)+eO (ws.drop i)=eO ws:=by rw[<- uG,List.take_append_drop]
def Fh{c:Nat}(ws:List Str):(Str.join ⟨#[c]⟩ ws).length<=eO ws:=by
 by_cases h:ws=[];subst h;have e:Str.join ⟨#[c]⟩ []=(⟨#[]⟩:Str):=by simp[Str.join];rfl
 rw[e];exact Mx _
 have:=B4 (c:=c) ws h;lk
end L4
namespace L4
open PySem PySem.Spec L2
abbrev ak(d:D)(st:Store):Bool:=match d with
 |.ref i=>match st[i]? with
  |some (.exc _ _)=>true
  |_=>false
 |_=>false
def Fi{d:D}{st:Store}(h:ak d st=true):∃i c fs,d=.ref i/\st[i]?=some (.exc c fs):=by
 unfold ak at h;split at h
 ·next i =>
  split at h
  ·next c fs e=>exact⟨i,c,fs,rfl,e⟩
  ·cases h
 ·cases h
def JK{a C:Addr}{dx tr:Option Addr}{xs:List (List Int×Addr×Value)}(e:DU a xs=XO a C dx tr):False:=by
 unfold DU XO at e;injection e with q
 let ob:Obj:={ cls:=.ref C,dict:=dx,data:=.fields #[.none,oi tr,.none] }
 let h0:Heap:={ objs:=Array.replicate (a+1) ob }
 have e0:h0.get? a=some ob:=by
  refine Heap.get?_some_iff.mpr ⟨?_,rfl⟩;simp[h0]
 have z:=(congrFun q h0).mpr ⟨ob,_,e0,rfl,rfl,rfl,rfl,rfl⟩;obtain⟨_,_,o,es,ep,e1,_,e2,_⟩:=z;rw[e0]at e1;cases e1;cases e2
section
variable {K:Zfr}{L L':List Addr}{H H' H2:Hp}{st st':Store}{a:Addr}
def zB(y:XS a H H2){b:Addr}{u:HO}(h:H b=some u)(n:∀Y,u≠.ext Y):H2 b=some u:=by obtain⟨⟨C,dx,tr,nH,e1,e2⟩,k⟩:=y;exact k b (λz=>by rw[z,e1]at h;cases h;exact n _ rfl) u h
def Mn.xs(y:XS a H H2):Mn K L H L H2:=⟨λ_ _ h=>h,λb vs q=>by
  rcases q with(q|⟨o,q⟩)|q
  exact .inl (.inl (zB y q λY z=>nomatch z));exact .inl (.inr ⟨o,zB y q λY z=>nomatch z⟩);exact .inr q
  ,λb o u h=>zB y h (λY z=>by cases z),λb ws h=>zB y h (λY z=>by cases z)⟩
def Rl.xs(l:Rl K L H st)(y:XS a H H2):Rl K L H2 st:=by
 have m:Mn K L H L H2:=Mn.xs y;refine⟨l.len,l.nd,λi b o h1 h2=>?_⟩;have r:=l.obj i b o h1 h2;by_cases hb:b=a;subst hb;have y0:=y;obtain⟨⟨C,dx,tr,nH,e1,e2⟩,k⟩:=y0;cases o with
 |lst ds=>obtain⟨vs,e,_⟩:=r;rw[e1]at e;cases e
 |jT ds =>
  obtain⟨vs,e,q⟩:=r;refine⟨vs,?_,q.mn m⟩;rcases e with⟨u,e⟩|e
  rw[e1]at e;cases e;exact .inr e
 |dct kvs=>obtain⟨vs,e,_⟩:=r;rw[e1]at e;cases e
 |wm kvs=>obtain⟨vs,e,_⟩:=r;rw[e1]at e;cases e
 |wk kvs=>obtain⟨vs,e,_⟩:=r;rw[e1]at e;exact(JK (LH e).symm).elim
 |exc c fs =>
  obtain⟨C',uo,DF,n,e,q⟩:=r;rw[e1]at e;obtain⟨rfl,rfl⟩:=XO.inj (LH e);exact⟨C,dx,nH,n,e2,q.mn m⟩
 |any=>trivial
 |jE lo hi=>have z:H b=some (.jE lo hi):=r;rw[e1]at z;cases z
 exact r.keep m λu e=>y.2 b hb u e
abbrev xv(K:Zfr)(W:Addr->Hp->Prop)(L:List Addr)(H:Hp)(st':Store)(E:Ends):Fl->Prop
 |.rt d=>(ak d st'=true->∀a H' L',Mn K L H L' H'->Rl K L' H' st'->Rp K L' H' (.ref a) d->W a H')/\(ak d st'=false->Go K L H st' E (.rt d))
 |fl=>Go K L H st' E fl
def xv.mn{W:Addr->Hp->Prop}{L1:List Addr}{H1:Hp}{E:Ends}{fl:Fl}(g:xv K W L H st' E fl)(m:Mn K L H L1 H1):xv K W L1 H1 st' E fl:=by
 cases fl with
 |rt d=>exact⟨λh a H' L' m' l r=>g.1 h a H' L' (m.trans m') l r,λh=>Go.mn (g.2 h) m⟩
 |nx I=>exact Go.mn (fl:=.nx I) g m
 |bk I=>exact Go.mn (fl:=.bk I) g m
 |ct I=>exact Go.mn (fl:=.ct I) g m
abbrev tD(K:Zfr)(W:Addr->Hp->Prop)(t:TS)(f:af->Dm Fl):Prop :=
 ∀(L:List Addr) (U:St) (H:Hp) (I:af) (st:Store) (fl:Fl) (st':Store) (E:Ends),Rl K L H st->Rs K L H U I->f I st=some (fl,st')->xv K W L H st' E fl->t E U H
abbrev pe(f:af->Dm Fl):af->Dm Fl:=λI st=>bnd (f I st) λfl st1=>match fl with
 |.rt d=>if ak d st1=true then none else some (.rt d,st1)
 |x=>some (x,st1)
def xw{W:Addr->Hp->Prop}{t:TS}{f:af->Dm Fl}(hf:jH K t f):tD K W t (pe f):=by
 intro L U H I st fl st' E l rs e q;obtain⟨x,st1,e1,e⟩:=aZ e;cases x with
 |rt d =>
  dsimp only at e;split at e
  ·cases e
  ·next hn=>cases e;exact hf L U H I st _ _ E l rs e1 (q.2 (by simpa using hn))
 |nx I1=>cases e;exact hf L U H I st _ _ E l rs e1 q
 |bk I1=>cases e;exact hf L U H I st _ _ E l rs e1 q
 |ct I1=>cases e;exact hf L U H I st _ _ E l rs e1 q
def xx{W:Addr->Hp->Prop}{t u:TS}{f g:af->Dm Fl}(hf:tD K W t f)(hg:tD K W u g):tD K W (oH t u) (ay f g):=by
 intro L U H I st fl st' E l rs e q;obtain⟨x,st1,e1,e⟩:=aZ e;refine hf L U H I st x st1 _ l rs e1 ?_;cases x with
 |nx I1=>exactλU1 H1 L1 m1 l1 r1=>hg L1 U1 H1 I1 st1 fl st' E l1 r1 e (q.mn m1)
 |bk I1=>cases e;exact q
 |ct I1=>cases e;exact q
 |rt d=>cases e;exact q
def Fj{c:Str}{fs:List (Str×D)}:ak (.ref st.length) (st ++ [.exc c fs])=true:=by simp[ak]
abbrev tE(K:Zfr)(n:Nat)(F:List D->Dm D):Sp:=λvs H Q E=>vs.length=n/\∃(L:List Addr) (st:Store) (ds:List D) (b:D) (st':Store),Rl K L H st/\bj K L H vs ds/\F ds st=some (b,st') /\
 (ak b st'=true->∀a H' L',Mn K L H L' H'->Rl K L' H' st'->Rp K L' H' (.ref a) b->E (.ref a) none H')/\(ak b st'=false->∀v H' L',Mn K L H L' H'->Rl K L' H' st'->Rp K L' H' v b->Q v H')
def Fm{N:List Str}{k n:Nat}{t:TS}{b:af->Dm Fl}{vs:List V}{H:Hp}{Q:VK}{E:XK}(hb:tD K (λa H'=>E (.ref a) none H') t b)(hn:N.length=n)(h:tE K k (iQ n b) vs H Q E):t { nx:=λ_ H'=>Q .non H',rt:=Q } (start N vs) H:=by
 obtain⟨hk,L,st,ds,d,st',l,r,e,q1,q2⟩:=h;subst hn;obtain⟨fl,st1,e1,e⟩:=aZ e;refine hb L _ H _ st fl st1 _ l (Rs.start r N) e1 ?_;cases fl with
 |rt v=>cases e;exact⟨q1,q2⟩
 |nx I=>cases e;exactλU' H' L' m l' r'=>q2 rfl .non H' L' m l' .non
 |bk I=>cases e
 |ct I=>cases e
abbrev Fn(K:Zfr)(t:(St->Addr->Hp->Prop)->TS)(f:af->Dm Fl):Prop :=
 ∀(L:List Addr) (U:St) (H:Hp) (I:af) (st:Store) (fl:Fl) (st':Store) (E:Ends) (W:St->Addr->Hp->Prop),Rl K L H st->Rs K L H U I->f I st=some (fl,st')->xv K (W U) L H st' E fl->t W E U H
abbrev lQ(F:List D->Dm D)(fa:af->Dm (List D))(i:Nat):af->Dm Fl:=λI st=>bnd (fa I st) λas st1=>bnd (F as st1) λb st2=>if ak b st2=true then some (.rt b,st2)else some (.nx (I.set i (some b)),st2)
def JL{n i:Nat}{F:List D->Dm D}{ta:TA}{fa:af->Dm (List D)}(ha:kl K ta fa)(hn:∀I st as st',fa I st=some (as,st')->as.length=n):Fn K (λW=>mX (nI (tE K n F) W ta) (iX i)) (lQ F fa i):=by intro L U H I st fl st' E W l rs e q;obtain⟨as,st1,e1,e⟩:=aZ e;obtain⟨b,st2,e2,e⟩:=aZ e;refine ha L U H I st as st1 _ l rs e1 λvs H1 L1 m1 l1 r1=>⟨by rw[r1.length];exact hn _ _ _ _ e1,L1,st1,as,b,st2,l1,r1,e2,λhr a H3 L3 m3 l3 r3=>?_,λhr v H3 L3 m3 l3 r3=>?_⟩;rw[if_pos hr]at e;cases e;exact⟨a,rfl,q.1 hr a H3 L3 (m1.trans m3) l3 r3⟩;rw[hr,if_neg LC]at e;cases e;exact q _ H3 L3 (m1.trans m3) l3 ((rs.mn (m1.trans m3)).set r3)
abbrev iA(pf:Str->Option Bool)(f:af->Dm D):af->Dm D:=λI st=>bnd (f I st) λd st1=>match d with
 |.ref i=>match st1[i]? with
  |some (.exc c _)=>match pf c with
   |some b=>some (.bl b,st1)
   |none=>none
  |_=>none
 |_=>none
def JM{dx:Option Addr}{fs:List (Str×D)}(h:Xd K L H dx fs):∀d,dx=some d->∃ws,H d=some (.xd ws):=λd e=>by
 subst e;obtain⟨ws,e,_⟩:=h;exact⟨ws,e⟩
def qu{te:TE}{f:af->Dm D}{v:V}{cv:Value}{pf:Str->Option Bool}(hf:bW K te f)(hv:oV v=some cv)
  (h:∀c C b,pf c=some b->PySem.W.nsIn K mainGlobals c=some (some (.ref C))->iO K C/\PySem.W.kitOne K (.ref C) cv=some b):bW K (vv (vX K) (jN te (jN (tC v) mZ))) (iA pf f):=by
 intro L U H I st b st' Q l rs e q;obtain⟨d,st1,e1,e⟩:=aZ e;refine hf L U H I st d st1 _ l rs e1 λx H1 L1 m1 l1 r1=>?_;split at e
 ·split at e
  ·next c fs hj =>
   split at e
   ·next b0 hb =>
    cases e;cases r1 with
    |ref tF =>
     obtain⟨C,dx,tr,hn,ea,hx⟩:=l1.obj _ _ _ tF hj;obtain⟨ei,k⟩:=h c C b0 hb hn;exact⟨_,C,dx,tr,v,b0,rfl,ea,JM hx,ei,.inl ⟨cv,hv,k⟩,q _ H1 L1 m1 l1 (.bl b0)⟩
   ·cases e
  ·cases e
 ·cases e
abbrev gQ(x:Str)(b:Bool):Str->Option Bool:=λc=>if c=x then some b else none
abbrev kN(x:Str):Str->Bool:=λc=>decide (c=x)
def qv{x:Str}{C0:Addr}{b0:Bool}{R:Addr->Bool->Prop}(hn:PySem.W.nsIn K mainGlobals x=some (some (.ref C0)))(k:R C0 b0):∀c C b,gQ x b0 c=some b->PySem.W.nsIn K mainGlobals c=some (some (.ref C))->R C b:=λc C b h n=>by
 unfold gQ at h;split at h
 ·next e=>subst e;cases h;rw[hn]at n;cases n;exact k
 ·cases h
def JN{x:Str}{C0 F:Addr}(hn:PySem.W.nsIn K mainGlobals x=some (some (.ref C0)))(k:PySem.W.mroIn K C0 (.ref F)=some true):∀c C,kN x c=true->PySem.W.nsIn K mainGlobals c=some (some (.ref C))->PySem.W.mroIn K C (.ref F)=some true:=λc C h n=>by
 have e:c=x:=of_decide_eq_true h;subst e;rw[hn]at n;cases n;exact k
@[reducible]def Fo:List Value:=[.type "ValueError",.type "Exception",.type "BaseException",.type "object"]
def JO:bootBuiltins "ValueError" = some (.type "ValueError"):=by decide +kernel
abbrev xy(pf:Str->Option Bool)(d:D)(st1:Store)(Q:D->Store->Prop):Prop:=∃i c fs b,d=.ref i/\st1[i]?=some (.exc c fs)/\pf c=some b/\Q (.bl b) st1
def j4{x:Str}{b:Bool}{i:Nat}{fs:List (Str×D)}{st:Store}{Q:D->Store->Prop}(hi:st[i]?=some (.exc x fs))(q:Q (.bl b) st):xy (gQ x b) (.ref i) st Q:=⟨i,x,fs,b,rfl,hi,by unfold gQ;rw[if_pos rfl],q⟩
def B7{f:af->Dm D}{I:af}{st:Store}{pf:Str->Option Bool}{Q:D->Store->Prop}:Wp (iA pf f I st) Q↔Wp (f I st) λd st1=>xy pf d st1 Q:=by
 constructor
 ·rintro⟨d,st',e,q⟩
  obtain⟨x,st1,e1,e⟩:=aZ e;refine⟨x,st1,e1,?_⟩;split at e
  ·split at e
   ·next c fs hj =>
    split at e
    ·next b hb=>cases e;exact⟨_,c,fs,b,rfl,hj,hb,q⟩
    ·cases e
   ·cases e
  ·cases e
 ·rintro⟨x,st1,e1,i,c,fs,b,rfl,hj,hb,q⟩
  refine⟨.bl b,st1,?_,q⟩;unfold iA;rw[e1];simp[bnd,hj,hb]
end
section
variable {st:Store}{I:af}{N B C:af->Store->Prop}{R:D->Store->Prop}{f g:af->Dm Fl}
def xA(h:Ws (f I st) N B C (λd s=>ak d s=false/\R d s)):Ws (pe f I st) N B C R:=by
 obtain⟨fl,s1,e,q⟩:=h;unfold pe;rw[e];cases fl with
 |rt d=>refine⟨.rt d,s1,?_,q.2⟩;simp[bnd,q.1]
 |nx I1=>exact⟨.nx I1,s1,rfl,q⟩
 |bk I1=>exact⟨.bk I1,s1,rfl,q⟩
 |ct I1=>exact⟨.ct I1,s1,rfl,q⟩
def JP{i:Nat}{F:List D->Dm D}{fa:af->Dm (List D)}(h:Wp (fa I st) λas s1=>Wp (F as s1) λb s2=>(ak b s2=true->R b s2)/\(ak b s2=false->N (I.set i (some b)) s2)):Ws (lQ F fa i I st) N B C R:=by
 obtain⟨as,s1,e,b,s2,e2,q⟩:=h;unfold lQ;rw[e];cases hr:ak b s2 with
 |true=>refine⟨.rt b,s2,?_,q.1 hr⟩;simp[bnd,e2,hr]
 |false=>refine⟨.nx (I.set i (some b)),s2,?_,q.2 hr⟩;simp[bnd,e2,hr]
end
section
variable {K:Zfr}{L L':List Addr}{H H' H2:Hp}{st st':Store}{a:Addr}
def JQ{a b:Addr}{o u:HO}(n:a≠b):upd (upd H a o) b u=upd (upd H b u) a o:=by
 funext c
 unfold upd;by_cases c1:c=b;subst c1;rw[if_pos rfl,if_neg (Ne.symm n),if_pos rfl];rw[if_neg c1];by_cases c2:c=a;rw[if_pos c2,if_pos c2];rw[if_neg c2,if_neg c2,if_neg c1]
def Rl.newX{C d:Addr}{c:Str}{fs:List (Str×D)}{ws:List (Str×V)}(l:Rl K L H st)(ha:H a=none)(hd:H d=none)(da:d≠a)(hc:PySem.W.nsIn K mainGlobals c=some (some (.ref C)))(hw:∀f e,fs.lookup f=some e->∃v,ws.lookup f=some v/\Rp K L H v e):
  Rl K (L ++ [a]) (upd (upd H a (XO a C (some d) none)) d (.xd ws)) (st ++ [.exc c fs])/\Mn K L H (L ++ [a]) (upd (upd H a (XO a C (some d) none)) d (.xd ws)):=by
 rw[JQ (Ne.symm da)];have m1:Mn K L H L (upd H d (.xd ws)):=Mn.same (cY.up hd);have l1:=l.same (cY.up (o:=.xd ws) hd);have ha1:upd H d (.xd ws) a=none:=by rw[bg (Ne.symm da)];exact ha
 have m2:Mn K L (upd H d (.xd ws)) (L ++ [a]) (upd (upd H d (.xd ws)) a (XO a C (some d) none)):=Mn.new ha1;refine⟨l1.new ha1 ⟨C,some d,none,hc,gw,ws,by rw[bg da,gw],λf e h=>?_⟩,m1.trans m2⟩;obtain⟨v,h1,h2⟩:=hw f e h;exact⟨v,h1,h2.mn (m1.trans m2)⟩
abbrev eP(c:Str)(fs:List Str)(fa:af->Dm (List D)):af->Dm Fl:=λI st=>bnd (fa I st) λds st1=>some (.rt (.ref st1.length),st1 ++ [.exc c (fs.zip ds)])
abbrev lR(sub:Str->Bool)(f:Str)(fa:af->Dm D):af->Dm D:=λI st=>bnd (fa I st) λd st1=>match d with
 |.ref i=>match st1[i]? with
  |some (.exc c fs)=>if sub c=true then(match fs.lookup f with
   |some e=>some (e,st1)
   |none=>none)else none
  |_=>none
 |_=>none
def JR{te:TE}{fa:af->Dm D}{sub:Str->Bool}{f:Str}(ha:bW K te fa)(h:∀c C,sub c=true->PySem.W.nsIn K mainGlobals c=some (some (.ref C))->iO K C/\PySem.W.findIn K (.ref C) f=some none):bW K (DW K te f) (lR sub f fa):=by
 intro L U H I st b st' Q l rs e q;obtain⟨d,st1,e1,e⟩:=aZ e;refine ha L U H I st d st1 _ l rs e1 λx H1 L1 m1 l1 r1=>?_;split at e
 ·split at e
  ·next c fs hj =>
   split at e
   ·next hs =>
    split at e
    ·next e0 he =>
     cases e;cases r1 with
     |ref tF =>
      obtain⟨C,dx,tr,hn,ea,hx⟩:=l1.obj _ _ _ tF hj;obtain⟨ei,hf⟩:=h c C hs hn;cases dx with
      |none=>rw[show fs=[]from hx]at he;cases he
      |some dd =>
       obtain⟨ws,ed,hw⟩:=hx;obtain⟨v,hv,rv⟩:=hw f _ he;exact⟨_,C,dd,tr,ws,v,rfl,ea,ed,hv,ei,hf,q v H1 L1 m1 l1 rv⟩
    ·cases e
   ·cases e
  ·cases e
 ·cases e
end
section
variable {st:Store}{I:af}{N B C:af->Store->Prop}{R:D->Store->Prop}
def JS{c:Str}{fs:List Str}{fa:af->Dm (List D)}(h:Wp (fa I st) λds s1=>R (.ref s1.length) (s1 ++ [.exc c (fs.zip ds)])):Ws (eP c fs fa I st) N B C R:=by obtain⟨ds,s1,e,q⟩:=h;exact⟨_,_,by unfold eP;rw[e];rfl,q⟩
abbrev qw(sub:Str->Bool)(f:Str)(d:D)(st:Store)(Q:D->Store->Prop):Prop:=∃i c fs e,d=.ref i/\st[i]?=some (.exc c fs)/\sub c=true/\fs.lookup f=some e/\Q e st
def xB{x f:Str}{i:Nat}{fs:List (Str×D)}{e:D}{Q:D->Store->Prop}(hi:st[i]?=some (.exc x fs))(he:fs.lookup f=some e)(q:Q e st):qw (kN x) f (.ref i) st Q:=⟨i,x,fs,e,rfl,hi,by unfold kN;simp,he,q⟩
def JT{sub:Str->Bool}{f:Str}{fa:af->Dm D}{Q:D->Store->Prop}(h:Wp (fa I st) λd s1=>qw sub f d s1 Q):Wp (lR sub f fa I st) Q:=by obtain⟨d,s1,e,i,c,fs,x,rfl,hi,hs,hl,q⟩:=h;refine⟨x,s1,?_,q⟩;unfold lR;rw[e];simp[bnd,hi,hs,hl]
end
section
variable {K:Zfr}
abbrev iB(g g':D->D->Dm D)(fa fb fc:af->Dm D):af->Dm D:=λI st=>bnd (fa I st) λa st1=>bnd (fb I st1) λb st2=>bnd (g a b st2) λz st3=>match z with
 |.bl true=>bnd (fc I st3) λc kO=>g' b c kO
 |.bl false=>some (.bl false,st3)
 |_=>none
def Fp{r r':R2}{g g':D->D->Dm D}{ta tb tc:TE}{fa fb fc:af->Dm D}(hr:gP K r g)(hr':gP K r' g')(ha:bW K ta fa)(hb:bW K tb fb)(hc:bW K tc fc):bW K (kA r r' ta tb tc) (iB g g' fa fb fc):=by intro L U H I st v st' Q l rs e q;obtain⟨a,st1,e1,e⟩:=aZ e;obtain⟨b,st2,e2,e⟩:=aZ e;obtain⟨z,st3,e3,e⟩:=aZ e;refine ha L U H I st a st1 _ l rs e1 λx H1 L1 m1 l1 r1=>hb L1 U H1 I st1 b st2 _ l1 (rs.mn m1) e2 λy H2 L2 m2 l2 r2=>?_;refine hr L2 H2 st2 x y a b z st3 _ l2 (r1.mn m2) r2 e3 λw H3 L3 m3 l3 r3=>?_;split at e;obtain⟨c,kO,e4,e⟩:=aZ e;cases r3;refine⟨true,rfl,?_⟩;rw[if_pos rfl];refine hc L3 U H3 I st3 c kO _ l3 (rs.mn ((m1.trans m2).trans m3)) e4 λu H4 L4 m4 l4 r4=>?_;exact hr' L4 H4 kO y u b c v st' Q l4 (r2.mn (m3.trans m4)) r4 e λv' H5 L5 m5 l5 r5=>q v' H5 L5 ((((m1.trans m2).trans m3).trans m4).trans m5) l5 r5;cases e;cases r3;refine⟨false,rfl,?_⟩;rw[if_neg LC];exact q _ H3 L3 ((m1.trans m2).trans m3) l3 (.bl _);cases e
def Fq{g g':D->D->Dm D}{fa fb fc:af->Dm D}{I:af}{st:Store}{Q:D->Store->Prop}:Wp (iB g g' fa fb fc I st) Q↔Wp (fa I st) λa st1=>Wp (fb I st1) λb st2=>Wp (g a b st2) λz st3=>(z=.bl true/\Wp (fc I st3) λc kO=>Wp (g' b c kO) Q)\/(z=.bl false/\Q (.bl false) st3):=by unfold iB;rw[bI];constructor;rintro⟨a,st1,e1,b,st2,e2,h⟩;obtain⟨b',B8,jh,h'⟩:=aZ e2;obtain⟨z,st3,e3,h''⟩:=aZ h';refine⟨a,st1,e1,b',B8,jh,z,st3,e3,?_⟩;split at h'';obtain⟨c,kO,e4,e5⟩:=aZ h'';exact .inl ⟨rfl,c,kO,e4,b,st2,e5,h⟩;cases h'';exact .inr ⟨rfl,h⟩;cases h'';rintro⟨a,st1,e1,b,st2,e2,z,st3,e3,⟨rfl,c,kO,e4,v,fQ,e5,h⟩|⟨rfl,h⟩⟩;refine⟨a,st1,e1,v,fQ,?_,h⟩;simp[bnd,e2,e3,e4,e5];refine⟨a,st1,e1,.bl false,st3,?_,h⟩;simp[bnd,e2,e3]
end
def JU{K:Zfr}{x:Str}{C0:Addr}{R:Addr->Prop}(hn:PySem.W.nsIn K mainGlobals x=some (some (.ref C0)))(k:R C0):∀c C,kN x c=true->PySem.W.nsIn K mainGlobals c=some (some (.ref C))->R C:=λc C h n=>by
 have e:c=x:=of_decide_eq_true h;subst e;rw[hn]at n;cases n;exact k
section
variable {K:Zfr}{W:Addr->Hp->Prop}
abbrev mv(K:Zfr)(W:Addr->Hp->Prop)(t:TE)(f:af->Dm D):Prop :=
 ∀(L:List Addr) (U:St) (H:Hp) (I:af) (st:Store) (b:D) (st':Store) (Q:VK),Rl K L H st->Rs K L H U I->f I st=some (b,st') ->
  (ak b st'=true->∀a H' L',Mn K L H L' H'->Rl K L' H' st'->Rp K L' H' (.ref a) b->W a H')->(ak b st'=false->∀v H' L',Mn K L H L' H'->Rl K L' H' st'->Rp K L' H' v b->Q v H')->t U H Q
def JV{n:Nat}{F:List D->Dm D}{ta:TA}{fa:af->Dm (List D)}{E0:XK}(ha:kl K ta fa)(hn:∀I st as st',fa I st=some (as,st')->as.length=n):mv K (λa H'=>E0 (.ref a) none H') (g8 (tE K n F) [] E0 ta) (br F fa):=by intro L U H I st b st' Q l rs e qx q;obtain⟨as,st1,e1,e2⟩:=aZ e;refine ha L U H I st as st1 _ l rs e1 λvs H1 L1 m1 l1 r1=>⟨?_,L1,st1,as,b,st',l1,?_,e2,λhr a H3 L3 m3 l3 r3=>qx hr a H3 L3 (m1.trans m3) l3 r3,λhr v H3 L3 m3 l3 r3=>q hr v H3 L3 (m1.trans m3) l3 r3⟩;rw[Mp,r1.length];exact hn _ _ _ _ e1;rw[Mp];exact r1
abbrev cE(S:Src)(g:D->af->Dm af)(tc:af->Dm Bool)(te:af->Dm D):Nat->Nat->List D->af->Dm (Option D×List D)
 |0,_,_,_,_=>none
 |n+1,i,ys,I,st=>if lim ys.length=true then match S.at i st with
  |none=>none
  |some none=>some ((none,ys),st)
  |some (some d)=>bnd (g d I st) λI1 st1=>bnd (tc I1 st1) λt st2=>if t=true then bnd (te I1 st2) λy st3=>if ak y st3=true then some ((some y,ys),st3)else cE S g tc te n (i+1) (ys ++ [y]) I1 st3 else cE S g tc te n (i+1) ys I1 st2
  else none
abbrev jw(fi:af->Dm Src)(n:Nat)(js:List Nat)(g:D->af->Dm af)(tc:af->Dm Bool)(te:af->Dm D):af->Dm D:=λI st=>bnd (fi I st) λS st1=>bnd (cE S g tc te fuel 0 [] (jY n js I) st1) λr st2=>match r with
 |(some e,_)=>some (e,st2)
 |(none,ys)=>some (.ref st2.length,st2 ++ [.lst ys])
def xC{st:Store}{ys:List D}:ak (.ref st.length) (st ++ [.lst ys])=false:=by simp[ak]
def JW{wi:TI}{tg:TG}{tc:TT}{te:TE}{fi:af->Dm Src}{n:Nat}{js:List Nat}{g:D->af->Dm af}{c:af->Dm Bool}{f:af->Dm D}(hi:qi K wi fi)(hg:ou K tg g)(hc:kj K tc c)(hf:mv K W te f):mv K W (gA wi n js tg tc te) (jw fi n js g c f):=by
 intro L U H I st b st' Q l rs e qx q;obtain⟨S,iq,e0,e⟩:=aZ e;obtain⟨r,nU,e9,e⟩:=aZ e;refine hi L U H I st S iq _ l rs e0 λJ H0 L0 m0 l0 ok=>?_;refine⟨λi m ys U1 H1=>∃L1 I1 st1 ws,Mn K L0 H0 L1 H1/\Rl K L1 H1 st1/\Rs K L1 H1 U1 I1/\bj K L1 H1 ys ws/\cE S g c f m i ws I1 st1=some (r,nU),⟨fuel,L0,_,iq,[],.refl,l0,(rs.mn m0).comp n js,.nil,e9⟩,?_⟩;rintro i m ys U1 H1 ⟨L1,I1,st1,ws,m1,l1,uC,o6,e1⟩;cases m with
 |zero=>cases e1
 |succ m =>
  obtain⟨hstop,hgo⟩:=ok L1 H1 st1 i m1 l1;unfold cE at e1;split at e1
  ·next hl =>
   refine⟨by rw[o6.length];exact Bb hl,?_⟩;split at e1
   ·cases e1
   ·next hs =>
    cases e1;cases e;exact .inl ⟨hstop hs,λp hp=>q xC _ _ _ ((m0.trans m1).trans (Mn.new hp)) (l1.newL hp o6) (.ref (newR l1))⟩
   ·next d hs =>
    obtain⟨I2,st2,e2,e1⟩:=aZ e1;obtain⟨t,st3,e3,e1⟩:=aZ e1;obtain⟨go,kz⟩:=hgo d hs;refine .inr ⟨go,λx H2 hy=>?_⟩;obtain⟨m2,l2,r2⟩:=kz x H2 hy;refine hg L1 U1 H2 I1 st1 x d I2 st2 _ l2 (uC.mn m2) r2 e2 λU4 H4 L4 m4 l4 r4=>hc L4 U4 H4 I2 st2 t st3 _ l4 r4 e3 λt' H5 L5 m5 l5 r5=>?_;subst r5;have m6:=(((m1.trans m2).trans m4).trans m5);cases t' with
    |true =>
     refine kD ?_;rw[if_pos rfl]at e1;obtain⟨y,o7,e6,e1⟩:=aZ e1;refine hf L5 U4 H5 I2 st3 y o7 _ l5 (r4.mn m5) e6 (λhr a H7 L7 m7 l7 r7=>?_) λhr v H7 L7 m7 l7 r7=>?_
     ·rw[if_pos hr]at e1
      cases e1;cases e;exact qx hr a H7 L7 ((m0.trans m6).trans m7) l7 r7
     ·rw[hr,if_neg LC]at e1
      exact⟨m,Mu m,L7,I2,o7,ws ++ [y],m6.trans m7,l7,r4.mn (m5.trans m7),(o6.mn (((m2.trans m4).trans m5).trans m7)).append (.one r7),e1⟩
    |false =>
     refine kC ?_;rw[if_neg LC]at e1;exact⟨m,Mu m,L5,I2,st3,ws,m6,l5,r4.mn m5,o6.mn ((m2.trans m4).trans m5),e1⟩
  ·cases e1
abbrev ph(G:List D->Dm D)(f:af->Dm D):af->Dm D:=λI st=>bnd (f I st) λb st1=>if ak b st1=true then some (b,st1)else bnd (G [b] st1) λc st2=>if ak c st2=true then none else some (c,st2)
def tG{r:List V->Hp->VK->Prop}{G:List D->Dm D}{te:TE}{f:af->Dm D}(hG:nP K r G)(hf:mv K W te f):mv K W (vv r (jN te mZ)) (ph G f):=by
 intro L U H I st b st' Q l rs e qx q;obtain⟨c,st1,e1,e⟩:=aZ e;refine hf L U H I st c st1 _ l rs e1 (λhr a H1 L1 m1 l1 r1=>?_) λhr v H1 L1 m1 l1 r1=>?_
 ·rw[if_pos hr]at e
  cases e;exact qx hr a H1 L1 m1 l1 r1
 ·rw[hr,if_neg LC]at e
  obtain⟨d,st2,e2,e⟩:=aZ e;split at e
  ·cases e
  ·next hd =>
   cases e;have hd:ak b st'=false:=by simpa using hd
   exact hG L1 H1 st1 [v] [c] b st' Q l1 (.one r1) e2 λu H3 L3 m3 l3 r3=>q hd u H3 L3 (m1.trans m3) l3 r3
abbrev lS(f:af->Dm D):af->Dm Fl:=λI st=>bnd (f I st) λb st1=>some (.rt b,st1)
def JX{te:TE}{f:af->Dm D}(hf:mv K W te f):tD K W (oK te) (lS f):=by intro L U H I st fl st' E l rs e q;obtain⟨b,st1,e1,e⟩:=aZ e;cases e;exact hf L U H I st b st' _ l rs e1 q.1 λhr v H' L' m' l' r'=>q.2 hr v H' L' m' l' r'
end
section
variable {K:Zfr}
def JY{C:Addr}{c f1:Str}{E0:XK}{ta:TA}{fa:af->Dm (List D)}(ha:kl K ta fa)(hn:∀I st as st',fa I st=some (as,st')->as.length=1)(hc:PySem.W.nsIn K mainGlobals c=some (some (.ref C)))(es:om K C)
  (t1:PySem.W.takerIn K C f1=some none) (hm:PySem.W.mroIn K C (.type "BaseException")=some true) (ht:PySem.W.typeIn K (.ref C)=some (.type "type")) :
  tD K (λa H'=>E0 (.ref a) none H') (lE K (nL C (nM K f1) ta) E0) (eP c [f1] fa):=by
 intro L U H I st fl st' E l rs e q;obtain⟨ds,st1,e1,e⟩:=aZ e;cases e;refine ha L U H I st ds st1 _ l rs e1 λvs H1 L1 m1 l1 r1=>?_;have hl:=hn _ _ _ _ e1;have hv:vs.length=1:=by rw[r1.length];exact hl
 match vs,ds,r1,hl,hv with
 |[v1],[d1],.cons a1 .nil,_,_ =>
  refine⟨(show 1<=10 by decide),λa hna=>⟨a,C,none,v1,rfl,gw,es,t1,λd hd da=>⟨rfl,a,C,some d,rfl,?_,hm,ht,λH2 y=>?_⟩⟩⟩;rw[bg (Ne.symm da),gw];have hd1:H1 d=none:=by rw[bg da]at hd;exact hd
  rw[CF]at y;obtain⟨l2,m2⟩:=l1.newX (c:=c) (C:=C) (fs:=[(f1,d1)]) (ws:=[(f1,v1)]) hna hd1 da hc λf e h=>by
   simp only[Mr,List.lookup_nil]at h ⊢;by_cases z1:(f == f1)=true;rw[z1]at h;cases h;rw[z1];exact⟨v1,rfl,a1⟩;have z1:(f == f1)=false:=by simpa using z1
   rw[z1]at h;cases h
  exact q.1 Fj a H2 (L1 ++ [a]) ((m1.trans m2).trans (Mn.xs y)) (l2.xs y) (.ref (newR l1))
end
section
variable {K:Zfr}{hx:Addr}{k:Nat}
abbrev oy(K:Zfr)(hx:Addr)(k:Nat)(t:TE)(f:af->Dm D):Prop :=
 ∀(L:List Addr) (U:St) (H:Hp) (I:af) (st:Store) (b:D) (st':Store) (Q:VK),L[k]?=some hx->Rl K L H st->Rs K L H U I->f I st=some (b,st') ->
  (∀a H' L',Mn K L H L' H'->Rl K L' H' st'->Rp K L' H' a b->Q a H')->t U H Q
abbrev kP(K:Zfr)(hx:Addr)(k:Nat)(t:TS)(f:af->Dm Fl):Prop :=
 ∀(L:List Addr) (U:St) (H:Hp) (I:af) (st:Store) (fl:Fl) (st':Store) (E:Ends),L[k]?=some hx->Rl K L H st->Rs K L H U I->f I st=some (fl,st')->Go K L H st' E fl->t E U H
def pj{t:TE}{f:af->Dm D}(h:bW K t f):oy K hx k t f:=λL U H I st b st' Q _ l rs e q=>h L U H I st b st' Q l rs e q
def zC{t:TS}{f:af->Dm Fl}(h:jH K t f):kP K hx k t f:=λL U H I st b st' Q _ l rs e q=>h L U H I st b st' Q l rs e q
def zD{t u:TS}{f g:af->Dm Fl}(hf:kP K hx k t f)(hg:kP K hx k u g):kP K hx k (oH t u) (ay f g):=by
 intro L U H I st fl st' E p l rs e q;obtain⟨x,st1,e1,e⟩:=aZ e;refine hf L U H I st x st1 _ p l rs e1 ?_;cases x with
 |nx I1=>exactλU1 H1 L1 m1 l1 r1=>hg L1 U1 H1 I1 st1 fl st' E (m1.r _ _ p) l1 r1 e (q.mn m1)
 |bk I1=>cases e;exact q
 |ct I1=>cases e;exact q
 |rt d=>cases e;exact q
def B9{t:TE}{f:af->Dm D}(hf:oy K hx k t f):kP K hx k (oK t) (bB f):=by intro L U H I st fl st' E p l rs e q;obtain⟨a,st1,e1,e⟩:=aZ e;cases e;exact hf L U H I st a _ _ p l rs e1 λx H1 L1 m1 l1 r1=>q x H1 L1 m1 l1 r1
def Ca{ta tb:TE}{fa fb:af->Dm D}(ha:oy K hx k ta fa)(hb:oy K hx k tb fb):oy K hx k (mU ta tb) (dY fa fb):=by
 intro L U H I st b st' Q p l rs e q;obtain⟨a,st1,e1,e⟩:=aZ e;refine ha L U H I st _ _ _ p l rs (Bc e1) λx H1 L1 m1 l1 r1=>?_;cases r1;refine⟨_,rfl,?_⟩;cases a with
 |true =>
  rw[if_pos rfl]at e ⊢;exact hb L1 U H1 I st1 b st' Q (m1.r _ _ p) l1 (rs.mn m1) e λv H2 L2 m2 l2 r2=>q v H2 L2 (m1.trans m2) l2 r2
 |false =>
  rw[if_neg LC]at e ⊢;cases e;exact q _ H1 L1 m1 l1 (.bl false)
def tH{r:R2}{g:D->D->Dm D}{ta tb:TE}{fa fb:af->Dm D}(hr:gP K r g)(ha:oy K hx k ta fa)(hb:oy K hx k tb fb):oy K hx k (ui r ta tb) (aC g fa fb):=by intro L U H I st b st' Q p l rs e q;obtain⟨a,st1,e1,e⟩:=aZ e;obtain⟨c,st2,e2,e⟩:=aZ e;refine ha L U H I st a st1 _ p l rs e1 λx H1 L1 m1 l1 r1=>hb L1 U H1 I st1 c st2 _ (m1.r _ _ p) l1 (rs.mn m1) e2 λy H2 L2 m2 l2 r2=>?_;exact hr L2 H2 st2 x y a c b st' Q l2 (r1.mn m2) r2 e λv H3 L3 m3 l3 r3=>q v H3 L3 ((m1.trans m2).trans m3) l3 r3
abbrev uH(K:Zfr)(hx:Addr)(k n:Nat)(F:List D->Dm D):Sp:=λvs H Q _=>vs.length=n/\∃(L:List Addr) (st:Store) (ds:List D) (b:D) (st':Store),L[k]?=some hx/\Rl K L H st/\bj K L H vs ds/\F ds st=some (b,st') /\
 ∀v H' L',Mn K L H L' H'->Rl K L' H' st'->Rp K L' H' v b->Q v H'
def Fs{n:Nat}{F:List D->Dm D}{ta:TA}{fa:af->Dm (List D)}{E:XK}(ha:kl K ta fa)(hn:∀I st as st',fa I st=some (as,st')->as.length=n):oy K hx k (g8 (uH K hx k n F) [] E ta) (br F fa):=by intro L U H I st b st' Q p l rs e q;obtain⟨as,st1,e1,e⟩:=aZ e;refine ha L U H I st as st1 _ l rs e1 λvs H1 L1 m1 l1 r1=>⟨?_,L1,st1,as,b,st',m1.r _ _ p,l1,?_,e,λv H3 L3 m3 l3 r3=>q v H3 L3 (m1.trans m3) l3 r3⟩;rw[Mp,r1.length];exact hn _ _ _ _ e1;rw[Mp];exact r1
def Ft{N:List Str}{j n:Nat}{t:TS}{b:af->Dm Fl}{vs:List V}{H:Hp}{Q:VK}{E:XK}(hb:kP K hx k t b)(hn:N.length=n)(h:uH K hx k j (iQ n b) vs H Q E):t { nx:=λ_ H'=>Q .non H',rt:=Q } (start N vs) H:=by
 obtain⟨hk,L,st,ds,d,st',p,l,r,e,q⟩:=h;subst hn;obtain⟨fl,st1,e1,e⟩:=aZ e;refine hb L _ H _ st fl st1 _ p l (Rs.start r N) e1 ?_;cases fl with
 |rt v=>cases e;exact q
 |nx I=>cases e;exactλU' H' L' m l' r'=>q .non H' L' m l' .non
 |bk I=>cases e
 |ct I=>cases e
abbrev tI(k n:Nat):Nat->Store->Option (Option D):=λi st=>match st[k]? with
 |some (.exc _ _)=>if i<=n then some (aE 0 n)[i]? else none
 |_=>none
abbrev jx(k:Nat)(fa:af->Dm (List D)):af->Dm Src:=λI st=>bnd (fa I st) λas st1=>match as with
 |[.int j]=>if decide (-4611686018427387904<=j/\j<4611686018427387904)=true then some (.fn (tI k j.toNat),st1)else none
 |_=>none
def qy{n i:Nat}{st:Store}{o:Option D}(h:tI k n i st=some o):(∃c fs,st[k]?=some (.exc c fs))/\i<=n/\(aE 0 n)[i]?=o:=by
 unfold tI at h;split at h
 ·next c fs e =>
  split at h
  ·next hl=>exact⟨⟨c,fs,e⟩,hl,LH h⟩
  ·cases h
 ·cases h
def JZ{t:TA}{tg:TG}{tc:TT}{te:TE}{fa:af->Dm (List D)}{n:Nat}{js:List Nat}{g:D->af->Dm af}{c:af->Dm Bool}{f:af->Dm D}(ha:kl K t fa)(hg:ou K tg g)(hc:kj K tc c)(hf:bW K te f):oy K hx k (gA (p9 hx t) n js tg tc te) (cz (jx k fa) n js g c f):=by
 intro L U H I st b st' Q p l rs e q;refine Et (λS iq R e0 r=>?_) hg hc hf rs e q;obtain⟨as,st1,e1,e0⟩:=aZ e0;split at e0
 ·split at e0
  ·next ok =>
   cases e0;have ok:=of_decide_eq_true ok;refine ha L U H I st _ _ _ l rs e1 λx H1 L1 m1 l1 r1=>?_;obtain⟨v,rfl,r0⟩:=r1.one';cases r0;refine⟨_,rfl,by lk,by lk,r _ H1 L1 m1 l1 λL2 H2 st2 i m2 l2=>?_⟩;refine⟨λh=>?_,λd h=>?_⟩
   ·obtain⟨⟨c,fs,ek⟩,hl,h4⟩:=qy h
    obtain⟨C,dx,tr,_,ea,_⟩:=l2.obj k hx _ (m2.r _ _ (m1.r _ _ p)) ek;have:=Mh.mp h4;rw[kL]at this;exact⟨this,C,dx,tr,ea⟩
   ·obtain⟨_,hl,h4⟩:=qy h
    exact(Es (K:=K) 0 _ L2 H2 st2 i m2 l2).2 d (by show(if _ then _ else _)=_;rw[kL,if_pos hl,h4])
  ·cases e0
 ·cases e0
abbrev lT(f:af->Dm Fl)(sub:Str->Bool)(i:Nat)(fs:Nat->af->Dm Fl):af->Dm Fl:=λI st=>bnd (f I st) λfl st1=>match fl with
 |.rt (.ref j)=>match st1[j]? with
  |some (.exc c _)=>if sub c=true then bnd (fs j (I.set i (some (.ref j))) st1) (λCb st2=>match Cb with
   |.rt x=>some (.rt x,st2)
   |_=>none)else none
  |_=>some (.rt (.ref j),st1)
 |x=>some (x,st1)
def tJ{X:Cx}{b:List Stmt}{t:Nat->TS}(h:∀k,iT X b (t k)):iT X b (λE U H=>∃k,t k E U H):=λpins s U H E I ⟨k,w⟩=>h k pins s U H E I w
def J0{t:(St->Addr->Hp->Prop)->TS}{ts:Addr->Nat->TS}{f:af->Dm Fl}{fs:Nat->af->Dm Fl}{sub:Str->Bool}{F:Addr}{i:Nat}(hf:Fn K t f)(hs:∀a k,kP K a k (ts a k) (fs k))(hsub:∀c C,sub c=true->PySem.W.nsIn K mainGlobals c=some (some (.ref C))->PySem.W.mroIn K C (.ref F)=some true):
  jH K (qa K t F i λa E U H=>∃k,ts a k E U H) (lT f sub i fs):=by
 intro L U H I st fl st' E l rs e q;obtain⟨x,st1,e1,e⟩:=aZ e;refine hf L U H I st x st1 E _ l rs e1 ?_;cases x with
 |nx I1=>cases e;exact q
 |bk I1=>cases e;exact q
 |ct I1=>cases e;exact q
 |rt d =>
  refine⟨λhr a H' L' m' l' r'=>?_,λhr=>?_⟩
  ·obtain⟨j,c,gs,rfl,hj⟩:=Fi hr
   simp only[hj]at e;split at e
   ·next hc =>
    obtain⟨y,st2,e2,e⟩:=aZ e;cases r' with
    |ref tF =>
     obtain⟨C,dx,tr,hn,ea,_⟩:=l'.obj j a _ tF hj;refine⟨C,dx,tr,ea,hsub c C hc hn,j,hs a j L' _ H' _ st1 y st2 _ tF l' ((rs.mn m').set (.ref tF)) e2 ?_⟩;cases y with
     |rt v=>cases e;exactλv3 H3 L3 m3 l3 r3=>q v3 H3 L3 (m'.trans m3) l3 r3
     |nx I2=>cases e
     |bk I2=>cases e
     |ct I2=>cases e
   ·cases e
  ·have e':fl=.rt d/\st'=st1:=by
    cases d with
    |ref j =>
     dsimp only at e;split at e
     ·next c gs hj=>simp[ak,hj]at hr
     ·cases e;exact⟨rfl,rfl⟩
    |_=>cases e;exact⟨rfl,rfl⟩
   obtain⟨rfl,rfl⟩:=e';exact q
end
def Fu{hx:Addr}{A:Around}{k:Nat}(hr:b7 hx k A):A.units+1<cLine:=Nc (Nat.add_le_add_left (by decide:1<=64) _) hr.units
section
variable {st:Store}{I:af}{N B C:af->Store->Prop}{R:D->Store->Prop}
def tK{k n:Nat}{c:Str}{fs:List (Str×D)}(h:st[k]?=some (.exc c fs)):iy (.fn (tI k n)) (aE 0 n) st:=λi st2 hi x=>by
 show tI k n i st2=_;unfold tI;rw[x.keep k _ h (λz=>nomatch z)];rw[kL]at hi;exact if_pos hi
def J2{k:Nat}{fa:af->Dm (List D)}{Q:Src->Store->Prop}(h:Wp (fa I st) λas st1=>∃n:Nat,as=[.int (n:Int)]/\n<100000/\Q (.fn (tI k n)) st1):Wp (jx k fa I st) Q:=by unfold jx;rw[bI];refine bf h λas s h=>?_;obtain⟨n,rfl,hn,h⟩:=h;dsimp only;rw[if_pos (decide_eq_true ⟨by lk,by lk⟩),MF];exact aB.mpr h
def J3{f:af->Dm Fl}{sub:Str->Bool}{i:Nat}{fs:Nat->af->Dm Fl}(h:Ws (f I st) N B C (λd s=>(ak d s=false->R d s)/\∀j c gs,d=.ref j->s[j]?=some (.exc c gs)->sub c=true/\Ws (fs j (I.set i (some (.ref j))) s) (λ_ _=>False) (λ_ _=>False) (λ_ _=>False) R)):
  Ws (lT f sub i fs I st) N B C R:=by
 obtain⟨fl,s1,e,q⟩:=h;unfold lT;rw[e];cases fl with
 |rt d =>
  cases hr:ak d s1 with
  |false =>
   refine⟨.rt d,s1,?_,q.1 hr⟩;cases d with
   |ref j =>
    show(match s1[j]? with|some (.exc c _)=>_|_=>_)=_;split
    ·next c gs hj=>simp[ak,hj]at hr
    ·rfl
   |_=>rfl
  |true =>
   obtain⟨j,c,gs,rfl,hj⟩:=Fi hr;obtain⟨hc,Cb,s2,e2,q2⟩:=q.2 j c gs rfl hj;cases Cb with
   |rt x=>refine⟨.rt x,s2,?_,q2⟩;simp[bnd,hj,hc,e2]
   |nx I1=>exact q2.elim
   |bk I1=>exact q2.elim
   |ct I1=>exact q2.elim
 |nx I1=>exact⟨.nx I1,s1,rfl,q⟩
 |bk I1=>exact⟨.bk I1,s1,rfl,q⟩
 |ct I1=>exact⟨.ct I1,s1,rfl,q⟩
def J4{fi:af->Dm Src}{js:List Nat}{f:af->Dm D}{Q:D->Store->Prop}(ds:List D)(h:D->Option D)(Bad:D->Store->Prop)(hi:Wp (fi I st) λS st1=>iy S ds st1/\Ex [] st st1)(hl:ds.length<100000)
  (step:∀d∈ds,∀st1,Ex [] st st1->Wp (f (some d :: js.map λj=>I.getD j none) st1) λy st2=>Ex [] st1 st2/\((ak y st2=false/\h d=some y)\/(ak y st2=true/\h d=none/\Bad y st2)))
  (good:∀ys st',ds.map h=ys.map some->Ex [] st st'->Q (.ref st'.length) (st' ++ [.lst ys])) (bad:∀d y st',d∈ds->h d=none->ak y st'=true->Bad y st'->Ex [] st st'->Q y st'):Wp (jw fi 1 js (hName 0) cB f I st) Q:=by
 unfold jw;rw[bI];refine bf hi λS iq ⟨hS,k0⟩=>?_;have key:∀(k i:Nat) (ys:List D) (v:Option D) (s:Store),i<=ds.length->ds.length-i<k->(ds.take i).map h=ys.map some->Ex [] iq s->Wp (cE S (hName 0) cB f k i ys (v :: js.map λj=>I.getD j none) s) λr s9=>(∃zs,r=(none,zs)/\ds.map h=zs.map some/\Ex [] iq s9)\/∃y zs,r=(some y,zs)/\Q y s9:=by
  intro k
  induction k with
  |zero=>intro i ys v s _ h;exact absurd h (Nat.not_lt_zero _)
  |succ k ih =>
   intro i ys v s hi hk' hy kx;unfold cE;have hyl:ys.length=i:=by have:=congrArg List.length hy;simpa[M6 hi]using this.symm
   rw[if_pos (show lim ys.length=true from M0 ⋯),hS i s hi kx];cases hd:ds[i]? with
   |none =>
    have:=Mh.mp hd;have e:i=ds.length:=by lk
    exact aB.mpr (.inl ⟨ys,rfl,by rw[e,MZ]at hy;exact hy,kx⟩)
   |some d =>
    have hlt:=(LN.mp hd).1;refine bI.mpr (aB.mpr (bI.mpr (aB.mpr ?_)));rw[if_pos rfl,bI];refine bf (step d (L6 hd) s (k0.trans kx)) λy s2 ⟨k2,q⟩=>?_;rcases q with⟨hr,hh⟩|⟨hr,hh,hb⟩
    rw[hr,if_neg LC];refine ih (i+1) _ _ s2 ⋯ ⋯ ?_ (kx.trans k2);rw[List.take_add_one,hd,Md,hy,Md];show _ ++ [h d]=_;rw[hh];rfl;rw[if_pos hr];exact aB.mpr (.inr ⟨y,ys,rfl,bad d y s2 (L6 hd) hh hr hb ((k0.trans kx).trans k2)⟩)
 rw[bI];refine bf (key fuel 0 [] none iq (Mx _) (Nat.lt_trans ⋯ (show 100000<fuel by decide)) rfl Ex.refl) λr s9 q=>?_;rcases q with⟨zs,rfl,hz,k9⟩|⟨y,zs,rfl,hq⟩
 exact aB.mpr (good zs s9 hz (k0.trans k9));exact aB.mpr hq
def tL{G:List D->Dm D}{f:af->Dm D}{Q:D->Store->Prop}(h:Wp (f I st) λb s1=>(ak b s1=true->Q b s1)/\(ak b s1=false->Wp (G [b] s1) λc s2=>ak c s2=false/\Q c s2)):Wp (ph G f I st) Q:=by
 unfold ph;rw[bI];refine bf h λb s1 q=>?_;cases hr:ak b s1 with
 |true=>rw[if_pos rfl];exact aB.mpr (q.1 hr)
 |false =>
  rw[if_neg LC,bI];refine bf (q.2 hr) λc s2 q2=>?_;rw[q2.1,if_neg LC];exact aB.mpr q2.2
def J5{f:af->Dm D}(h:Wp (f I st) R):Ws (lS f I st) N B C R:=by unfold lS Ws;rw[bI];exact bf h λd s q=>aB.mpr q
end
end L4
namespace My
local macro_rules|`(tactic| w_up)=>`(tactic| first|exact .inl rfl|exact .inr rfl|assumption)
local macro_rules|`(tactic| w_fin)=>`(tactic| decide +kernel)
local macro_rules|`(tactic|walk)=>`(tactic|exact ⟨rfl,rfl,rfl,by w_fin,rfl,by w_fin,by w_fin⟩)
local macro_rules|`(tactic| k_lt $h)=>`(tactic| (refine L4.bX ?_;intro _ $h;set_option simprocs false in simp only[L4.bD]))
local macro_rules|`(tactic|exists $l,*)=>`(tactic|set_option simprocs false in simp only[L4.bD,$[$l:term],*])
local macro_rules|`(tactic| w_how)=>`(tactic| set_option simprocs false in simp only[L4.bD])
open PySem L2 L4
local macro_rules|`($a<|$b)=>`(@bG _ _ _ _ _ $a $b (by rfl))
local macro_rules|`($a<|>$b)=>`(@pF _ _ _ _ _ $a $b)
local macro_rules|`($a<*$b<*$c)=>`(@vw _ _ _ _ _ _ _ $a $b $c (λ_ _=>rfl))
local macro_rules|`(~~~$a)=>`(@oJ _ _ _ $a)
local macro_rules|`($a<*>$b<*>$c)=>`(@ud _ _ _ _ _ _ _ _ $a $b $c)
local macro_rules|`($a&&&$b&&&$c)=>`(@qT _ _ _ _ _ _ _ _ PassesOwn.never rfl $a $b $c (by intro _;rfl))
local macro_rules|`($a>>=$b>>=$c)=>`(@Ai (i:=$a) _ _ _ _ _ _ (aA.nd $b) rfl (by w_up) $c (by rfl) (by w_up))
def J7:∀I st as st',aj I st=some (as,st')->as.length=0:=λ_ _ _ _ h=>Ef h
def uI{f1:af->Dm D}:∀I st as st',ae f1 aj I st=some (as,st')->as.length=1:=y3 J7
def oz{f1 f2:af->Dm D}:∀I st as st',ae f2 (ae f1 aj) I st=some (as,st')->as.length=2:=y3 uI
def J8{f1 f2 f3:af->Dm D}:∀I st as st',ae f3 (ae f2 (ae f1 aj)) I st=some (as,st')->as.length=3:=y3 oz
def iM{X:Cx}{k k':Nat}{f:Addr}{fd:FuncData}{ps:List Str}{sp:Sp}{x:Str}{st:Stmt}{e:Expr}{es:List Expr}{t:TA}{p pos:Pos}(F:aN X.prog X.w X.K X.mg X.base dm k f fd ps sp)(D:Def X.K X.mg x st ps f fd)(hr:bL k' X.A)(hk:k<=k')(hg:Gl X x)(ha:PA X (e :: es) t)(hdb:(x == ("__debug__" : Str))=false:=by decide)(he:starEach (e :: es) X.env=(false,eval e X.env) :: starEach es X.env:=by rfl)(hpl:(backTo pos (starEach es X.env)).any (·.1)=false:=by rfl):PE X (.Call (.Name x p) (e :: es) [] pos) (g8 sp [] E0 t):=An F (hr.mono hk) hg D.m D.F.kp D.b .nil jQ ha hdb he hpl
def uJ{n:Nat}{us:List Value}(h:us.length=n+1):∃a t,us=a :: t/\t.length=n:=by cases us with|nil=>cases h|cons a t=>exact⟨a,t,rfl,Nat.succ.inj h⟩
def uK{fd:FuncData}{p0:Str}(k:∀x0,bindArgs fd ⟨[x0],[]⟩=pure [(p0,x0)])(us:List Value)(h:us.length=1):bindArgs fd ⟨us,[]⟩=pure ([p0].zip us):=by obtain⟨x0,t0,rfl,g1⟩:=uJ h;cases MP g1;exact k x0
def tM{fd:FuncData}{p0 p1:Str}(k:∀x0 x1,bindArgs fd ⟨[x0,x1],[]⟩=pure [(p0,x0),(p1,x1)])(us:List Value)(h:us.length=2):bindArgs fd ⟨us,[]⟩=pure ([p0,p1].zip us):=by obtain⟨x0,t0,rfl,g1⟩:=uJ h;obtain⟨x1,t1,rfl,g2⟩:=uJ g1;cases MP g2;exact k x0 x1
def J9{fd:FuncData}{p0 p1 p2:Str}(k:∀x0 x1 x2,bindArgs fd ⟨[x0,x1,x2],[]⟩=pure [(p0,x0),(p1,x1),(p2,x2)])(us:List Value)(h:us.length=3):bindArgs fd ⟨us,[]⟩=pure ([p0,p1,p2].zip us):=by obtain⟨x0,t0,rfl,g1⟩:=uJ h;obtain⟨x1,t1,rfl,g2⟩:=uJ g1;obtain⟨x2,t2,rfl,g3⟩:=uJ g2;cases MP g3;exact k x0 x1 x2
local macro_rules|`(tactic| o_norm)=>do let f:=λs:String=>(s.splitOn " ").toArray.map λs=>Lean.mkIdent (.mkSimple s);let x:=f "jX lK fR Be Eh iP aX gW mL kn Bf fT wA aK bM Bk Bg Ej mK qe Ek lJ ur Ei Eo ze zg mJ ot Bs uA Br rS lF Eg Bp BH zb Bl uw xj uu uv Em BV BG za Bn zd uB zc uD BK BJ rT BS Bi Ec Fp wq zz y2 BW qf Ee zf qk";`(tactic| repeat' (first|with_reducible (first|(first $[|apply $x]*)|exactλ_ _ _ _ h=>Ef h|apply y3)|exact iP _|exact aX _|first|(first $[|apply $x]*)))
set_option hygiene false
local macro_rules|`($a|||$b|||$c:ident)=>`(by refine D.F.ok $a (λ_ _ _ _ h=>h.1) (λc A o s H v Q E hr h=>?_);have hu:=hr.units;refine⟨_,$b,?_⟩;exact nV (b:=$c) (by delta $c;o_norm) rfl h)
set_option hygiene true
local macro_rules|`(tactic|k_in)=>`(tactic|exact ⟨⟨rfl,by w_fin,by w_fin,by dsimp only[bC,ai,Cx.lg,Cx.wish,PyProof.Rows.envOfC,compEnvC,relabel,Env.kindOf];decide +kernel,by w_fin⟩,rfl⟩)
local macro_rules|`(tactic|k_lt2 $h)=>`(tactic|(clear $h;k_lt $h))
local macro_rules|`(tactic|exists _,$h:ident,$l,*)=>`(tactic|(refine L4.bX ?_;intro _ $h;exists $l,*))
abbrev top(i:Nat):Stmt:=PySem.Challenge.pw_shearfloor_k19_texts_of_no_word.main.body.getD i (.Pass ⟨0,0,0,0⟩)
@[reducible]def IV:=Nat->af->Store->Prop
def Fv{st:Store}{R:D->Store->Prop}{n:Nat}{b:af->Dm Fl}{ds:List D}(h:let q:=R;Ws (b (ds.map some ++ List.replicate (n-ds.length) none) st) (λ_ st1=>q .non st1) (λ_ _=>False) (λ_ _=>False) q):Wp (iQ n b ds st) R:=kM h
structure Txt(mg:Str->Option Value):Prop where
 jy:mg "ValueError" = none
 n5:mg "all" = none
 jz:mg "bool" = none
 iC:mg "int" = none
 ao:mg "isinstance" = none
 c6:mg "len" = none
 jA:mg "list" = none
 xD:mg "max" = none
 gY:mg "range" = none
 jb:mg "str" = none
 dz:mg "tuple" = none
 xE:mg "zip" = none
abbrev zE:Stmt:=match top 2 with
 |.ClassDef _ _ _ b _ _ _ _ _ _ _=>b.getD 0 (.Pass ⟨0,0,0,0⟩)
 |_=>.Pass ⟨0,0,0,0⟩
def Ka:aA ["self","row"] ["self","row"] (aq zE):=by walk
structure XF(K:Zfr)(mg:Str->Option Value)(ah aG aV bw aH aI aJ cI:Addr):Prop where
 iD:mg "NoText" = some (.ref ah)
 mw:mg "NoFloor" = some (.ref aG)
 n6:mg "NoName" = some (.ref aV)
 pk:mg "NoRow" = some (.ref bw)
 mx:mg "NoSlope" = some (.ref aH)
 my:mg "NoTable" = some (.ref aI)
 mz:mg "TooMany" = some (.ref aJ)
 aM:PySem.W.nsIn K mainGlobals "NoText" = some (some (.ref ah))
 c7:PySem.W.nsIn K mainGlobals "NoFloor" = some (some (.ref aG))
 eF:PySem.W.nsIn K mainGlobals "NoName" = some (some (.ref aV))
 fO:PySem.W.nsIn K mainGlobals "NoRow" = some (some (.ref bw))
 dc:PySem.W.nsIn K mainGlobals "NoSlope" = some (some (.ref aH))
 de:PySem.W.nsIn K mainGlobals "NoTable" = some (some (.ref aI))
 df:PySem.W.nsIn K mainGlobals "TooMany" = some (some (.ref aJ))
 jB:PySem.W.findIn K (.ref ah) "__init__" = some (some (.ref cI))
 eG:PySem.W.mroIn K ah (.ref ah)=some true
 cy:fx K ah Fo "ValueError.__new__" cI=true
 dg:PySem.W.isFn K (.ref cI)=true
 dh:PySem.W.keepIn K (.ref ah)=true
 di:PySem.W.mroIn K ah (.type "BaseException")=some true
 dj:PySem.W.typeIn K (.ref ah)=some (.type "type")
 j5:PySem.W.takerIn K ah "row" = some none
 j6:PySem.W.findIn K (.ref ah) "row" = some none
 k0:PySem.W.kitOne K (.ref ah) (.ref aH)=some false
 k1:PySem.W.kitOne K (.ref ah) (.ref aI)=some false
 k2:PySem.W.kitOne K (.ref ah) (.ref aG)=some false
 k3:PySem.W.kitOne K (.ref ah) (.ref ah)=some true
 k4:PySem.W.kitOne K (.ref ah) (.ref bw)=some false
 k5:PySem.W.kitOne K (.ref ah) (.ref aV)=some false
 k6:PySem.W.kitOne K (.ref ah) (.ref aJ)=some false
 k7:PySem.W.kitOne K (.ref ah) (.type "ValueError")=some true
 bz:iO K ah
 gn:om K ah
 I:∃dI,mE K "__init__" "NoText.__init__" zE cI dI/\Binds K dI ["self","row"] []
def xF{K:Zfr}{mg:Str->Option Value}{h:Heap}{ah aG aV bw aH aI aJ cI:Addr}(KX:K.In h)(G:h.Ns mainGlobals mg)(aM:PySem.W.nsIn K mainGlobals "NoText" = some (some (.ref ah)))(c7:PySem.W.nsIn K mainGlobals "NoFloor" = some (some (.ref aG)))(eF:PySem.W.nsIn K mainGlobals "NoName" = some (some (.ref aV)))(fO:PySem.W.nsIn K mainGlobals "NoRow" = some (some (.ref bw)))(dc:PySem.W.nsIn K mainGlobals "NoSlope" = some (some (.ref aH)))(de:PySem.W.nsIn K mainGlobals "NoTable" = some (some (.ref aI)))(df:PySem.W.nsIn K mainGlobals "TooMany" = some (some (.ref aJ)))(jB:PySem.W.findIn K (.ref ah) "__init__" = some (some (.ref cI)))(eG:PySem.W.mroIn K ah (.ref ah)=some true)(cy:fx K ah Fo "ValueError.__new__" cI=true)(dg:PySem.W.isFn K (.ref cI)=true)(dh:PySem.W.keepIn K (.ref ah)=true)(di:PySem.W.mroIn K ah (.type "BaseException")=some true)(dj:PySem.W.typeIn K (.ref ah)=some (.type "type"))(j5:PySem.W.takerIn K ah "row" = some none)(j6:PySem.W.findIn K (.ref ah) "row" = some none)(k0:PySem.W.kitOne K (.ref ah) (.ref aH)=some false)(k1:PySem.W.kitOne K (.ref ah) (.ref aI)=some false)(k2:PySem.W.kitOne K (.ref ah) (.ref aG)=some false)(k3:PySem.W.kitOne K (.ref ah) (.ref ah)=some true)(k4:PySem.W.kitOne K (.ref ah) (.ref bw)=some false)(k5:PySem.W.kitOne K (.ref ah) (.ref aV)=some false)(k6:PySem.W.kitOne K (.ref ah) (.ref aJ)=some false)(k7:PySem.W.kitOne K (.ref ah) (.type "ValueError")=some true)(bz:iO K ah)(gn:om K ah)(I:∃dI,mE K "__init__" "NoText.__init__" zE cI dI/\Binds K dI ["self","row"] []):XF K mg ah aG aV bw aH aI aJ cI :=
 ⟨PySem.W.mg_of KX G aM,PySem.W.mg_of KX G c7,PySem.W.mg_of KX G eF,PySem.W.mg_of KX G fO,PySem.W.mg_of KX G dc,PySem.W.mg_of KX G de,PySem.W.mg_of KX G df,aM,c7,eF,fO,dc,de,df,jB,eG,cy,dg,dh,di,dj,j5,j6,k0,k1,k2,k3,k4,k5,k6,k7,bz,gn,I⟩
def Kb{P:Program}{w:World}{K:Zfr}{mg:Str->Option Value}{base:Heap}{cI:Addr}{dI:FuncData}(I:mE K "__init__" "NoText.__init__" zE cI dI):aN P w K mg base dm 1 cI dI ["self","row"] (nM K "row"):=I.ok Ka (λvs H Q E h=>Hv h) (λcdv A outer s H vs Q E hr h=>⟨_,(oJ (Hk (pv 0) (pv 1) rfl)),Hw h⟩)
section
variable {P:Program}{w:World}{K:Zfr}{mg:Str->Option Value}{base:Heap}{f:Addr}{fd:FuncData}
abbrev xG:af->Dm Fl :=
 (ay (aU (aC er (aC hZ (fC (.int 7901)) (ag 1)) (fC (.int 24697))) (hName 2))
 (ay (gb (ax (aC oq (ag 1) (br ig (ae (ag 0) aj)))) (aU (aC dv (ag 0) (ag 1)) (hName 2)) (gb (ax (aC ux (br ig (ae (ag 0) aj)) (fC (.int 0)))) (aU (aC er (aC hZ (aC ia (aC dv (ag 0) (aC ia (ag 1) (br ig (ae (ag 0) aj)))) (fC (.int 2147483629))) (fC (.int 31))) (aC hZ (fC (.int 7901)) (ag 1))) (hName 2)) bu))
 (ay (aU (fC (.int 0)) (hName 3))
 (ay (gb (ax (aC Bd (ag 2) (aC nQ (fC (.int 10)) (fC (.int 18))))) (aU (ag 2) (hName 3)) bu)
 (bB (eo (ae (ag 3) (ae (aC er (aC ia (aC nQ (aC er (aC hZ (aC ia (ag 2) (fC (.int 2147483629))) (fC (.int 48271))) (aC hZ (fC (.int 40692)) (ag 1))) (fC (.int 5))) (fC (.int 2147483629))) (fC (.int 1))) aj))))))))
abbrev xH:List D->Dm D:=iQ 4 xG
abbrev xI:Stmt:=top 18
def uL:aA ["_law_script","_law_k","_law_cell","_law_own"] ["_law_script","_law_k"] (aq xI):=by walk
abbrev Gx1:=λ(n:Str)(s:Stmt)(p:List Str)K mg=>Def K mg n s p
abbrev Gx2:=λ(p:List Str)(N n:Nat)F P w K mg base f d=>aN P w K mg base dm N f d p (gg K n F)
abbrev D10:=Gx1 "_law_feed" xI ["_law_script","_law_k"]
abbrev G10:=Gx2 ["_law_script","_law_k"] 1 2 xH
def Kc(D:D10 K mg f fd)(T:Txt mg):G10 P w K mg base f fd:=uL|||((2>>=uL>>=cn ke (cn pL aY (pv 1)) aY)<|>(fW pN (pv 1) (dt pS (by rfl) T.c6 lZ (pv 0<|az)) (aw _)<*>(~~~(2>>=uL>>=(kg<*pv 0<*pv 1)))<*>(~~~(fW yB (dt pS (by rfl) T.c6 lZ (pv 0<|az)) aY (aw _)<*>(~~~(2>>=uL>>=cn ke (cn pL (cn pM (kg<*pv 0<*cn pM (pv 1) (dt pS (by rfl) T.c6 lZ (pv 0<|az))) aY) aY) (cn pL aY (pv 1))))<*>iW)))<|>(3>>=uL>>=aY)<|>(fW vn (pv 2) (cn CT aY aY) (aw _)<*>(~~~(3>>=uL>>=pv 2))<*>iW)<|>(~~~(@fK _ _ _ _ (@kB _ _ _ _ (pv 3<|cn ke (cn pM (cn CT (cn ke (cn pL (cn pM (pv 2) aY) aY) (cn pL aY (pv 1))) aY) aY) aY<|az)))))|||xG
variable {dA:Addr}{dB:FuncData}(cF:D10 K mg dA dB)(dC:G10 P w K mg base dA dB)
abbrev xJ:af->Dm Fl :=
 (ay (gb (ax (aC ux (aC dv (ag 0) (fC (.int 0))) (fC (.int 0)))) (ay (aU (aC ia (aC dv (ag 0) (fC (.int 0))) (ag 1)) (hName 2))
 (ay (aU (aC jU (aC dv (ag 0) (fC (.int 0))) (ag 1)) (hSub (ag 0) (fC (.int 0))))
 (bB (ag 2)))) bu)
 (ay (aU (aC ia (aC hZ (aC dv (ag 0) (fC (.int 1))) (fC (.int 48271))) (fC (.int 2147483647))) (hName 3))
 (ay (aU (aC er (aC ia (aC er (aC hZ (ag 3) (fC (.int 40692))) (fC (.int 30103))) (fC (.int 2147483399))) (fC (.int 1))) (hSub (ag 0) (fC (.int 1))))
 (bB (aC ia (aC jU (aC er (aC hZ (ag 3) (fC (.int 2147483647))) (aC dv (ag 0) (fC (.int 1)))) (fC (.int 8191))) (ag 1))))))
abbrev jC:List D->Dm D:=iQ 4 xJ
abbrev xK:Stmt:=top 19
def Cd:aA ["_law_feed_here","_law_many","_law_digit","_law_one"] ["_law_feed_here","_law_many"] (aq xK):=by walk
abbrev D11:=Gx1 "_law_take" xK ["_law_feed_here","_law_many"]
abbrev G11:=Gx2 ["_law_feed_here","_law_many"] 1 2 jC
def Kd(D:D11 K mg f fd)(T:Txt mg):G11 P w K mg base f fd:=Cd|||((fW yB (kg<*pv 0<*aY) aY (aw _)<*>((2>>=Cd>>=cn pM (kg<*pv 0<*aY) (pv 1))<|>Ah (cn CS (kg<*pv 0<*aY) (pv 1)) (yz (pv 0) aY yH)<|>(~~~(@fK _ _ _ _ (pv 2))))<*>iW)<|>(3>>=Cd>>=cn pM (cn pL (kg<*pv 0<*aY) aY) aY)<|>Ah (cn ke (cn pM (cn ke (cn pL (pv 3) aY) aY) aY) aY) (yz (pv 0) aY yH)<|>(~~~(@fK _ _ _ _ (cn pM (cn CS (cn ke (cn pL (pv 3) aY) (kg<*pv 0<*aY)) aY) (pv 1)))))|||xJ
variable {dD:Addr}{dE:FuncData}(au:D11 K mg dD dE)(av:G11 P w K mg base dD dE)
abbrev xM:af->Dm Fl :=
 (ay (aU (eo aj) (hName 3))
 (ay (md (gk (ae (br jC (ae (ag 0) (ae (aC er (ag 1) (fC (.int 1))) aj))) aj)) (hName 4) (gb (ax (aC (eM false) (br jC (ae (ag 0) (ae (fC (.int 2)) aj))) (fC (.int 0)))) (i7 (kH "list" eN (ag 3) (ae (fA (ae (fC (.str "t")) (ae (aC er (fC (.int 1)) (br jC (ae (ag 0) (ae (fC (.int 3)) aj)))) aj))) aj))) (ay (aU (aC er (fC (.int 1)) (br jC (ae (ag 0) (ae (ag 2) aj)))) (hName 4))
 (i7 (kH "list" eN (ag 3) (ae (fA (ae (fC (.str "s")) (ae (aC dv (eo (ae (ag 4) (ae (aC lW (fC (.int 0)) (ag 4)) aj))) (br jC (ae (ag 0) (ae (fC (.int 2)) aj)))) aj))) aj))))))
 (bB (br gh (ae (ag 3) aj)))))
abbrev xN:List D->Dm D:=iQ 5 xM
abbrev xO:Stmt:=top 20
def zF:aA ["_law_feed_here","_law_most","_law_great","_law_found","_law_k"] ["_law_feed_here","_law_most","_law_great"] (aq xO):=by walk
abbrev D12:=Gx1 "_law_word" xO ["_law_feed_here","_law_most","_law_great"]
abbrev G12:=Gx2 ["_law_feed_here","_law_most","_law_great"] 2 3 xN
include au av in
def Ke(D:D12 K mg f fd)(T:Txt mg):G12 P w K mg base f fd:=zF|||((3>>=zF>>=(@kB _ _ _ _ az))<|>(Al rfl T.gY (iM av au hr ∅ rfl (pv 0<|cn ke (pv 1) aY<|az)<|az)&&&(lV (i:=4) zF.nd rfl (by w_up))&&&(~~~(fW kf (iM av au hr ∅ rfl (pv 0<|aY<|az)) aY (aw _)<*>(~~~Af (mD PySem.F.plainAttrs_list PySem.F.slot_list_append PySem.F.type_list_append Ay (pv 3) ((@m8 _ _ _ _ _ (cx<|cn ke aY (iM av au hr ∅ rfl (pv 0<|aY<|az))<|az))<|az)))<*>((4>>=zF>>=cn ke aY (iM av au hr ∅ rfl (pv 0<|pv 2<|az)))<|>(~~~Af (mD PySem.F.plainAttrs_list PySem.F.slot_list_append PySem.F.type_list_append Ay (pv 3) ((@m8 _ _ _ _ _ (cx<|(kg<*(@kB _ _ _ _ (pv 4<|cn qW aY (pv 4)<|az))<*iM av au hr ∅ rfl (pv 0<|aY<|az))<|az))<|az)))))))<|>(~~~(@fK _ _ _ _ (mC As (by rfl) T.dz rk (pv 3<|az)))))|||xM
variable {dF:Addr}{dG:FuncData}(cG:D12 K mg dF dG)(dH:G12 P w K mg base dF dG)
abbrev xP:af->Dm Fl :=
 (ay (aU (fC (.str " !\"#$&'()*+,-./0123456789:;<=>?@ABCDEFGHIJKLMNOPQRSTUVWXYZ")) (hName 0))
 (bB (aC iz (ag 0) (fC (.str "[\\]^_`abcdefghijklmnopqrstuvwxyz{|}~\n")))))
abbrev zG:List D->Dm D:=iQ 1 xP
abbrev xQ:Stmt:=top 25
def Fw:aA ["_law_signs_here"] [] (aq xQ):=by walk
abbrev D13:=Gx1 "_law_signs" xQ []
abbrev G13:=Gx2 [] 1 0 zG
def Kf(D:D13 K mg f fd)(T:Txt mg):G13 P w K mg base f fd:=Fw|||((0>>=Fw>>=cx)<|>(~~~(@fK _ _ _ _ (cn yC (pv 0) cx))))|||xP
variable {cN:Addr}{cO:FuncData}(bA:D13 K mg cN cO)(cP:G13 P w K mg base cN cO)
abbrev xR:af->Dm Fl :=
 (ay (aU (br jC (ae (ag 0) (ae (fC (.int 9)) aj))) (hName 2))
 (ay (aU (br jC (ae (ag 0) (ae (aC er (br gF (ae (ag 1) aj)) (fC (.int 1))) aj))) (hName 3))
 (ay (aU (aC dv (eo (ae (br zG aj) (ae (fC (.str "st -0123.")) aj))) (br jC (ae (ag 0) (ae (fC (.int 2)) aj)))) (hName 4))
 (ay (aU (aC jo (ag 4) (br jC (ae (ag 0) (ae (br gF (ae (ag 4) aj)) aj)))) (hName 5))
 (ay (gb (ax (aC oq (ag 2) (fC (.int 3)))) (bB (aC iz (aC iz (iJ fD (ag 1) aL (bt (ag 3))) (aC dv (eo (ae (ag 5) (ae (fC (.str "")) (ae (ag 5) aj)))) (ag 2))) (iJ fD (ag 1) (bt (aC er (ag 3) (br gG (ae (aC ux (ag 2) (fC (.int 0))) aj)))) aL))) bu)
 (ay (aU (kH "str" fB (ag 1) (ae (fC (.str " ")) aj)) (hName 6))
 (ay (aU (br jC (ae (ag 0) (ae (br ig (ae (ag 6) aj)) aj))) (hName 7))
 (ay (aU (br jC (ae (ag 0) (ae (br ig (ae (ag 6) aj)) aj))) (hName 8))
 (ay (gb (ax (aC (eM false) (ag 2) (fC (.int 3)))) (bB (kH "str" dZ (fC (.str " ")) (ae (aC ie (iJ ib (ag 6) aL (bt (ag 7))) (iJ ib (ag 6) (bt (aC er (ag 7) (fC (.int 1)))) aL)) aj))) bu)
 (ay (gb (ax (aC (eM false) (ag 2) (fC (.int 4)))) (bB (kH "str" dZ (fC (.str " ")) (ae (aC ie (aC ie (iJ ib (ag 6) aL (bt (ag 7))) (iJ ib (ag 6) (bt (ag 7)) (bt (aC er (ag 7) (fC (.int 1)))))) (iJ ib (ag 6) (bt (ag 7)) aL)) aj))) bu)
 (ay (gb (ax (aC (eM false) (ag 2) (fC (.int 5)))) (ay (aU (fA (ae (aC dv (ag 6) (ag 8)) (ae (aC dv (ag 6) (ag 7)) aj))) (kK 2 (fq (hSub (ag 6) (ag 7)) (fq (hSub (ag 6) (ag 8)) ma))))
 (bB (kH "str" dZ (fC (.str " ")) (ae (ag 6) aj)))) bu)
 (ay (aU (eo (ae (fC (.str "s0")) (ae (fC (.str "t0")) (ae (fC (.str "t4")) (ae (fC (.str "t-1")) (ae (fC (.str "s-0")) (ae (fC (.str "s+1")) (ae (fC (.str "s01")) (ae (fC (.str "s1_0")) (ae (fC (.str "s10000")) (ae (fC (.str "s-9999")) (ae (fC (.str "t3")) (ae (fC (.str "s")) (ae (fC (.str "")) aj)))))))))))))) (hName 9))
 (ay (aU (aC dv (aC ie (ag 9) (eo (ae (fC (.str ".")) (ae (fC (.str "t")) (ae (fC (.str "S1")) (ae (fC (.str "t01")) (ae (fC (.str "s-")) aj))))))) (br jC (ae (ag 0) (ae (fC (.int 18)) aj)))) (hName 10))
 (bB (kH "str" dZ (fC (.str " ")) (ae (aC ie (aC ie (iJ ib (ag 6) aL (bt (ag 7))) (eo (ae (ag 10) aj))) (iJ ib (ag 6) (bt (aC er (ag 7) (br gG (ae (aC oq (ag 2) (fC (.int 8))) aj)))) aL)) aj))))))))))))))))
abbrev uM:List D->Dm D:=iQ 11 xR
abbrev xS:Stmt:=top 26
def oA:aA ["_law_feed_here","_law_text","_law_form","_law_at","_law_signs_here","_law_sign","_law_steps","_law_here","_law_far","_law_odd","_law_one"] ["_law_feed_here","_law_text"] (aq xS):=by walk
abbrev D14:=Gx1 "_law_spoilt" xS ["_law_feed_here","_law_text"]
abbrev G14:=Gx2 ["_law_feed_here","_law_text"] 2 2 uM
include au av bA cP in
def Kg(D:D14 K mg f fd)(T:Txt mg):G14 P w K mg base f fd:=oA|||((2>>=oA>>=iM av au hr ∅ rfl (pv 0<|aY<|az))<|>(3>>=oA>>=iM av au hr ∅ rfl (pv 0<|cn ke (dt vB (by rfl) T.c6 lZ (pv 1<|az)) aY<|az))<|>(4>>=oA>>=(kg<*(@kB _ _ _ _ (Gh cP (hr.mono ∅) rfl bA.m bA.F.kp bA.b .nil jQ<|cx<|az))<*iM av au hr ∅ rfl (pv 0<|aY<|az)))<|>(5>>=oA>>=(yG<*pv 4<*iM av au hr ∅ rfl (pv 0<|dt vB (by rfl) T.c6 lZ (pv 4<|az)<|az)))<|>(fW pN (pv 2) aY (aw _)<*>(~~~(@fK _ _ _ _ (cn yC (cn yC (jg nK (pv 1) jF (i5 (pv 3))) (kg<*(@kB _ _ _ _ (pv 5<|cx<|pv 5<|az))<*pv 2)) (jg nK (pv 1) (i5 (cn ke (pv 3) (mC yD (by rfl) T.iC rj (lh yB (pv 2) aY (aw _)<|az)))) jF))))<*>iW)<|>(6>>=oA>>=mD PySem.F.plainAttrs_str PySem.F.slot_str_split PySem.F.type_str_split A0 (pv 1) (cx<|az))<|>(7>>=oA>>=iM av au hr ∅ rfl (pv 0<|dt pS (by rfl) T.c6 lZ (pv 6<|az)<|az))<|>(8>>=oA>>=iM av au hr ∅ rfl (pv 0<|dt pS (by rfl) T.c6 lZ (pv 6<|az)<|az))<|>(fW kf (pv 2) aY (aw _)<*>(~~~(@fK _ _ _ _ (mD PySem.F.plainAttrs_str PySem.F.slot_str_join PySem.F.type_str_join vO cx (cn pT (jg pR (pv 6) jF (i5 (pv 7))) (jg pR (pv 6) (i5 (cn ke (pv 7) aY)) jF)<|az))))<*>iW)<|>(fW kf (pv 2) aY (aw _)<*>(~~~(@fK _ _ _ _ (mD PySem.F.plainAttrs_str PySem.F.slot_str_join PySem.F.type_str_join vO cx (cn pT (cn pT (jg pR (pv 6) jF (i5 (pv 7))) (jg pR (pv 6) (i5 (pv 7)) (i5 (cn ke (pv 7) aY)))) (jg pR (pv 6) (i5 (pv 7)) jF)<|az))))<*>iW)<|>(fW kf (pv 2) aY (aw _)<*>(Ah (@m8 _ _ _ _ _ ((kg<*pv 6<*pv 8)<|(kg<*pv 6<*pv 7)<|az)) (CL (n:=2) rfl (uf (yz (pv 6) (pv 7) yH) (uf (yz (pv 6) (pv 8) yH) Ag)))<|>(~~~(@fK _ _ _ _ (mD PySem.F.plainAttrs_str PySem.F.slot_str_join PySem.F.type_str_join vO cx (pv 6<|az)))))<*>iW)<|>(9>>=oA>>=(@kB _ _ _ _ (cx<|cx<|cx<|cx<|cx<|cx<|cx<|cx<|cx<|cx<|cx<|cx<|cx<|az)))<|>(10>>=oA>>=(kg<*cn pT (pv 9) (@kB _ _ _ _ (cx<|cx<|cx<|cx<|cx<|az))<*iM av au hr ∅ rfl (pv 0<|aY<|az)))<|>(~~~(@fK _ _ _ _ (mD PySem.F.plainAttrs_str PySem.F.slot_str_join PySem.F.type_str_join vO cx (cn pT (cn pT (jg pR (pv 6) jF (i5 (pv 7))) (@kB _ _ _ _ (pv 10<|az))) (jg pR (pv 6) (i5 (cn ke (pv 7) (mC yD (by rfl) T.iC rj (lh pN (pv 2) aY (aw _)<|az)))) jF)<|az)))))|||xR
variable {cq:Addr}{cu:FuncData}(bP:D14 K mg cq cu)(cw:G14 P w K mg base cq cu)
abbrev xT:af->Dm Fl :=
 (ay (aU (iJ fD (ag 0) (bt (fC (.int 1))) aL) (hName 1))
 (ay (gb (ax (aC (eM false) (iJ fD (ag 1) aL (bt (fC (.int 1)))) (fC (.str "-")))) (aU (iJ fD (ag 1) (bt (fC (.int 1))) aL) (hName 1)) bu)
 (ay (aU (cz (j3 (ag 1)) 1 [] (hName 0) (ax (aC (nZ true) (ag 0) (fC (.str "0123456789")))) (ag 0)) (hName 2))
 (ay (gb (oo (ax (aC (jv true) (iJ fD (ag 0) aL (bt (fC (.int 1)))) (fA (ae (fC (.str "s")) (ae (fC (.str "t")) aj))))) (oo (ax (aC (jV true) (ag 2) (eo aj))) (oW (ax (iB oq oq (fC (.int 0)) (br gF (ae (ag 1) aj)) (fC (.int 5))))))) (bB (fC .non)) bu)
 (ay (aU (br fN (ae (iJ fD (ag 0) (bt (fC (.int 1))) aL) aj)) (hName 3))
 (ay (aU (dY (aC (eM false) (br ja (ae (ag 3) aj)) (iJ fD (ag 0) (bt (fC (.int 1))) aL)) (dY (aC (eM true) (ag 3) (fC (.int 0))) (oX (aC (eM false) (aC jo (ag 0) (fC (.int 0))) (fC (.str "s"))) (iB oq oq (fC (.int 0)) (ag 3) (fC (.int 4)))))) (hName 4))
 (bB (aC dv (eo (ae (fC .non) (ae (fA (ae (aC jo (ag 0) (fC (.int 0))) (ae (ag 3) aj))) aj))) (br gG (ae (ag 4) aj))))))))))
abbrev zH:List D->Dm D:=iQ 5 xT
abbrev xU:Stmt:=top 23
def uN:aA ["_law_text","_law_figures","_law_odd","_law_k","_law_good"] ["_law_text"] (aq xU):=by walk
abbrev D15:=Gx1 "_law_step_of" xU ["_law_text"]
abbrev G15:=Gx2 ["_law_text"] 1 1 zH
def Kh(D:D15 K mg f fd)(T:Txt mg):G15 P w K mg base f fd:=uN|||((1>>=uN>>=jg nK (pv 0) (i5 aY) jF)<|>(fW kf (jg nK (pv 1) jF (i5 aY)) cx (aw _)<*>(~~~(1>>=uN>>=jg nK (pv 1) (i5 aY) jF))<*>iW)<|>(Ds (i:=2) (own:=["_law_sign"]) (fr:=[]) (js:=[]) rfl uN.nd rfl rfl (by k_in) (Dx (pv 1)) (λ_ _ _ _ _=>(lV (i:=0) (show((["_law_sign"]:List Str) ++ ([]:List Str)).Nodup by w_fin) rfl (by w_up))) (λ_ _ _ _ _=>(rF (fW Gp (pv 0) cx (by with_unfolding_all rfl)))) (λ_ _ _ _ _=>(pv 0)))<|>(PW.pt (qL (fW (GZ hu) (jg nK (pv 0) jF (i5 aY)) (@m8 _ _ _ _ _ (cx<|cx<|az)) (by with_unfolding_all rfl)) (qL (fW (rz hu) (pv 2) (@kB _ _ _ _ az) (aw _)) (u5 (qM (F7 pN pN aY (dt vB (by rfl) T.c6 lZ (pv 1<|az)) aY)))))<*>(~~~(@fK _ _ _ _ qJ))<*>iW)<|>(3>>=uN>>=mC A1 (by rfl) T.iC rj (jg nK (pv 0) (i5 aY) jF<|az))<|>(4>>=uN>>=qN (lh kf (mC C3 (by rfl) T.jb uj (pv 3<|az)) (jg nK (pv 0) (i5 aY) jF) (aw _)) (qN (lh qY (pv 3) aY (aw _)) (ub (u7 (lh kf (yG<*pv 0<*aY) cx (aw _)) (ub (F6 pN pN aY (pv 3) aY))))))<|>(~~~(@fK _ _ _ _ (kg<*(@kB _ _ _ _ (qJ<|(@m8 _ _ _ _ _ ((yG<*pv 0<*aY)<|pv 3<|az))<|az))<*mC yD (by rfl) T.iC rj (pv 4<|az)))))|||xT
variable {bY:Addr}{bZ:FuncData}(bF:D15 K mg bY bZ)(b4:G15 P w K mg base bY bZ)
abbrev xV:af->Dm Fl :=
 (ay (gb (ax (aC (eM false) (ag 0) (fC (.str ".")))) (bB (fA aj)) bu)
 (ay (aU (cz (gj (kH "str" fB (ag 0) (ae (fC (.str " ")) aj))) 1 [] (hName 0) cB (br zH (ae (ag 0) aj))) (hName 1))
 (bB (aC dv (eo (ae (br gh (ae (ag 1) aj)) (ae (fC .non) aj))) (br gG (ae (aC (jv false) (fC .non) (ag 1)) aj))))))
abbrev xW:List D->Dm D:=iQ 2 xV
abbrev xX:Stmt:=top 24
def Fx:aA ["_law_text","_law_steps"] ["_law_text"] (aq xX):=by walk
abbrev D16:=Gx1 "_law_due" xX ["_law_text"]
abbrev G16:=Gx2 ["_law_text"] 2 1 xW
include bF b4 in
def Ki(D:D16 K mg f fd)(T:Txt mg):G16 P w K mg base f fd:=Fx|||((fW kf (pv 0) cx (aw _)<*>(~~~(@fK _ _ _ _ (@m8 _ _ _ _ _ az)))<*>iW)<|>(Ds (i:=1) (own:=["_law_one"]) (fr:=[]) (js:=[]) rfl Fx.nd rfl rfl (by k_in) (Ak (mD PySem.F.plainAttrs_str PySem.F.slot_str_split PySem.F.type_str_split A0 (pv 0) (cx<|az))) (λ_ _ _ _ _=>(lV (i:=0) (show((["_law_one"]:List Str) ++ ([]:List Str)).Nodup by w_fin) rfl (by w_up))) (λ_ _ _ _ _=>rE) (λ_ _ _ _ _=>(iM b4 bF hr ∅ rfl (pv 0<|az))))<|>(~~~(@fK _ _ _ _ (kg<*(@kB _ _ _ _ (mC As (by rfl) T.dz rk (pv 1<|az)<|qJ<|az))<*mC yD (by rfl) T.iC rj (lh (DE hu) qJ (pv 1) (by with_unfolding_all rfl)<|az)))))|||xV
variable {eQ:Addr}{eS:FuncData}(dk:D16 K mg eQ eS)(eU:G16 P w K mg base eQ eS)
abbrev zI:af->Dm Fl :=
 (ay (aU (ag 0) (hName 2))
 (ay (gb (ax (kH "str" gX (ag 0) (ae (fC (.str "-")) aj))) (aU (iJ fD (ag 0) (bt (fC (.int 1))) aL) (hName 2)) bu)
 (ay (gb (oo (ax (aC oq (br gF (ae (ag 2) aj)) (fC (.int 1)))) (oo (ax (aC ux (br gF (ae (ag 2) aj)) (ag 1))) (ax (aC (eM false) (aC jo (ag 2) (fC (.int 0))) (fC (.str "0")))))) (bB (fC (.bl false))) bu)
 (bB (br jW (ae (cz (j3 (ag 2)) 1 [] (hName 0) cB (aC (nZ false) (ag 0) (fC (.str "0123456789")))) aj))))))
abbrev xY:List D->Dm D:=iQ 3 zI
abbrev xZ:Stmt:=top 16
def Ce:aA ["text","most","figures"] ["text","most"] (aq xZ):=by walk
abbrev D17:=Gx1 "is_number_but_nought" xZ ["text","most"]
abbrev G17:=Gx2 ["text","most"] 1 2 xY
def Kj(D:D17 K mg f fd)(T:Txt mg){iE:V}(fP:jM K mg "FIGURES" iE (.str "0123456789")):G17 P w K mg base f fd:=by
 refine D.F.ok Ce (λ_ _ _ _ h=>h.1) (λc A o s H v Q E hr h=>?_);refine⟨_,((2>>=Ce>>=pv 0)<|>(yx (mD PySem.F.plainAttrs_str PySem.F.slot_str_startswith PySem.F.type_str_startswith He (pv 0) (cx<|az))<*>(~~~(2>>=Ce>>=jg nK (pv 0) (i5 aY) jF))<*>iW)<|>(PW.pt (qL (fW pN (dt vB (by rfl) T.c6 lZ (pv 2<|az)) aY (aw _)) (qL (fW yB (dt vB (by rfl) T.c6 lZ (pv 2<|az)) (pv 1) (aw _)) (u5 (fW kf (yG<*pv 2<*aY) cx (aw _)))))<*>(~~~(@fK _ _ _ _ yw))<*>iW)<|>(~~~(@fK _ _ _ _ (dt (AH rfl) (by rfl) T.n5 AB (yM (own:=["figure"]) (fr:=[]) (js:=[]) rfl (by k_in) (Dx (pv 2)) (λ_ _ _ _ _=>(lV (i:=0) (show((["figure"]:List Str) ++ ([]:List Str)).Nodup by w_fin) rfl (by w_up))) (λ_ _ _ _ _=>rE) (λ_ _ _ _ _=>(lh F4 (pv 0) (zu fP rfl rfl ∅) (by with_unfolding_all rfl)))<|az))))),?_⟩
 exact nV (b:=zI) (jX (lK (aX 0) (gW 2))
  (jX (mL (y1 (uA JD (aX 0) (aK (lF _) bM))) (lK (uw xj (aX 0) (uv (iP _)) uu) (gW 2)) mK)
  (jX (mL (rT (kn (fR Bf (fT zb (aK (aX 2) bM)) (iP _))) (rT (kn (fR Bg (fT zb (aK (aX 2) bM)) (aX 1))) (kn (fR ot (fR Bl (aX 2) (iP _)) (lF _))))) (lJ (yX _)) mK)
  (lJ (fT Bq (aK (uD (BK (aX 2)) (gW 0) qk (fR (BJ false) (aX 0) (zv fP))) bM)))))) rfl h
variable {aQ:Addr}{aR:FuncData}(aD:D17 K mg aQ aR)(aS:G17 P w K mg base aQ aR)
abbrev zJ:af->Dm Fl :=
 (ay (pe (aU (iJ fD (ag 0) aL (bt (fC (.int 1)))) (hName 1)))
 (ay (pe (aU (iJ fD (ag 0) (bt (fC (.int 1))) aL) (hName 2)))
 (ay (pe (gb (l9 (ax (aC (eM false) (ag 1) (fC (.str "s")))) (ax (br xY (ae (ag 2) (ae (fC (.int 4)) aj))))) (bB (fA (ae (ag 1) (ae (br fN (ae (ag 2) aj)) aj)))) bu))
 (ay (pe (gb (l9 (ax (aC (eM false) (ag 1) (fC (.str "t")))) (ax (aC (jv false) (ag 2) (fC (.tup [(.str "1"),(.str "2"),(.str "3")]))))) (bB (fA (ae (ag 1) (ae (br fN (ae (ag 2) aj)) aj)))) bu))
 (eP "NoText" ["row"] (ae (fC (.int 0)) aj))))))
abbrev x3:List D->Dm D:=iQ 3 zJ
abbrev x4:Stmt:=top 15
def Cf:aA ["text","letter","number"] ["text"] (aq x4):=by walk
include aD aS in
def Kk(D:Def K mg "read_step" x4 ["text"] f fd)(T:Txt mg){cU:V}(b5:jM K mg "MOST_FIGURES" cU (.int 4)){gp:V}(eV:jM K mg "QUARTERS" gp (.tup [(.str "1"),(.str "2"),(.str "3")])){ah aG aV bw aH aI aJ cI:Addr}(Z:XF K mg ah aG aV bw aH aI aJ cI){dI:FuncData}(GI:aN P w K mg base dm 1 cI dI ["self","row"] (nM K "row"))(BI:Binds K dI ["self","row"] []):aN P w K mg base (gM P w) 3 f fd ["text"] (tE K 1 x3):=by
 refine D.F.DK Cf (λ_ _ _ _ h=>h.1) (λc A o s H v Q E hr h=>?_);have hu:=hr.units;refine⟨_,((1>>=Cf>>=jg nK (pv 0) jF (i5 aY))<|>(2>>=Cf>>=jg nK (pv 0) (i5 aY) jF)<|>(PW.pt (CK (fW kf (pv 1) cx (aw _)) (CJ (yx (iM aS aD hr ∅ rfl (pv 2<|zu b5 rfl rfl ∅<|az)))))<*>(~~~(@fK _ _ _ _ (@m8 _ _ _ _ _ (pv 1<|mC A1 (by rfl) T.iC rj (pv 2<|az)<|az))))<*>iW)<|>(PW.pt (CK (fW kf (pv 1) cx (aw _)) (CJ (fW (DE hu) (pv 2) (zu eV rfl rfl ∅) (by with_unfolding_all rfl))))<*>(~~~(@fK _ _ _ _ (@m8 _ _ _ _ _ (pv 1<|mC A1 (by rfl) T.iC rj (pv 2<|az)<|az))))<*>iW)<|>(~~~Hs (Hr PySem.F.excBase_ValueError ⟨Z.iD,Z.cy,Z.dg,Z.dh⟩ GI (hr.mono ∅) rfl BI (aY<|az)))),?_⟩
 exact Fm (b:=zJ) (xx (xw (lK (uw xj (aX 0) uu (uv (iP _))) (gW 1)))
  (xx (xw (lK (uw xj (aX 0) (uv (iP _)) uu) (gW 2)))
  (xx (xw (mL (Ed (kn (fR ot (aX 1) (lF _))) (y1 (mJ (F:=xY) (aK (aX 2) (aK (zv b5) bM)) oz))) (lJ (rS (aK (aX 1) (aK (fT zz (aK (aX 2) bM)) bM)))) mK))
  (xx (xw (mL (Ed (kn (fR ot (aX 1) (lF _))) (kn (fR (BS false) (aX 2) (zv eV)))) (lJ (rS (aK (aX 1) (aK (fT zz (aK (aX 2) bM)) bM)))) mK))
  (JY (aK (iP _) bM) uI Z.aM Z.gn Z.j5 Z.di Z.dj))))) rfl h
variable {dJ:Addr}{dM:FuncData}(bJ:Def K mg "read_step" x4 ["text"] dJ dM)(dN:aN P w K mg base (gM P w) 3 dJ dM ["text"] (tE K 1 x3))
abbrev zK:af->Dm Fl :=
 (ay (pe (gb (ax (aC (eM false) (ag 0) (fC (.str ".")))) (bB (fA aj)) bu))
 (lS (ph gh (jw (gj (kH "str" fB (ag 0) (ae (fC (.str " ")) aj))) 1 [] (hName 0) cB (br x3 (ae (ag 0) aj))))))
abbrev x5:List D->Dm D:=iQ 1 zK
abbrev x6:Stmt:=top 14
def Kl:aA ["text"] ["text"] (aq x6):=by walk
include bJ dN in
def Km(D:Def K mg "read_word" x6 ["text"] f fd)(T:Txt mg){gq:V}(eW:jM K mg "NO_STEPS" gq (.str ".")):aN P w K mg base (gM P w) 4 f fd ["text"] (tE K 1 x5):=by
 refine D.F.DK Kl (λ_ _ _ _ h=>h.1) (λc A o s H v Q E hr h=>?_);refine⟨_,((fW kf (pv 0) (zu eW rfl rfl ∅) (aw _)<*>(~~~(@fK _ _ _ _ (@m8 _ _ _ _ _ az)))<*>iW)<|>(~~~(@fK _ _ _ _ (mC As (by rfl) T.dz rk (HI (own:=["part"]) (fr:=[]) (js:=[]) (by k_in) (Ak (mD PySem.F.plainAttrs_str PySem.F.slot_str_split PySem.F.type_str_split A0 (pv 0) (cx<|az))) (λ_ _ _ _ _=>(lV (i:=0) (show((["part"]:List Str) ++ ([]:List Str)).Nodup by w_fin) rfl (by w_up))) (λ_ _ _ _ _=>rE) (λ_ _ _ _ _=>(An dN (hr.mono ∅) rfl bJ.m bJ.F.kp bJ.b .nil HE (pv 0<|az)))<|az))))),?_⟩
 exact Fm (b:=zK) (xx (xw (mL (kn (fR ot (aX 0) (zv eW))) (lJ (rS bM)) mK))
  (JX (tG Bp (JW (zf (uA BV (aX 0) (aK (lF _) bM))) (gW 0) qk (JV (F:=x3) (aK (aX 0) bM) uI))))) rfl h
variable {dO:Addr}{dP:FuncData}(bK:Def K mg "read_word" x6 ["text"] dO dP)(dQ:aN P w K mg base (gM P w) 4 dO dP ["text"] (tE K 1 x5))
abbrev uO(RR:List D->Dm D):af->Dm Fl :=
 (ay (gb (ax (br dy (ae (ag 1) (ae (fA (ae (fC (.ty "list")) (ae (fC (.ty "tuple")) aj))) aj)))) (ay (gb (oo (ax (aC (eM true) (br dy (ae (ag 0) (ae (fC (.ty "tuple")) aj))) (br dy (ae (ag 1) (ae (fC (.ty "tuple")) aj))))) (ax (aC (eM true) (br dy (ae (ag 0) (ae (fC (.ty "list")) aj))) (br dy (ae (ag 1) (ae (fC (.ty "list")) aj)))))) (bB (fC (.bl false))) bu)
 (bB (dY (aC (eM false) (br ig (ae (ag 0) aj)) (br ig (ae (ag 1) aj))) (br jW (ae (cz (lN (ae (ag 0) (ae (ag 1) aj))) 2 [] (kK 2 (fq (hName 0) (fq (hName 1) ma))) cB (br RR (ae (ag 0) (ae (ag 1) aj)))) aj))))) bu)
 (ay (gb (oo (ax (aC (eM true) (br dy (ae (ag 0) (ae (fC (.ty "bool")) aj))) (br dy (ae (ag 1) (ae (fC (.ty "bool")) aj))))) (ax (aC (eM true) (br dy (ae (ag 0) (ae (fC (.ty "str")) aj))) (br dy (ae (ag 1) (ae (fC (.ty "str")) aj)))))) (bB (fC (.bl false))) bu)
 (bB (aC (eM false) (ag 0) (ag 1)))))
abbrev pq:Nat->List D->Dm D
 |0=>λ_ _=>none
 |n+1=>iQ 2 (uO (pq n))
abbrev x8:List D->Dm D:=pq 6
abbrev tN:Stmt:=top 21
def Fy:aA ["_law_found","_law_due_here"] ["_law_found","_law_due_here"] (aq tN):=by walk
def Fz{f:Addr}{fd:FuncData}(D:Def K mg "_law_alike" tN ["_law_found","_law_due_here"] f fd)(T:Txt mg) :∀nn:Nat,aN P w K mg base dm (1+nn) f fd ["_law_found","_law_due_here"] (gg K 2 (pq nn))
 |0=>Jw rfl
 |nn+1=>by
  have x9:=Fz D T   nn;refine D.F.ok Fy (λ_ _ _ _ h=>h.1) (λc A o s H v Q E hr h=>?_)
  refine⟨_,(@pF _ _ _ _ _ (@ud _ _ _ _ _ _ _ _ (yx (dt lO (by rfl) T.ao iH (@bG _ _ _ _ _ (pv 1) (@bG _ _ _ _ _ (@m8 _ _ _ _ _ (@bG _ _ _ _ _ (jK (v:=.ty "list") rfl T.jA yK rfl) (@bG _ _ _ _ _ (jK (v:=.ty "tuple") rfl T.dz rk rfl) az (by rfl)) (by rfl))) az (by rfl)) (by rfl)))) (@pF _ _ _ _ _ (@ud _ _ _ _ _ _ _ _ (PW.pt (qL (fW qY (dt lO (by rfl) T.ao iH (@bG _ _ _ _ _ (pv 0) (@bG _ _ _ _ _ (jK (v:=.ty "tuple") rfl T.dz rk rfl) az (by rfl)) (by rfl))) (dt lO (by rfl) T.ao iH (@bG _ _ _ _ _ (pv 1) (@bG _ _ _ _ _ (jK (v:=.ty "tuple") rfl T.dz rk rfl) az (by rfl)) (by rfl))) (aw _)) (u5 (fW qY (dt lO (by rfl) T.ao iH (@bG _ _ _ _ _ (pv 0) (@bG _ _ _ _ _ (jK (v:=.ty "list") rfl T.jA yK rfl) az (by rfl)) (by rfl))) (dt lO (by rfl) T.ao iH (@bG _ _ _ _ _ (pv 1) (@bG _ _ _ _ _ (jK (v:=.ty "list") rfl T.jA yK rfl) az (by rfl)) (by rfl))) (aw _))))) (@oJ _ _ _ (@fK _ _ _ _ yw)) iW)
  (@oJ _ _ _ (@fK _ _ _ _ (qN (lh kf (dt pS (by rfl) T.c6 lZ (@bG _ _ _ _ _ (pv 0) az (by rfl))) (dt pS (by rfl) T.c6 lZ (@bG _ _ _ _ _ (pv 1) az (by rfl))) (aw _)) (ub (dt (AH rfl) (by rfl) T.n5 AB (@bG _ _ _ _ _ (yM (own:=["_law_one","_law_other"]) (fr:=[]) (js:=[]) rfl (by k_in) (rK rfl T.xE (@bG _ _ _ _ _ (pv 0) (@bG _ _ _ _ _ (pv 1) az (by rfl)) (by rfl))) (λ_ _ _ _ _=>(Du (K:=K) (n:=2) rfl rfl (uf (lV (i:=0) (show((["_law_one","_law_other"]:List Str) ++ ([]:List Str)).Nodup by w_fin) rfl (by w_up)) (uf (lV (i:=1) (show((["_law_one","_law_other"]:List Str) ++ ([]:List Str)).Nodup by w_fin) rfl (by w_up)) Ag)))) (λ_ _ _ _ _=>rE) (λ_ _ _ _ _=>(An x9 (hr.mono (by first|exact LI _|lk)) rfl D.m D.F.kp D.b .nil jQ (@bG _ _ _ _ _ (pv 0) (@bG _ _ _ _ _ (pv 1) az (by rfl)) (by rfl))))) az (by rfl)))))))) iW)
  (@pF _ _ _ _ _ (@ud _ _ _ _ _ _ _ _ (PW.pt (qL (fW qY (dt lO (by rfl) T.ao iH (@bG _ _ _ _ _ (pv 0) (@bG _ _ _ _ _ (jK (v:=.ty "bool") rfl T.jz yJ rfl) az (by rfl)) (by rfl))) (dt lO (by rfl) T.ao iH (@bG _ _ _ _ _ (pv 1) (@bG _ _ _ _ _ (jK (v:=.ty "bool") rfl T.jz yJ rfl) az (by rfl)) (by rfl))) (aw _)) (u5 (fW qY (dt lO (by rfl) T.ao iH (@bG _ _ _ _ _ (pv 0) (@bG _ _ _ _ _ (jK (v:=.ty "str") rfl T.jb uj rfl) az (by rfl)) (by rfl))) (dt lO (by rfl) T.ao iH (@bG _ _ _ _ _ (pv 1) (@bG _ _ _ _ _ (jK (v:=.ty "str") rfl T.jb uj rfl) az (by rfl)) (by rfl))) (aw _))))) (@oJ _ _ _ (@fK _ _ _ _ yw)) iW)
  (@oJ _ _ _ (@fK _ _ _ _ (lh kf (pv 0) (pv 1) (aw _)))))),?_⟩
  exact nV (b:=uO (pq nn)) (jX (mL (y1 (fT lP (aK (aX 1) (aK (rS (aK (km _) (aK (km _) bM))) bM)))) (jX (mL (rT (kn (fR qf (fT lP (aK (aX 0) (aK (km _) bM))) (fT lP (aK (aX 1) (aK (km _) bM))))) (kn (fR qf (fT lP (aK (aX 0) (aK (km _) bM))) (fT lP (aK (aX 1) (aK (km _) bM)))))) (lJ (yX _)) mK)
  (lJ (y2 (fR ot (fT wA (aK (aX 0) bM)) (fT wA (aK (aX 1) bM))) (fT Bq (aK (uD (Jt (aK (aX 0) (aK (aX 1) bM))) (zd (uB (gW 0) (uB (gW 1) zc))) qk (mJ (F:=pq nn) (aK (aX 0) (aK (aX 1) bM)) oz)) bM))))) mK)
  (jX (mL (rT (kn (fR qf (fT lP (aK (aX 0) (aK (km _) bM))) (fT lP (aK (aX 1) (aK (km _) bM))))) (kn (fR qf (fT lP (aK (aX 0) (aK (km _) bM))) (fT lP (aK (aX 1) (aK (km _) bM)))))) (lJ (yX _)) mK)
  (lJ (fR ot (aX 0) (aX 1))))) rfl h
def Kn(D:Def K mg "_law_alike" tN ["_law_found","_law_due_here"] f fd)(T:Txt mg):aN P w K mg base dm 7 f fd ["_law_found","_law_due_here"] (gg K 2 x8):=Fz D T   6
variable {cb:Addr}{cc:FuncData}(aW:Def K mg "_law_alike" tN ["_law_found","_law_due_here"] cb cc)(cQ:aN P w K mg base dm 7 cb cc ["_law_found","_law_due_here"] (gg K 2 x8))
abbrev zL(kx:Nat):af->Dm Fl :=
 (ay (gb (ax (br dy (ae (ag 1) (ae (fA (ae (fC (.ty "list")) (ae (fC (.ty "tuple")) aj))) aj)))) n4 bu)
 (ay (gb (oo (ax (aC (eM true) (br dy (ae (ag 0) (ae (fC (.ty "bool")) aj))) (br dy (ae (ag 1) (ae (fC (.ty "bool")) aj))))) (ax (aC (eM true) (br dy (ae (ag 0) (ae (fC (.ty "str")) aj))) (br dy (ae (ag 1) (ae (fC (.ty "str")) aj)))))) (bB (fC (.bl false))) bu)
 (bB (aC (eM false) (ag 0) (ag 1)))))
abbrev ya(kx:Nat):List D->Dm D:=iQ 2 (zL kx)
def Ko{f:Addr}{fd:FuncData}(D:Def K mg "_law_alike" tN ["_law_found","_law_due_here"] f fd)(T:Txt mg)  (hx:Addr)(kx:Nat):gB hx P w K mg base dm 2 f fd ["_law_found","_law_due_here"] (uH K hx kx 2 (ya kx)):=by
 refine D.F.Ea Fy (λ_ _ _ _ h=>h.1) (λc A o s H v Q E hr h=>?_);have hu1:=Fu hr
 refine⟨_,(@pF _ _ _ _ _ (@ud _ _ _ _ _ _ _ _ (yx (dt lO (by rfl) T.ao iH (@bG _ _ _ _ _ (pv 1) (@bG _ _ _ _ _ (@m8 _ _ _ _ _ (@bG _ _ _ _ _ (jK (v:=.ty "list") rfl T.jA yK rfl) (@bG _ _ _ _ _ (jK (v:=.ty "tuple") rfl T.dz rk rfl) az (by rfl)) (by rfl))) az (by rfl)) (by rfl)))) FX iW)
  (@pF _ _ _ _ _ (@ud _ _ _ _ _ _ _ _ (PW.pt (qL (fW qY (dt lO (by rfl) T.ao iH (@bG _ _ _ _ _ (pv 0) (@bG _ _ _ _ _ (jK (v:=.ty "bool") rfl T.jz yJ rfl) az (by rfl)) (by rfl))) (dt lO (by rfl) T.ao iH (@bG _ _ _ _ _ (pv 1) (@bG _ _ _ _ _ (jK (v:=.ty "bool") rfl T.jz yJ rfl) az (by rfl)) (by rfl))) (aw _)) (u5 (fW qY (dt lO (by rfl) T.ao iH (@bG _ _ _ _ _ (pv 0) (@bG _ _ _ _ _ (jK (v:=.ty "str") rfl T.jb uj rfl) az (by rfl)) (by rfl))) (dt lO (by rfl) T.ao iH (@bG _ _ _ _ _ (pv 1) (@bG _ _ _ _ _ (jK (v:=.ty "str") rfl T.jb uj rfl) az (by rfl)) (by rfl))) (aw _))))) (@oJ _ _ _ (@fK _ _ _ _ yw)) iW)
  (@oJ _ _ _ (@fK _ _ _ _ (lh kf (pv 0) (pv 1) (aw _)))))),?_⟩
 exact Ft (b:=zL kx) (zD (zC (mL (y1 (fT lP (aK (aX 1) (aK (rS (aK (km _) (aK (km _) bM))) bM)))) Jz mK))
  (zD (zC (mL (rT (kn (fR qf (fT lP (aK (aX 0) (aK (km _) bM))) (fT lP (aK (aX 1) (aK (km _) bM))))) (kn (fR qf (fT lP (aK (aX 0) (aK (km _) bM))) (fT lP (aK (aX 1) (aK (km _) bM)))))) (lJ (yX _)) mK))
  (B9 (pj (fR ot (aX 0) (aX 1)))))) rfl h
abbrev zM(kx:Nat):af->Dm Fl :=
 (ay (aU (eo (ae (iA (gQ "NoText" true) (ag 0)) (ae (iA (gQ "NoText" false) (ag 0)) (ae (iA (gQ "NoText" false) (ag 0)) (ae (iA (gQ "NoText" false) (ag 0)) aj))))) (hName 2))
 (ay (aU (aC ie (ag 2) (eo (ae (iA (gQ "NoText" false) (ag 0)) (ae (iA (gQ "NoText" false) (ag 0)) (ae (iA (gQ "NoText" false) (ag 0)) aj))))) (hName 2))
 (bB (dY (aC (jV false) (ag 2) (cz (jx kx (ae (fC (.int 7)) aj)) 1 [1] (hName 0) cB (aC (eM false) (ag 0) (ag 1)))) (iA (gQ "NoText" true) (ag 0))))))
abbrev yb(kx:Nat):List D->Dm D:=iQ 3 (zM kx)
abbrev yc:Stmt:=top 22
def Cg:aA ["_law_e","_law_own","_law_some"] ["_law_e","_law_own"] (aq yc):=by walk
def Kq{f:Addr}{fd:FuncData}(D:Def K mg "_law_is_alone" yc ["_law_e","_law_own"] f fd)(T:Txt mg)  {ah aG aV bw aH aI aJ cI:Addr}(Z:XF K mg ah aG aV bw aH aI aJ cI)(hx:Addr)(kx:Nat):gB hx P w K mg base dm 2 f fd ["_law_e","_law_own"] (uH K hx kx 2 (yb kx)):=by
 refine D.F.Ea Cg (λ_ _ _ _ h=>h.1) (λc A o s H v Q E hr h=>?_);have hu:=hr.units;have hu1:=Fu hr
 refine⟨_,(@pF _ _ _ _ _ (@Ai (i:=2) _ _ _ _ _ _ Cg.nd rfl (by w_up) (@kB _ _ _ _ (@bG _ _ _ _ _ (dt p8 (by rfl) T.ao iH (@bG _ _ _ _ _ (pv 0) (@bG _ _ _ _ _ (pZ (hJ.own Z.iD) rfl) az (by rfl)) (by rfl))) (@bG _ _ _ _ _ (dt p8 (by rfl) T.ao iH (@bG _ _ _ _ _ (pv 0) (@bG _ _ _ _ _ (pZ (hJ.own Z.mw) rfl) az (by rfl)) (by rfl))) (@bG _ _ _ _ _ (dt p8 (by rfl) T.ao iH (@bG _ _ _ _ _ (pv 0) (@bG _ _ _ _ _ (pZ (hJ.own Z.my) rfl) az (by rfl)) (by rfl))) (@bG _ _ _ _ _ (dt p8 (by rfl) T.ao iH (@bG _ _ _ _ _ (pv 0) (@bG _ _ _ _ _ (pZ (hJ.own Z.mx) rfl) az (by rfl)) (by rfl))) az (by rfl)) (by rfl)) (by rfl)) (by rfl))) (by rfl) (by w_up))
  (@pF _ _ _ _ _ (@Ai (i:=2) _ _ _ _ _ _ Cg.nd rfl (by w_up) (cn pT (pv 2) (@kB _ _ _ _ (@bG _ _ _ _ _ (dt p8 (by rfl) T.ao iH (@bG _ _ _ _ _ (pv 0) (@bG _ _ _ _ _ (pZ (hJ.own Z.mz) rfl) az (by rfl)) (by rfl))) (@bG _ _ _ _ _ (dt p8 (by rfl) T.ao iH (@bG _ _ _ _ _ (pv 0) (@bG _ _ _ _ _ (pZ (hJ.own Z.n6) rfl) az (by rfl)) (by rfl))) (@bG _ _ _ _ _ (dt p8 (by rfl) T.ao iH (@bG _ _ _ _ _ (pv 0) (@bG _ _ _ _ _ (pZ (hJ.own Z.pk) rfl) az (by rfl)) (by rfl))) az (by rfl)) (by rfl)) (by rfl)))) (by rfl) (by w_up))
  (@oJ _ _ _ (@fK _ _ _ _ (qN (lh (rq hu) (pv 2) (HR (own:=["_law_k"]) (fr:=["_law_own"]) (js:=[1]) hr.hd ⟨⟨rfl,by w_fin,by w_fin,by dsimp only[hV,bC,ai,Cx.lg,Cx.wish,PyProof.Rows.envOfC,compEnvC,relabel,Env.kindOf];decide +kernel,by w_fin⟩,rfl⟩ (HP rfl T.gY (@bG _ _ _ _ _ aY az (by rfl))) (λ_ _ _ _ _=>(lV (i:=0) (show((["_law_k"]:List Str) ++ (["_law_own"]:List Str)).Nodup by w_fin) rfl (by w_up))) (λ_ _ _ _ _=>rE) (λ_ _ _ _ _=>(lh kf (pv 0) (pv 1) (aw _)))) (aw _)) (ub (dt p8 (by rfl) T.ao iH (@bG _ _ _ _ _ (pv 0) (@bG _ _ _ _ _ (pZ (hJ.blt T.jy JO ∅) rfl) az (by rfl)) (by rfl))))))))),?_⟩
 exact Ft (b:=zM kx) (zD (zC (lK (ur (aK (qu (aX 0) rfl (qv (R:=λC b=>iO K C/\PySem.W.kitOne K (.ref C) _=some b) Z.aM ⟨Z.bz,Z.k3⟩)) (aK (qu (aX 0) rfl (qv (R:=λC b=>iO K C/\PySem.W.kitOne K (.ref C) _=some b) Z.aM ⟨Z.bz,Z.k2⟩)) (aK (qu (aX 0) rfl (qv (R:=λC b=>iO K C/\PySem.W.kitOne K (.ref C) _=some b) Z.aM ⟨Z.bz,Z.k1⟩)) (aK (qu (aX 0) rfl (qv (R:=λC b=>iO K C/\PySem.W.kitOne K (.ref C) _=some b) Z.aM ⟨Z.bz,Z.k0⟩)) bM))))) (gW 2)))
  (zD (zC (lK (fR za (aX 2) (ur (aK (qu (aX 0) rfl (qv (R:=λC b=>iO K C/\PySem.W.kitOne K (.ref C) _=some b) Z.aM ⟨Z.bz,Z.k6⟩)) (aK (qu (aX 0) rfl (qv (R:=λC b=>iO K C/\PySem.W.kitOne K (.ref C) _=some b) Z.aM ⟨Z.bz,Z.k5⟩)) (aK (qu (aX 0) rfl (qv (R:=λC b=>iO K C/\PySem.W.kitOne K (.ref C) _=some b) Z.aM ⟨Z.bz,Z.k4⟩)) bM))))) (gW 2)))
  (B9 (Ca (tH (Bi false) (pj (aX 2)) (JZ (aK (iP _) bM) (gW 0) qk (fR ot (aX 0) (aX 1)))) (pj (qu (aX 0) rfl (qv (R:=λC b=>iO K C/\PySem.W.kitOne K (.ref C) _=some b) Z.aM ⟨Z.bz,Z.k7⟩))))))) rfl h
abbrev zN:af->Dm Fl :=
 (ay (o5 1 2 (ae (fC .non) (ae (br xW (ae (ag 0) aj)) aj)))
 (ay (lT (lQ x5 (ae (ag 0) aj) 1) (kN "NoText") 3 (λkx=>(bB (dY (aC (ml false) (ag 2) (fC .non)) (dY (br (yb kx) (ae (ag 3) (ae (fC (.int 0)) aj))) (br (ya kx) (ae (lR (kN "NoText") "row" (ag 3)) (ae (fC (.int 0)) aj))))))))
 (bB (dY (aC (ml true) (ag 2) (fC .non)) (br x8 (ae (ag 1) (ae (ag 2) aj)))))))
abbrev yd:List D->Dm D:=iQ 4 zN
abbrev ye:Stmt:=top 27
def zO:aA ["_law_text","_law_found","_law_due_here","_law_e"] ["_law_text"] (aq ye):=by walk
abbrev D18:=Gx1 "_law_right" ye ["_law_text"]
abbrev G18:=Gx2 ["_law_text"] 8 1 yd
include dk eU bK dQ aW cQ in
def Kr(D:D18 K mg f fd)(T:Txt mg){ah aG aV bw aH aI aJ cI:Addr}(Z:XF K mg ah aG aV bw aH aI aJ cI)(dR:∀(hx:Addr) (kx:Nat),gB hx P w K mg base dm 2 cb cc ["_law_found","_law_due_here"] (uH K hx kx 2 (ya kx))){bQ:Addr}{bR:FuncData}(a8:Def K mg "_law_is_alone" yc ["_law_e","_law_own"] bQ bR)(ck:∀(hx:Addr) (kx:Nat),gB hx P w K mg base dm 2 bQ bR ["_law_e","_law_own"] (uH K hx kx 2 (yb kx))):G18 P w K mg base f fd:=by
 refine D.F.ok zO (λ_ _ _ _ h=>h.1) (λc A o s H v Q E hr h=>?_);refine⟨_,((qQ (i:=1) (j:=2) rfl zO.nd rfl rfl ∅ rfl rfl (qJ<|iM eU dk hr ∅ rfl (pv 0<|az)<|az) rfl)<|>(HV (i:=3) (F:=ah) Z.iD Z.cy ∅ rfl zO.nd rfl rfl (λpins W=>(~~~(1>>=zO>>=G1 dQ (hr.mono ∅) rfl bK.m bK.F.kp bK.b (pv 0<|az)))) (λhx=>tJ λkx=>(~~~(@fK _ _ _ _ (qN (lh Jn (pv 2) qJ (aw _)) (qN (D9 (ck hx kx) ((hr.held hx).mono ∅) rfl a8.m a8.F.kp a8.b .nil jQ (pv 3<|aY<|az)) (ub (D9 (dR hx kx) ((hr.held hx).mono ∅) rfl aW.m aW.F.kp aW.b .nil jQ (Hu (pv 3) rfl<|aY<|az)))))))))<|>(~~~(@fK _ _ _ _ (qN (lh Jo (pv 2) qJ (aw _)) (ub (iM cQ aW hr ∅ rfl (pv 1<|pv 2<|az))))))),?_⟩
 exact nV (b:=zN) (jX (r8 (aK wq (aK (mJ (F:=xW) (aK (aX 0) bM) uI) bM)))
  (jX (J0 (JL (F:=x5) (aK (aX 0) bM) uI) (λhx kx=>(B9 (Ca (pj (fR (EI false) (aX 2) wq)) (Ca (Fs (F:=yb kx) (aK (aX 3) (aK (iP _) bM)) oz) (Fs (F:=ya kx) (aK (JR (aX 3) (JU (R:=λC=>iO K C/\PySem.W.findIn K (.ref C) "row" = some none) Z.aM ⟨Z.bz,Z.j6⟩)) (aK (iP _) bM)) oz))))) (JN Z.aM Z.eG))
  (lJ (y2 (fR (EI true) (aX 2) wq) (mJ (F:=x8) (aK (aX 1) (aK (aX 2) bM)) oz))))) rfl h
variable {cR:Addr}{cS:FuncData}(cf:D18 K mg cR cS)(cT:G18 P w K mg base cR cS)
abbrev zP:af->Dm Fl :=
 (ay (aU (eo (ae (fC (.str "")) (ae (fC (.str ".")) (ae (fC (.str " ")) (ae (fC (.str "s1 ")) (ae (fC (.str "t2\n")) (ae (fC (.str ". .")) aj))))))) (hName 1))
 (ay (md (gk (ae (br lH (ae (fC (.int 3)) (ae (br ig (ae (iJ ib (ag 0) aL (bt (fC (.int 8)))) aj)) aj))) aj)) (hName 2) (ay (aU (br xH (ae (ag 0) (ae (ag 2) aj))) (hName 3))
 (ay (aU (br jC (ae (ag 3) (ae (fC (.int 2)) aj))) (hName 4))
 (ay (aU (br xN (ae (ag 3) (ae (fC (.int 10)) (ae (aC dv (eo (ae (fC (.int 3)) (ae (fC (.int 20)) (ae (fC (.int 1000)) aj)))) (br jC (ae (ag 3) (ae (fC (.int 3)) aj)))) aj)))) (hName 5))
 (ay (aU (kH "str" dZ (fC (.str " ")) (ae (cz (lL (ag 5)) 2 [] (kK 2 (fq (hName 0) (fq (hName 1) ma))) cB (aC iz (ag 0) (br ja (ae (ag 1) aj)))) aj)) (hName 6))
 (md (gk (ae (aC er (fC (.int 1)) (ag 4)) aj)) (hName 7) (ay (aU (br uM (ae (ag 3) (ae (ag 6) aj))) (hName 6))
 (i7 (kH "list" eN (ag 1) (ae (ag 6) aj))))))))))
 (bB (br jW (ae (cz (gj (aC ie (ag 1) (yZ lG (ag 1)))) 1 [] (hName 0) cB (br yd (ae (ag 0) aj))) aj)))))
abbrev Ci:List D->Dm D:=iQ 8 zP
abbrev zQ:Stmt:=top 28
def pw:aA ["_law_script","_law_texts","_law_k","_law_feed_here","_law_twice","_law_word_here","_law_text","_law_turn"] ["_law_script"] (aq zQ):=by walk
abbrev D19:=Gx1 "law" zQ ["_law_script"]
abbrev G19:=Gx2 ["_law_script"] 9 1 Ci
include cF dC au av cG dH bP cw cf cT in
def tO(D:D19 K mg f fd)(T:Txt mg):G19 P w K mg base f fd:=by
 refine D.F.ok pw (λ_ _ _ _ h=>h.1) (λc A o s H v Q E hr h=>?_);refine⟨_,((1>>=pw>>=(@kB _ _ _ _ (cx<|cx<|cx<|cx<|cx<|cx<|az)))<|>(Al rfl T.gY (dt (F8 rfl) (by rfl) T.xD rl (aY<|dt pS (by rfl) T.c6 lZ (jg pR (pv 0) jF (i5 aY)<|az)<|az)<|az)&&&(lV (i:=2) pw.nd rfl (by w_up))&&&((3>>=pw>>=iM dC cF hr ∅ rfl (pv 0<|pv 2<|az))<|>(4>>=pw>>=iM av au hr ∅ rfl (pv 3<|aY<|az))<|>(5>>=pw>>=iM dH cG hr ∅ rfl (pv 3<|aY<|(kg<*(@kB _ _ _ _ (aY<|aY<|aY<|az))<*iM av au hr ∅ rfl (pv 3<|aY<|az))<|az))<|>(6>>=pw>>=mD PySem.F.plainAttrs_str PySem.F.slot_str_join PySem.F.type_str_join vO cx (yM (own:=["_law_letter","_law_number"]) (fr:=[]) (js:=[]) rfl (by k_in) (qS (pv 5)) (λ_ _ _ _ _=>(Du (K:=K) (n:=2) rfl rfl (uf (lV (i:=0) (show((["_law_letter","_law_number"]:List Str) ++ ([]:List Str)).Nodup by w_fin) rfl (by w_up)) (uf (lV (i:=1) (show((["_law_letter","_law_number"]:List Str) ++ ([]:List Str)).Nodup by w_fin) rfl (by w_up)) Ag)))) (λ_ _ _ _ _=>rE) (λ_ _ _ _ _=>(cn yC (pv 0) (mC C3 (by rfl) T.jb uj (pv 1<|az))))<|az))<|>(~~~(Al rfl T.gY (cn ke aY (pv 4)<|az)&&&(lV (i:=7) pw.nd rfl (by w_up))&&&((6>>=pw>>=iM cw bP hr ∅ rfl (pv 3<|pv 6<|az))<|>(~~~Af (mD PySem.F.plainAttrs_list PySem.F.slot_list_append PySem.F.type_list_append Ay (pv 1) (pv 6<|az))))))))<|>(~~~(@fK _ _ _ _ (dt (AH rfl) (by rfl) T.n5 AB (yM (own:=["_law_text"]) (fr:=[]) (js:=[]) rfl (by k_in) (Ak (cn pT (pv 1) (rB Gz (pv 1)))) (λ_ _ _ _ _=>(lV (i:=0) (show((["_law_text"]:List Str) ++ ([]:List Str)).Nodup by w_fin) rfl (by w_up))) (λ_ _ _ _ _=>rE) (λ_ _ _ _ _=>(iM cT cf hr ∅ rfl (pv 0<|az)))<|az))))),?_⟩
 exact nV (b:=zP) (jX (lK (ur (aK (lF _) (aK (lF _) (aK (lF _) (aK (lF _) (aK (lF _) (aK (lF _) bM))))))) (gW 1))
  (jX (ze (zg (aK (fT Ie (aK (iP _) (aK (fT wA (aK (uw Bn (aX 0) uu (uv (iP _))) bM)) bM))) bM)) (gW 2) (jX (lK (mJ (F:=xH) (aK (aX 0) (aK (aX 2) bM)) oz) (gW 3))
  (jX (lK (mJ (F:=jC) (aK (aX 3) (aK (iP _) bM)) oz) (gW 4))
  (jX (lK (mJ (F:=xN) (aK (aX 3) (aK (iP _) (aK (fR Bk (ur (aK (iP _) (aK (iP _) (aK (iP _) bM)))) (mJ (F:=jC) (aK (aX 3) (aK (iP _) bM)) oz)) bM))) J8) (gW 5))
  (jX (lK (uA BG (lF _) (aK (uD (Ih (aX 5)) (zd (uB (gW 0) (uB (gW 1) zc))) qk (fR BH (aX 0) (fT BW (aK (aX 1) bM)))) bM)) (gW 6))
  (ze (zg (aK (fR Be (iP _) (aX 4)) bM)) (gW 7) (jX (lK (mJ (F:=uM) (aK (aX 3) (aK (aX 6) bM)) oz) (gW 6))
  (Bs (uA Br (aX 1) (aK (aX 6) bM))))))))))
  (lJ (fT Bq (aK (uD (zf (fR za (aX 1) (rQ Ic (aX 1)))) (gW 0) qk (mJ (F:=yd) (aK (aX 0) bM) uI)) bM))))) rfl h
end
def yf:(Str.ofString "-")=sO [45]:=by w_fin
def pz:(Str.ofString "s")=sO [115]:=by w_fin
def tP:(Str.ofString "t")=sO [116]:=by w_fin
def Cj:(Str.ofString "0")=sO [48]:=by w_fin
def yg:(Str.ofString " ")=⟨#[32]⟩:=by w_fin
def tQ:∀d:Fin 10,(!(Builtin.Str.occurrences (Str.ofString "0123456789") ⟨#[48+d.1]⟩ 0 (Str.ofString "0123456789").length 1).isEmpty)=true:=by w_fin
def tR:∀i:Fin 10,(Str.ofString "0123456789").cps.extract i.1 (i.1+1)=#[48+i.1]:=by w_fin
def Ks:(Str.ofString "0123456789").length=10:=by w_fin
def FA(c:Nat):(!(Builtin.Str.occurrences (Str.ofString "0123456789") ⟨#[c]⟩ 0 (Str.ofString "0123456789").length 1).isEmpty)=decide (48<=c/\c<=57):=by
 by_cases h:48<=c/\c<=57
 have:=tQ ⟨c-48,by lk⟩
 rw[show 48+(⟨c-48,by lk⟩:Fin 10).1=c by show 48+(c-48)=c;lk]at this;rw[this,decide_eq_true h];rw[decide_eq_false h,W.occ_nil_of_no];rfl;intro i hi;have h1:(⟨#[c]⟩:Str).length=1:=rfl;rw[h1,Ks]at hi;have e:=tR ⟨i,by lk⟩;unfold Builtin.Str.subAt;rw[h1];have e':(Str.ofString "0123456789").cps.extract i (i+1)=#[48+i]:=e;rw[e'];have hne:¬(48+i=c):=by lk
 simp[hne]
def Kt(l:List Nat):PySem.Txt.startswith (sO l) (Str.ofString "-")=decide (l.head?=some 45):=by
 rw[yf];cases l with
 |nil=>decide +kernel
 |cons c l =>
  simp[PySem.Txt.startswith,Builtin.Str.subAt,sO,Str.length];rw[MD];simp
def uP(l:List Nat):PySem.Txt.slice (sO l) (some 1) none=sO l.tail:=by
 cases l with
 |nil=>decide +kernel
 |cons a l=>rw[JG (by rw[jI];simp),iR];rfl
def Ck(l:List Nat):PySem.Txt.slice (sO l) none (some 1)=sO (l.take 1):=by
 cases l with
 |nil=>decide +kernel
 |cons a l=>rw[JF (by rw[jI];simp),iR]
def FC{l:List Nat}(h:l.head?=some 45):aO l=l.tail:=by
 cases l with
 |nil=>cases h
 |cons a l=>cases h;rfl
def Ku{st:Store}{l:List Nat}(hl:l.length<=1000):Wp (xY [.str (sO l),.int 4] st) λd st'=>d=.bl (nB l)/\Ex [] st st':=by
 refine kM ?_;show Ws (zI [some (.str (sO l)),some (.int 4),none] st) _ _ _ _;unfold zI;refine bN (eu ?_);k_lt Z;refine Z _ _ (bN (zj (N:=λI s=>I=[some (.str (sO l)),some (.int 4),some (.str (sO (aO l)))]/\s=st) (iw ?_) ?_));clear Z;exists _,Z,JE;rw[Kt];refine⟨rfl,Z _ _ ⟨λh=>eu ?_,λh=>iK ⟨?_,rfl⟩⟩⟩;clear Z;exists _,Z,ow;refine⟨ft (by rw[jI];lk),Z _ _ ⟨?_,rfl⟩⟩;rw[uP,FC (of_decide_eq_true h)];rfl;rw[xn (of_decide_eq_false h)];rfl;rintro I s ⟨rfl,rfl⟩;have hf:(aO l).length<=1000:=by
  unfold aO;split;simp at hl;lk;exact hl
 have hlen:=jI (aO l);generalize hF:aO l=F at hf hlen;have eB:nB l=decide (1<=F.length/\F.length<=4/\F.head?≠some 48/\∀c∈F,48<=c/\c<=57):=by unfold nB;rw[hF]
 rw[eB];clear Z;refine bN (iw ?_);exists _,Z,zy;rw[hlen];refine⟨ft ⋯,?_⟩;by_cases c1:F.length<1;rw[decide_eq_true (show((F.length:Int)<1) by lk),if_pos rfl];refine Z _ _ ⟨λ_=>fU ?_,λh=>absurd h ∅⟩;k_lt2 Z;exact Z _ _ ⟨by rw[decide_eq_false ⋯],Ex.refl⟩;rw[decide_eq_false (show ¬((F.length:Int)<1) by lk),if_neg LC];refine⟨ft ⋯,?_⟩;by_cases c2:F.length > 4;rw[decide_eq_true (show((F.length:Int) > 4) by lk),if_pos rfl];refine Z _ _ ⟨λ_=>fU ?_,λh=>absurd h ∅⟩;k_lt2 Z;exact Z _ _ ⟨by rw[decide_eq_false ⋯],Ex.refl⟩;rw[decide_eq_false (show ¬((F.length:Int) > 4) by lk),if_neg LC];cases F with
 |nil=>simp at c1
 |cons c r =>
  refine⟨ft ⋯,c,by rw[iR];exact oP (j:=0) rfl,?_⟩;have e0:((⟨#[c]⟩:Str)=Str.ofString "0")↔c=48:=by
   rw[Cj,show(⟨#[c]⟩:Str)=sO [c]from rfl,mq];simp
  refine Z _ _ ⟨λh=>fU ?_,λh=>iK (fU ?_)⟩;have h:=e0.mp (of_decide_eq_true h);k_lt2 Z;exact Z _ _ ⟨by rw[decide_eq_false (by rw[h];simp)],Ex.refl⟩;have h:¬c=48:=λz=>absurd (e0.mpr z) (of_decide_eq_false h);k_lt2 Z;refine zp (j2 (sO (c :: r))) (λd=>match d with|.str x=>.bl (decide (∀y∈x.cps.toList,48<=y/\y<=57))|_=>.non) ?_ (by simp[j2,sO];simp at hf;lk) ?_ ?_;exists _,fE,EL;exact⟨by rw[hlen];lk,fE _ _ ⟨zo _ _,Ex.refl⟩⟩;intro d hd st2 k2;obtain⟨z,hz,rfl⟩:=LX.mp hd;exists _,fE,EM,FA;exact fE _ _ ⟨by simp,Ex.refl⟩;intro st2 k2;have e1:(j2 (sO (c :: r))).map (λd=>match d with|.str x=>.bl (decide (∀y∈x.cps.toList,48<=y/\y<=57))|_=>.non)=((c :: r).map λy=>decide (48<=y/\y<=57)).map D.bl:=by
   unfold j2;rw[iR,Mz,Mz];refine M8 λy _=>?_;simp
  rw[e1];refine EA.mpr ⟨_,_,iL,y8 (f:=bV) (g:=D.bl) (k:=id) (λ_=>rfl) _,?_⟩;refine Z _ _ ⟨?_,k2.app _⟩
  congr 1
  rw[MD,decide_eq_true_iff];simp[h]at c2 ⊢;lk
abbrev bS(l:List Nat):Prop:=∀c∈l,c<1114112
def uQ{l:List Nat}(h:bS l)(n:Nat):pU n (.str (sO l)):=by
 have e:PyData.canLay0 (.str (sO l))=true:=by
  simp only[PyData.canLay0,PyData.strOk,<- Array.all_toList];rw[iR,Nm];intro c hc;exact decide_eq_true (h c hc)
 cases n<;>exact e
abbrev hS:List Nat->Option D
 |[]=>none
 |a :: n=>if(a=115/\nB n=true)\/(a=116/\(n=[49]\/n=[50]\/n=[51]))then some (.tup [.str (sO [a]),.int ((PySem.intText? (sO n)).getD 0)])else none
abbrev Bad(d:D)(s:Store):Prop:=∃j,d=.ref j/\s[j]?=some (.exc "NoText" [("row",.int 0)])
def tS{n:List Nat}(h:nB n=true):∃k:Int,PySem.intText? (sO n)=some k/\n.length<=5:=by obtain⟨a,b,c,d⟩:=of_decide_eq_true h;obtain⟨k,e,_⟩:=B2 a b d;refine⟨k,e,?_⟩;unfold aO at b;split at b;simp;lk;lk
def Cm:Str.ofString "1" = sO [49]/\Str.ofString "2" = sO [50]/\Str.ofString "3" = sO [51]:=by w_fin
def uR:PySem.intText? (sO [49])=some 1/\PySem.intText? (sO [50])=some 2/\PySem.intText? (sO [51])=some 3:=by w_fin
def Kv{st:Store}{l:List Nat}(hl:l.length<=1000)(hc:bS l):Wp (x3 [.str (sO l)] st) λd st'=>Ex [] st st'/\((ak d st'=false/\hS l=some d)\/(ak d st'=true/\hS l=none/\Bad d st')):=by
 refine kM ?_;show Ws (zJ [some (.str (sO l)),none,none] st) _ _ _ _;unfold zJ;have hsz:=jI l;have ht:l.tail.length<=1000:=by rw[List.length_tail];lk
 have hct:bS l.tail:=λc h=>hc c (List.mem_of_mem_tail h);refine bN (xA (eu ?_));exists _,Z,ow;refine⟨ft ⋯,?_⟩;rw[Ck];refine Z _ _ (bN (xA (eu ?_)));clear Z;exists _,Z,ow;refine⟨ft ⋯,?_⟩;rw[uP];refine Z _ _ (bN (xA (iw ?_)));clear Z;exists _,Z,sD;rw[pz];have last:∀s1:Store,Ex [] st s1->hS l=none->Ws (eP "NoText" ["row"] (ae (fC (.int 0)) aj) [some (.str (sO l)),some (.str (sO (l.take 1))),some (.str (sO l.tail))] s1) (λ_ st1=>Ex [] st st1/\((ak .non st1=false/\hS l=some .non)\/(ak .non st1=true/\hS l=none/\Bad .non st1))) (λ_ _=>False) (λ_ _=>False) (λd st'=>Ex [] st st'/\((ak d st'=false/\hS l=some d)\/(ak d st'=true/\hS l=none/\Bad d st'))):=λs1 k1 hn=>by
  refine JS ?_;k_lt Z;exact Z _ _ ⟨k1.app _,.inr ⟨Fj,hn,_,rfl,jZ⟩⟩
 have FD:∀s1:Store,Ex [] st s1->(¬∃n,l=115 :: n/\nB n=true)->Ws (ay (pe (gb (l9 (ax (aC (eM false) (ag 1) (fC (.str "t")))) (ax (aC (jv false) (ag 2) (fC (.tup [(.str "1"),(.str "2"),(.str "3")]))))) (bB (fA (ae (ag 1) (ae (br fN (ae (ag 2) aj)) aj)))) bu))
 (eP "NoText" ["row"] (ae (fC (.int 0)) aj)) [some (.str (sO l)),some (.str (sO (l.take 1))),some (.str (sO l.tail))] s1) (λ_ st1=>Ex [] st st1/\((ak .non st1=false/\hS l=some .non)\/(ak .non st1=true/\hS l=none/\Bad .non st1))) (λ_ _=>False) (λ_ _=>False) (λd st'=>Ex [] st st'/\((ak d st'=false/\hS l=some d)\/(ak d st'=true/\hS l=none/\Bad d st'))):=λs1 k1 hno=>by
  refine bN (xA (iw ?_));clear Z;exists _,Z,sD;rw[tP];by_cases hb:l.take 1=[116];rw[decide_eq_true (mq.mpr hb),if_pos rfl,Cm.1,Cm.2.1,Cm.2.2];obtain⟨n,rfl⟩:∃n,l=116 :: n:=by
   cases l with
   |nil=>cases hb
   |cons a n=>cases hb;exact⟨n,rfl⟩
  rw[BU (es:=[D.str (sO [49]),D.str (sO [50]),D.str (sO [51])]) (n:=1) (uQ hct 1) rfl (λe he=>by
   simp only[LO,Mb,or_false]at he
   rcases he with rfl|rfl|rfl<;>exact uQ (λc h=>by simp at h;lk) 1) ∅]
  have hm:D.str (sO n)∈[D.str (sO [49]),D.str (sO [50]),D.str (sO [51])]↔(n=[49]\/n=[50]\/n=[51]):=by
   simp[mq]
  have e9:(116 :: n).tail=n:=rfl;refine⟨_,rfl,Z _ _ ⟨λh=>fU ?_,λh=>iK (last s1 k1 ?_)⟩⟩;have h:=hm.mp (by simpa using h);obtain⟨k,hk,hkn⟩:∃k:Int,PySem.intText? (sO n)=some k/\n.length<=5:=by
   rcases h with rfl|rfl|rfl
   exact⟨1,uR.1,by decide⟩;exact⟨2,uR.2.1,by decide⟩;exact⟨3,uR.2.2,by decide⟩
  k_lt2 Z;rw[e9,BZ hk (by rw[jI];lk)];refine⟨rfl,Z _ _ ⟨rfl,k1,.inl ⟨rfl,?_⟩⟩⟩;show(if _ then _ else _)=_;rw[if_pos (.inr ⟨rfl,h⟩),hk];rfl;have h:¬(n=[49]\/n=[50]\/n=[51]):=λz=>absurd (hm.mpr z) (by simpa using h);show(if _ then _ else _)=_;refine if_neg λz=>?_;rcases z with⟨z,_⟩|⟨_,z⟩
  cases z;exact h z;rw[decide_eq_false (λz=>hb (mq.mp z)),if_neg LC];refine Z _ _ ⟨λh=>absurd h ∅,λ_=>iK (last s1 k1 ?_)⟩;cases l with
  |nil=>rfl
  |cons a n =>
   refine if_neg λz=>?_;rcases z with⟨rfl,z⟩|⟨rfl,_⟩
   exact hno ⟨n,rfl,z⟩;exact hb rfl
 by_cases ha:l.take 1=[115];rw[decide_eq_true (mq.mpr ha),if_pos rfl];obtain⟨n,rfl⟩:∃n,l=115 :: n:=by
  cases l with
  |nil=>cases ha
  |cons a n=>cases ha;exact⟨n,rfl⟩
 refine bf (Ku (l:=n) ht) ?_;rintro d s1 ⟨rfl,k1⟩;refine⟨_,rfl,Z _ _ ⟨λh=>fU ?_,λh=>iK ?_⟩⟩;obtain⟨k,hk,hkn⟩:=tS h;k_lt2 Z;have e9:(115 :: n).tail=n:=rfl;rw[e9,BZ hk (by rw[jI];lk)];refine⟨rfl,Z _ _ ⟨rfl,k1,.inl ⟨rfl,?_⟩⟩⟩;show(if _ then _ else _)=_;rw[if_pos (.inl ⟨rfl,h⟩),hk];rfl;exact FD s1 k1 (by rintro⟨m,e,z⟩;cases e;rw[h]at z;cases z);rw[decide_eq_false (λz=>ha (mq.mp z)),if_neg LC];exact Z _ _ ⟨λh=>absurd h ∅,λ_=>iK (FD st Ex.refl (by rintro⟨m,rfl,_⟩;exact ha rfl))⟩
open Classical in
def Kw{st:Store}{Q:D->Store->Prop}{neg:Bool}{n a b:Nat}{ds es:List D}(ha:items st a=some ds)(hb:items st b=some es)(h1:∀d∈ds,pU n d)(h2:∀d∈es,pU n d)(hn:n<=14):Wp (jV neg (.ref a) (.ref b) st) Q↔Q (.bl (if neg then !decide (ds=es)else decide (ds=es))) st:=by
 have p1:∀(i:Nat) (l:List D),items st i=some l->(∀d∈l,pU n d)->gD st 20 (.ref i)=some (.list (l.map (fe n))):=λi l h hl=>by
  simp only[gD,h];rw[zw (g:=fe n) λx hx=>zx n x (hl x hx) 19 ⋯ st];rfl
 have e:PyData.eqv (.list (ds.map (fe n))) (.list (es.map (fe n)))=decide (ds=es):=by
  rw[Jj];have:=BQ (BR n) ds es h1 h2;cases h:PyData.eqvAll (ds.map (fe n)) (es.map (fe n))with
  |true=>exact(decide_eq_true (this.mp h)).symm
  |false=>exact(decide_eq_false λz=>by rw[this.mpr z]at h;cases h).symm
 have ly:∀l:List D,(∀d∈l,pU n d)->PyData.canLay0 (.list (l.map (fe n)))=true/\PyData.depth (.list (l.map (fe n)))<=n+1:=λl hl=>by
  refine⟨?_,?_⟩;show PyData.canLayAll0 (l.map (fe n))=true;exact BO λx hx=>by
   obtain⟨d,hd,rfl⟩:=LX.mp hx;exact(uF n d (hl d hd)).1
  show PyData.depthAll (l.map (fe n))+1<=n+1
  have:=BP (n:=n) (l:=l.map (fe n)) λx hx=>by
   obtain⟨d,hd,rfl⟩:=LX.mp hx;exact(uF n d (hl d hd)).2
  lk
 rw[EB];constructor;rintro⟨p,q,e1,e2,_,h⟩;rw[p1 a ds ha h1]at e1;rw[p1 b es hb h2]at e2;cases e1;cases e2;rw[e]at h;exact h;intro h;refine⟨_,_,p1 a ds ha h1,p1 b es hb h2,⟨(ly ds h1).1,(ly es h2).1,?_⟩,?_⟩
 have:=(ly ds h1).2
 lk;rw[e];exact h
def Kx{n:List Nat}(h:bS n):bS (aO n):=by unfold aO;split;exactλc hc=>h c (LQ _ hc);exact h
def Ky(n:List Nat):(aO n).length<=n.length:=by unfold aO;split;simp;exact LI _
def uS:tx 1=sO [49]/\tx 2=sO [50]/\tx 3=sO [51]:=by w_fin
def Kz{a:Nat}{n:List Nat}{k:Int}(d:∀c∈aO n,48<=c/\c<=57)(h1:1<=(aO n).length)(h4:(aO n).length<=4)(hk:PySem.intText? (sO n)=some k)(ha:a=115\/a=116):
  (tx k=sO n/\k≠0/\(a=115\/(0<k/\k<4)))↔((a=115/\nB n=true)\/(a=116/\(n=[49]\/n=[50]\/n=[51]))):=by
 obtain⟨k',hk',hb⟩:=B2 h1 h4 d;rw[hk]at hk';cases hk';constructor;rintro⟨e,h0,h⟩;rcases ha with rfl|rfl
 refine .inl ⟨rfl,?_⟩
 have:=xr h0 hb;rw[e,iR]at this;exact this
 rcases h with h|⟨p,q⟩
 cases h;refine .inr ⟨rfl,?_⟩;rcases(show k=1\/k=2\/k=3 by lk)with rfl|rfl|rfl
 rw[uS.1,mq]at e;exact .inl e.symm;rw[uS.2.1,mq]at e;exact .inr (.inl e.symm);rw[uS.2.2,mq]at e;exact .inr (.inr e.symm);rintro(⟨rfl,h⟩|⟨rfl,h⟩);obtain⟨j,j0,j1,e⟩:=xq h
 have:PySem.intText? (tx j)=some j:=by
  rcases(show j=(j.natAbs:Int)\/j=-(j.natAbs:Int) by lk)with z|z
  rw[z];exact tm ⋯ j1;rw[z];exact JI ⋯ j1
 rw[e,this]at hk;cases hk;exact⟨e.symm,j0,.inl rfl⟩;rcases h with rfl|rfl|rfl
 rw[uR.1]at hk;cases hk;exact⟨uS.1,by decide,.inr ∅⟩;rw[uR.2.1]at hk;cases hk;exact⟨uS.2.1,by decide,.inr ∅⟩;rw[uR.2.2]at hk;cases hk;exact⟨uS.2.2,by decide,.inr ∅⟩
def zR{a:Nat}{n:List Nat}(h:¬((∀c∈aO n,48<=c/\c<=57)/\1<=(aO n).length/\(aO n).length<=4/\(a=115\/a=116))):hS (a :: n)=none:=by refine if_neg ?_;rintro(⟨rfl,z⟩|⟨rfl,z⟩);obtain⟨p,q,_,r⟩:=of_decide_eq_true z;exact h ⟨r,p,q,.inl rfl⟩;refine h ?_;rcases z with rfl|rfl|rfl<;>exact⟨by decide,by decide,by decide,.inr rfl⟩
def yh{x:Int}(h:x.natAbs<10000):x.natAbs.log2<1920:=by
 by_cases h0:x.natAbs=0;rw[h0];decide
 have:=(Nat.log2_lt h0).mpr (show x.natAbs<2 ^ 14 by lk)
 lk
def KA{st:Store}{l:List Nat}(hl:l.length<=1000)(hc:bS l):Wp (zH [.str (sO l)] st) λd st'=>d=(hS l).getD .non/\Ex [] st st':=by
 refine kM ?_;show Ws (xT [some (.str (sO l)),none,none,none,none] st) _ _ _ _;unfold xT;have hsz:=jI l;have ht:l.tail.length<=1000:=by rw[List.length_tail];lk
 have hct:bS l.tail:=λc h=>hc c (List.mem_of_mem_tail h);refine bN (eu ?_);exists _,Z,ow;refine⟨ft ⋯,?_⟩;rw[uP];refine Z _ _ (bN (zj (N:=λI s=>I=[some (.str (sO l)),some (.str (sO (aO l.tail))),none,none,none]/\s=st) (iw ?_) ?_))
 ·clear Z
  exists _,Z,ow,sD;refine⟨ft (by rw[jI];lk),?_⟩;rw[Ck,yf];refine Z _ _ ⟨λh=>eu ?_,λh=>iK ⟨?_,rfl⟩⟩
  ·clear Z
   exists _,Z,ow;refine⟨ft (by rw[jI];lk),Z _ _ ⟨?_,rfl⟩⟩;have h:=mq.mp (of_decide_eq_true h);rw[uP,FC (l:=l.tail) (by cases hh:l.tail with|nil=>rw[hh]at h;cases h|cons x r=>rw[hh]at h;cases h;rfl)];rfl
  ·have h:¬l.tail.take 1=[45]:=λz=>absurd (mq.mpr z) (of_decide_eq_false h)
   rw[xn (l:=l.tail) (λz=>h (by cases hh:l.tail with|nil=>rw[hh]at z;cases z|cons x r=>rw[hh]at z;cases z;rfl))];rfl
 ·rintro I s ⟨rfl,rfl⟩
  have hf:(aO l.tail).length<=1000:=L5 (Ky _) ht;have hcf:bS (aO l.tail):=Kx hct;clear Z;refine bN (eu ?_);refine bX ?_;intro cW Z;refine JA (j2 (sO (aO l.tail))) (λd=>match d with|.str x=>!decide (∀y∈x.cps.toList,48<=y/\y<=57)|_=>false) id ?_ (by simp[j2,sO];lk) ?_ ?_ ?_
  ·refine bX ?_
   intro kQ fE;exists EL;exact⟨by rw[jI];lk,fE _ _ ⟨zo _ _,Ex.refl⟩⟩
  ·intro d hd st2 k2
   obtain⟨z,hz,rfl⟩:=LX.mp hd;exists _,fE,EM,FA;exact fE _ _ ⟨by simp,Ex.refl⟩
  ·intro d hd _ st2 k2
   exact aB.mpr ⟨rfl,Ex.refl⟩
  ·intro st2 k2
   have hod:∀d∈((j2 (sO (aO l.tail))).filter (λd=>match d with|.str x=>!decide (∀y∈x.cps.toList,48<=y/\y<=57)|_=>false)).map id,pU 1 d:=λd hd=>by
    rw[List.map_id,List.mem_filter]at hd;obtain⟨z,hz,rfl⟩:=LX.mp hd.1;rw[iR]at hz;exact uQ (l:=[z]) (λc h=>by rw[MC.mp h];exact hcf z hz) 1
   have mI:((j2 (sO (aO l.tail))).filter (λd=>match d with|.str x=>!decide (∀y∈x.cps.toList,48<=y/\y<=57)|_=>false)).map id=[]↔∀c∈aO l.tail,48<=c/\c<=57:=by
    rw[List.map_id,List.filter_eq_nil_iff];unfold j2;rw[iR];simp
   generalize ((j2 (sO (aO l.tail))).filter (λd=>match d with|.str x=>!decide (∀y∈x.cps.toList,48<=y/\y<=57)|_=>false)).map id=od at hod mI ⊢;refine Z _ _ (bN (iw ?_));clear Z;refine bX ?_;intro KC;intro Z;exists ow,zy,Fq;have no:∀s3:Store,Ex [] s s3->hS l=none->KC true s3:=λs3 k3 hn=>by
    refine Z _ _ ⟨λ_=>fU ?_,λh=>absurd h ∅⟩;refine aB.mpr ⟨?_,k3⟩;rw[hn];rfl
   have k3:Ex [] s (st2 ++ [O.lst od]):=k2.app _;refine⟨ft ⋯,rfl,?_⟩
   rw[Ck,pz,tP,BU (es:=[D.str (sO [115]),D.str (sO [116])]) (n:=1) (uQ (λc h=>hc c (MS h)) 1) rfl (λe he=>by
    simp only[LO,Mb,or_false]at he
    rcases he with rfl|rfl<;>exact uQ (λc h=>by simp at h;lk) 1) ∅]
   have hm:D.str (sO (l.take 1))∈[D.str (sO [115]),D.str (sO [116])]↔(l.take 1=[115]\/l.take 1=[116]):=by simp[mq]
   refine⟨_,rfl,?_⟩;by_cases h1:l.take 1=[115]\/l.take 1=[116]
   rotate_left
   ·have hm':¬D.str (sO (l.take 1))∈[D.str (sO [115]),D.str (sO [116])]:=λz=>h1 (hm.mp z)
    rw[if_pos (by simpa using hm')];refine no _ k3 ?_;cases l with
    |nil=>rfl
    |cons a n=>exact zR λ⟨_,_,_,z⟩=>h1 (by rcases z with rfl|rfl<;>simp)
   rw[if_neg (by simp[hm.mpr h1])];obtain⟨a,n,rfl,ha⟩:∃a n,l=a :: n/\(a=115\/a=116):=by
    cases l with
    |nil=>simp at h1
    |cons a n=>exact⟨a,n,rfl,by simpa using h1⟩
   have et:(a :: n).tail=n:=rfl;rw[et]at hf hcf mI;refine⟨rfl,?_⟩;have i1:items (st2 ++ [O.lst od] ++ [O.lst []]) st2.length=some od:=qq iL (Ex.cD _);rw[Kw (n:=1) i1 iL hod (λd hd=>nomatch hd) ∅];refine⟨_,rfl,?_⟩;by_cases h2:od=[]
   rotate_left
   ·rw[if_pos (by simp[h2])]
    exact no _ (k3.app _) (zR λz=>h2 (mI.mpr z.1))
   rw[if_neg (by simp[h2])];have hd:=mI.mp h2;have KD:=jI (aO n);rw[et,KD];refine⟨ft ⋯,?_⟩;by_cases h3:0<(aO n).length
   rotate_left
   ·exact .inr ⟨decide_eq_false ⋯,no _ (k3.app _) (zR λz=>h3 z.2.1)⟩
   refine .inl ⟨decide_eq_true ⋯,?_⟩;by_cases h4:(aO n).length<5
   rotate_left
   ·rw[decide_eq_false (show ¬(((aO n).length:Int)<5) by lk)]
    exact no _ (k3.app _) (zR λz=>h4 ⋯)
   rw[decide_eq_true (show(((aO n).length:Int)<5) by lk)];refine Z _ _ ⟨λh=>absurd h ∅,λ_=>iK (bN (eu ?_))⟩;clear Z no;have k4:Ex [] s (st2 ++ [O.lst od] ++ [O.lst []]):=k3.app _;generalize st2 ++ [O.lst od] ++ [O.lst []]=s4 at k4;obtain⟨k,hk,oh⟩:=B2 (n:=n) ⋯ ⋯ hd;have hnl:n.length<=5:=by
    unfold aO at h4;split at h4
    ·simp;lk
    ·lk
   have gi:=Kz (a:=a) hd ⋯ ⋯ hk ha;exists _,Z,ow;refine⟨ft ⋯,?_⟩;rw[uP,et,BZ hk (by rw[jI];lk)];refine Z _ _ (bN (eu ?_));clear Z;refine bX ?_;intro KG;intro Z;exists ow,Fq,EY (yh oh),sD;have fin:∀b:Bool,(b=true↔((a=115/\nB n=true)\/(a=116/\(n=[49]\/n=[50]\/n=[51]))))->KG (.bl b) s4:=λb hb=>by
    refine Z _ _ (fU ?_);k_lt2 Z;refine⟨ft ⋯,a,by rw[iR];exact oP (j:=0) rfl,?_⟩;refine⟨rfl,rfl,?_⟩;cases b with
    |true =>
     refine⟨_,rfl,Z _ _ ⟨?_,k4.app _⟩⟩;show _=Option.getD (if _ then _ else _) _;rw[if_pos (hb.mp rfl),hk];rfl
    |false =>
     refine⟨_,rfl,Z _ _ ⟨?_,k4.app _⟩⟩;show _=Option.getD (if _ then _ else _) _;rw[if_neg (λz=>absurd (hb.mpr z) ∅)];rfl
   refine⟨ft ⋯,?_⟩;rw[uP,et];by_cases g1:Str.ofString (toString k)=sO n
   rotate_left
   ·rw[decide_eq_false g1,if_neg LC]
    exact fin false ⟨λh=>absurd h ∅,λh=>absurd (gi.mpr h).1 g1⟩
   rw[decide_eq_true g1,if_pos rfl];by_cases g2:k=0
   ·rw[decide_eq_true g2,if_neg ∅]
    exact fin false ⟨λh=>absurd h ∅,λh=>absurd g2 (gi.mpr h).2.1⟩
   rw[decide_eq_false g2,if_pos ∅];refine⟨ft ⋯,a,by rw[iR];exact oP (j:=0) rfl,?_⟩;have ea:((⟨#[a]⟩:Str)=Str.ofString "s")↔a=115:=by
    rw[pz,show(⟨#[a]⟩:Str)=sO [a]from rfl,mq];simp
   by_cases g3:a=115
   ·rw[decide_eq_true (ea.mpr g3),if_pos rfl]
    exact fin true ⟨λ_=>gi.mp ⟨g1,g2,.inl g3⟩,λ_=>rfl⟩
   rw[decide_eq_false (λz=>g3 (ea.mp z)),if_neg LC];by_cases g4:0<k
   ·refine .inl ⟨decide_eq_true g4,fin _ ⟨λh=>gi.mp ⟨g1,g2,.inr ⟨g4,of_decide_eq_true h⟩⟩,λh=>?_⟩⟩
    rcases(gi.mpr h).2.2 with z|z
    ·exact absurd z g3
    ·exact decide_eq_true z.2
   ·refine .inr ⟨decide_eq_false g4,fin _ ⟨λh=>absurd h ∅,λh=>?_⟩⟩
    rcases(gi.mpr h).2.2 with z|z
    ·exact absurd z g3
    ·exact absurd z.1 g4
abbrev fg(t:Str):List Str:=PySem.Txt.split t ⟨#[32]⟩
abbrev fS(w:Str):Option D:=hS w.cps.toList
abbrev fF(t:Str)(d:D):Prop:=(t=Str.ofString "." /\ d=.tup [])\/(¬t=Str.ofString "." /\ ∃ys,(fg t).map fS=ys.map some/\d=.tup ys)
abbrev jD(t:Str):Prop:=¬t=Str.ofString "." /\ ∃w∈fg t,fS w=none
def FE:∀{a b:List D},a.map some=b.map some->a=b
 |[],[],_=>rfl
 |[],_ :: _,h=>by cases h
 |_ :: _,[],h=>by cases h
 |x :: a,y :: b,h=>by
  rw[Mt,Mt]at h;injection h with h1 h2;cases h1;rw[FE h2]
def fF.uniq{t:Str}{d e:D}(h:fF t d)(g:fF t e):d=e:=by
 rcases h with⟨h,rfl⟩|⟨h,ys,e1,rfl⟩<;>rcases g with⟨g,rfl⟩|⟨g,zs,e2,rfl⟩
 rfl;exact absurd h g;exact absurd g h;rw[e1]at e2;rw[FE e2]
def jD.not{t:Str}{d:D}(h:jD t)(g:fF t d):False:=by
 obtain⟨h0,w,hw,e⟩:=h;rcases g with⟨g,_⟩|⟨_,ys,e1,_⟩
 exact h0 g
 have:=M9 (f:=fS) hw
 rw[e1,e]at this;obtain⟨_,_,z⟩:=LX.mp this;cases z
def zS{t:Str}{w:Str}(h:w∈fg t):w.length<=t.length/\(fg t).length<=t.length+1:=by have a:=Ff h;have b:eO (fg t)=t.length+1:=B5 t 32;have c:=Fg (fg t);have:0<(fg t).length:=List.length_pos_of_mem h;lk
def zT(t:Str):(fg t).length<=t.length+1:=by have b:eO (fg t)=t.length+1:=B5 t 32;have c:=Fg (fg t);lk
def FF:∀{ws:List Str} {w:Str} {c:Nat},w∈ws->c∈w.cps.toList->c∈(Str.join ⟨#[32]⟩ ws).cps.toList
 |[w],_,c,h,hc=>by
  rw[MC.mp h]at hc;have:Str.join ⟨#[32]⟩ [w]=w:=by simp[Str.join]
  rw[this];exact hc
 |w :: u :: r,x,c,h,hc=>by
  rw[tj];rcases LO.mp h with rfl|h
  exact Mm _ hc;exact LK _ (LQ _ (FF h hc))
def Cn{t w:Str}(hc:bS t.cps.toList)(h:w∈fg t):bS w.cps.toList:=λc z=>hc c (by
 have:=FF h z
 rwa [show Str.join ⟨#[32]⟩ (fg t)=t from StrLaws.join_split _ _]at this)
def tT{l:List Nat}{d:D}(h:hS l=some d):pU 2 d:=by
 cases l with
 |nil=>cases h
 |cons a n =>
  have h:(if _ then _ else _)=some d:=h;split at h
  ·next z =>
   cases h;intro d hd;simp only[LO,Mb,or_false]at hd;rcases hd with rfl|rfl
   ·refine uQ (λc hc=>?_) 1
    rw[MC.mp hc];rcases z with⟨rfl,_⟩|⟨rfl,_⟩<;>decide
   ·trivial
  ·cases h
def n8:(16777216:Nat)=sizeLine:=rfl
abbrev gS(d:D):D:=match d with
 |.str x=>(fS x).getD .non
 |_=>.non
def KH{st:Store}{t:Str}(hl:t.length<=900)(hc:bS t.cps.toList):Wp (xW [.str t] st) λd st'=>(fF t d\/(jD t/\d=.non))/\Ex [] st st':=by
 have hp:=zT t;have hz:=n8;refine kM ?_;show Ws (xV [some (.str t),none] st) _ _ _ _;unfold xV;refine bN (iw ?_);exists _,Z,sD;refine Z _ _ ⟨λh=>fU ?_,λh=>iK (bN (eu ?_))⟩;k_lt2 Z;exact⟨rfl,Z _ _ ⟨.inl (.inl ⟨of_decide_eq_true h,rfl⟩),Ex.refl⟩⟩;have h:=of_decide_eq_false h;clear Z;refine bX ?_;intro cW Z;refine zp ((fg t).map D.str) gS ?_ (by rw[LG];lk) ?_ ?_;k_lt fE;rw[yg,BX (by w_fin) ⋯ (show(fg t).length<=_ by lk)];exact⟨rfl,_,rfl,_,iL,fE _ _ ⟨BE iL,Ex.cD _⟩⟩;intro d hd st1 k1;obtain⟨w,hw,rfl⟩:=LX.mp hd;k_lt fE;have e:=uE w;have KI:=(zS hw).1;rw[e];refine bf (KA (l:=w.cps.toList) (by rw[<- mr];lk) (Cn hc hw)) λy s2 ⟨hy,k2⟩=>fE _ _ ⟨?_,k2⟩;rw[hy];rfl;intro st1 k1;have el:∀d∈((fg t).map D.str).map gS,pU 2 d:=λd hd=>by
  obtain⟨x,hx,rfl⟩:=LX.mp hd;obtain⟨w,hw,rfl⟩:=LX.mp hx;show pU 2 ((fS w).getD .non);cases e:fS w with
  |none=>trivial
  |some y=>exact tT e
 have tU:D.non∈((fg t).map D.str).map gS↔∃w∈fg t,fS w=none:=by
  constructor;intro hd;obtain⟨x,hx,e⟩:=LX.mp hd;obtain⟨w,hw,rfl⟩:=LX.mp hx;refine⟨w,hw,?_⟩;have e:(fS w).getD .non=.non:=e;cases e2:fS w with
  |none=>rfl
  |some y =>
   rw[e2]at e;have e:y=.non:=e;subst e;unfold fS at e2;cases h9:w.cps.toList with
   |nil=>rw[h9]at e2;cases e2
   |cons a n =>
    rw[h9]at e2;have e2:(if _ then _ else _)=some D.non:=e2;split at e2<;>cases e2
  rintro⟨w,hw,e⟩;refine LX.mpr ⟨_,M9 hw,?_⟩;show(fS w).getD .non=.non;rw[e];rfl
 have yi:(¬∃w∈fg t,fS w=none)->(fg t).map fS=(((fg t).map D.str).map gS).map some:=λhn=>by
  rw[Mz,Mz];refine M8 λw hw=>?_;show fS w=some ((fS w).getD .non);cases e:fS w with
  |none=>exact absurd ⟨w,hw,e⟩ hn
  |some y=>rfl
 generalize ((fg t).map D.str).map gS=S at el tU yi ⊢;refine Z _ _ (fU ?_);clear Z;exists _,Z,iL;have i1:bT (st1 ++ [O.lst S] ++ [O.lst [D.tup S,D.non]]) (.ref st1.length)=some S:=qq iL (Ex.cD _);have k2:Ex [] st (st1 ++ [O.lst S] ++ [O.lst [D.tup S,D.non]]):=(k1.app _).app _;refine⟨rfl,?_⟩;rw[BU (n:=2) (a:=.non) trivial i1 el ∅,Ew,zi];by_cases hn:∃w∈fg t,fS w=none;refine⟨_,.non,iL,?_,Z _ _ ⟨.inr ⟨⟨h,hn⟩,rfl⟩,k2⟩⟩;have e:D.non∈S:=tU.mpr hn;simp only[e,decide_true,ML,if_false,if_true];rfl;refine⟨_,.tup S,iL,?_,Z _ _ ⟨.inl (.inr ⟨h,S,yi hn,rfl⟩),k2⟩⟩;have e:¬D.non∈S:=λz=>hn (tU.mp z);simp only[e,decide_false,ML,if_false,if_true];rfl
def KJ{st:Store}{t:Str}(hl:t.length<=900)(hc:bS t.cps.toList):Wp (x5 [.str t] st) λd st'=>Ex [] st st'/\((ak d st'=false/\fF t d)\/(ak d st'=true/\jD t/\Bad d st')):=by have hp:=zT t;have hz:=n8;refine kM ?_;show Ws (zK [some (.str t)] st) _ _ _ _;unfold zK;refine bN (xA (iw ?_));exists _,Z,sD;refine Z _ _ ⟨λh=>fU ?_,λh=>iK (J5 (tL ?_))⟩;k_lt2 Z;exact⟨rfl,Z _ _ ⟨rfl,Ex.refl,.inl ⟨rfl,.inl ⟨of_decide_eq_true h,rfl⟩⟩⟩⟩;have h:=of_decide_eq_false h;clear Z;refine bX ?_;intro cW Z;refine J4 ((fg t).map D.str) (λd=>match d with|.str x=>fS x|_=>none) Bad ?_ (by rw[LG];lk) ?_ ?_ ?_;k_lt fE;rw[yg,BX (by w_fin) ⋯ (show(fg t).length<=_ by lk)];exact⟨rfl,_,rfl,_,iL,fE _ _ ⟨BE iL,Ex.cD _⟩⟩;intro d hd st1 k1;obtain⟨w,hw,rfl⟩:=LX.mp hd;k_lt fE;have e:=uE w;have KI:=(zS hw).1;rw[e];refine bf (Kv (l:=w.cps.toList) (by rw[<- mr];lk) (Cn hc hw)) λy s2 q=>fE _ _ q;intro ys s1 e k1;rw[Mz]at e;refine Z _ _ ⟨λz=>absurd z (by rw[xC];decide),λ_=>?_⟩;clear Z;exists _,Z,iL;exact Z _ _ ⟨rfl,k1.app _,.inl ⟨rfl,.inr ⟨h,ys,e,rfl⟩⟩⟩;intro d y s1 hd hn hr hb k1;obtain⟨w,hw,rfl⟩:=LX.mp hd;exact Z _ _ ⟨λ_=>⟨k1,.inr ⟨hr,⟨h,w,hw,hn⟩,hb⟩⟩,λz=>by rw[hr]at z;cases z⟩
abbrev yj:Nat->D->Prop
 |_,.int _=>True
 |_,.str _=>True
 |_,.bl _=>True
 |_,.non=>True
 |n+1,.tup ds=>ds.length<100000/\∀d∈ds,yj n d
 |_,_=>False
def n9:ju (.tup [.ty "list",.ty "tuple"])=some ["list","tuple"]:=rfl
def zU{st:Store}{d:D}{T:String}{v:V}(m:Nat)(hT:∀st,jr st d=some T)(h1:bE T ["list","tuple"]=some false){b c:Bool}(h2:bE T ["bool"]=some b)(h3:bE T ["str"]=some c)(hv:sV d=some v)(hs:gZ v v=true):Wp (pq (m+1) [d,d] st) λr st'=>r=.bl true/\Ex [] st st':=by refine kM ?_;show Ws (uO (pq m) [some d,some d] st) _ _ _ _;unfold uO;refine bN (iw ?_);exists _,Z,pd (hT _) n9 h1;refine⟨rfl,Z _ _ ⟨λh=>absurd h ∅,λ_=>iK (bN (iw ?_))⟩⟩;clear Z;exists _,Z,pd (hT _) (show ju (.ty "bool")=some ["bool"]from rfl) h2,pd (hT _) (show ju (.ty "str")=some ["str"]from rfl) h3,BF;refine Z _ _ ⟨λh=>absurd h (by simp),λ_=>iK (fU ?_)⟩;clear Z;exists _,Z,Jy hv hs;exact Z _ _ ⟨rfl,Ex.refl⟩
def FG:∀(n:Nat) {st:Store} {d:D},yj n d->Wp (pq (n+1) [d,d] st) λr st'=>r=.bl true/\Ex [] st st'
 |n,st,.int i,_=>zU n (λ_=>rfl) rfl (b:=false) rfl (c:=false) rfl rfl rfl
 |n,st,.str x,_=>zU n (λ_=>rfl) rfl (b:=false) rfl (c:=true) rfl rfl rfl
 |n,st,.bl b,_=>zU n (λ_=>rfl) rfl (b:=true) rfl (c:=false) rfl rfl rfl
 |n,st,.non,_=>zU n (λ_=>rfl) rfl (b:=false) rfl (c:=false) rfl rfl rfl
 |n,st,.ty _,h=>by cases n<;>exact h.elim
 |n,st,.ref _,h=>by cases n<;>exact h.elim
 |0,st,.tup _,h=>h.elim
 |n+1,st,.tup ds,h=>by
  have hT:∀st,jr st (.tup ds)=some "tuple" := λ_=>rfl;refine kM ?_;show Ws (uO (pq (n+1)) [some (.tup ds),some (.tup ds)] st) _ _ _ _;unfold uO;refine bN (iw ?_);exists _,Z,pd (hT _) n9 (show bE "tuple" ["list","tuple"]=some true from rfl);refine⟨rfl,Z _ _ ⟨λ_=>bN (iw ?_),λh=>absurd h ∅⟩⟩;clear Z;exists _,Z,pd (hT _) (show ju (.ty "tuple")=some ["tuple"]from rfl) (show bE "tuple" ["tuple"]=some true from rfl),pd (hT _) (show ju (.ty "list")=some ["list"]from rfl) (show bE "tuple" ["list"]=some false from rfl),BF;refine Z _ _ ⟨λh=>absurd h (by simp),λ_=>iK (fU ?_)⟩;k_lt2 Z;simp only[decide_true,if_true];refine EW (ds.map λd=>(d,d)) (λ_=>.bl true) ?_ (by rw[LG];exact h.1) ?_ ?_;exists _,fE,Ju;refine⟨_,_,⟨rfl,rfl⟩,ds,rfl,ds,rfl,fE _ _ ⟨?_,Ex.refl⟩⟩;have e:=ER (λd:D=>d) (λd=>d) ds;rw[List.map_id']at e;rw[e,Mz];exact zo _ _;intro p hp st1 k1;obtain⟨d,hd,rfl⟩:=LX.mp hp;k_lt fE;exact bf (FG n (h.2 d hd)) λr s hr=>fE _ _ hr;intro st' k';have e:(ds.map λd=>(d,d)).map (λ_=>D.bl true)=List.replicate ds.length (.bl true):=by
   rw[Mz];exact List.map_const' ..
  rw[e];exists EH;refine Z _ _ ⟨?_,k'.app _⟩;simp
def KL{st:Store}{d:D}(h:yj 5 d):Wp (x8 [d,d] st) λr st'=>r=.bl true/\Ex [] st st':=FG 5 h
def tV{l:List Nat}{d:D}(h:hS l=some d):yj 4 d:=by
 cases l with
 |nil=>cases h
 |cons a n =>
  have h:(if _ then _ else _)=some d:=h;split at h;cases h;refine⟨by show 2<100000;decide,λd hd=>?_⟩;simp only[LO,Mb,or_false]at hd;rcases hd with rfl|rfl<;>trivial
  cases h
def KN{t:Str}{d:D}(hl:t.length<=900)(h:fF t d):yj 5 d/\∃ys,d=.tup ys:=by
 have hp:=zT t;rcases h with⟨_,rfl⟩|⟨_,ys,e,rfl⟩
 exact⟨⟨by show 0<100000;decide,λd hd=>nomatch hd⟩,_,rfl⟩;have e1:=congrArg List.length e;rw[LG,LG]at e1;refine⟨⟨by lk,λy hy=>?_⟩,_,rfl⟩;have:=M9 (f:=some) hy;rw[<- e]at this;obtain⟨w,_,ew⟩:=LX.mp this;exact tV ew
def KO{st:Store}{k:Nat}:Wp (ya k [.int 0,.int 0] st) λr st'=>r=.bl true/\Ex [] st st':=by have hT:∀st,jr st (.int 0)=some "int" := λ_=>rfl;refine kM ?_;show Ws (zL k [some (.int 0),some (.int 0)] st) _ _ _ _;unfold zL;refine bN (iw ?_);exists _,Z,pd (hT _) n9 (show bE "int" ["list","tuple"]=some false from rfl);refine⟨rfl,Z _ _ ⟨λh=>absurd h ∅,λ_=>iK (bN (iw ?_))⟩⟩;clear Z;exists _,Z,pd (hT _) (show ju (.ty "bool")=some ["bool"]from rfl) (show bE "int" ["bool"]=some false from rfl),pd (hT _) (show ju (.ty "str")=some ["str"]from rfl) (show bE "int" ["str"]=some false from rfl),BF;refine Z _ _ ⟨λh=>absurd h (by simp),λ_=>iK (fU ?_)⟩;k_lt2 Z;exact Z _ _ ⟨rfl,Ex.refl⟩
abbrev qz:List D:=[.bl true,.bl false,.bl false,.bl false,.bl false,.bl false,.bl false]
abbrev zV:PyData:=.list [.bool true,.bool false,.bool false,.bool false,.bool false,.bool false,.bool false]
def FH{st:Store}{g:Nat}(h:items st g=some qz):gD st 20 (.ref g)=some zV:=by simp only[gD,h];rfl
def tW:PyData.eqv zV zV=true:=by w_fin
def KP{st:Store}{j:Nat}{fs:List (Str×D)}(hj:st[j]?=some (.exc "NoText" fs)):Wp (yb j [.ref j,.int 0] st) λr st'=>r=.bl true/\Ex [] st st':=by refine kM ?_;show Ws (zM j [some (.ref j),some (.int 0),none] st) _ _ _ _;unfold zM;refine bN (eu ?_);exists _,Z,B7;refine j4 hj (j4 hj (j4 hj (j4 hj ⟨rfl,?_⟩)));refine Z _ _ (bN (eu ?_));clear Z;have k1:Ex [] st (st ++ [O.lst [.bl true,.bl false,.bl false,.bl false]]):=Ex.cD _;have hj1:=k1.keep _ _ hj (by simp);exists _,Z,B7;refine j4 hj1 (j4 hj1 (j4 hj1 ?_));refine⟨rfl,[.bl true,.bl false,.bl false,.bl false],?_,rfl,?_⟩;unfold own;rw[L0 (by simp),jZ];have k2:Ex [] st (st ++ [O.lst [.bl true,.bl false,.bl false,.bl false]] ++ [O.lst [.bl false,.bl false,.bl false]]):=k1.app _;generalize st ++ [O.lst [.bl true,.bl false,.bl false,.bl false]] ++ [O.lst [.bl false,.bl false,.bl false]]=s2 at k2 ⊢;have k3:Ex [] st (s2 ++ [O.lst qz]):=k2.app _;have i3:items (s2 ++ [O.lst qz]) s2.length=some qz:=iL;have Co:=k3.keep _ _ hj (by simp);refine Z _ _ (fU ?_);clear Z;show Wp ((dY _ _) [some (.ref j),some (.int 0),some (.ref s2.length)] (s2 ++ [O.lst qz])) _;generalize s2 ++ [O.lst qz]=s3 at k3 i3 Co ⊢;exists _,Z,B7;refine zp (aE 0 7) (λd=>D.bl (decide (inD d=0))) ?_ (by rw[kL];decide) ?_ ?_;refine J2 ?_;k_lt fE;exact fE _ _ ⟨7,rfl,by decide,tK Co,Ex.refl⟩;intro d hd s4 k4;rw[Jl]at hd;obtain⟨y,hy,rfl⟩:=Jm hd;exists _,fE,Mt,List.map_nil,List.getD_cons_succ,List.getD_cons_zero;exact fE _ _ ⟨rfl,Ex.refl⟩;intro s4 k4;have e7:(aE 0 7).map (λd=>D.bl (decide (inD d=0)))=qz:=rfl;rw[e7];have k5:Ex [] s3 (s4 ++ [O.lst qz]):=k4.app _;refine EB.mpr ⟨_,_,FH (qq i3 k5),FH iL,⟨rfl,rfl,by simp[zV,PyData.depth,PyData.depthAll]⟩,?_⟩;rw[tW];refine⟨_,rfl,?_⟩;rw[if_pos (by rfl)];exact j4 (k5.keep _ _ Co (by simp)) (Z _ _ ⟨rfl,k3.trans k5⟩)
def KQ{st:Store}{t:Str}(hl:t.length<=900)(hc:bS t.cps.toList):Wp (yd [.str t] st) λd st'=>d=.bl true/\Ex [] st st':=by
 refine kM ?_;show Ws (zN [some (.str t),none,none,none] st) _ _ _ _;unfold zN;refine bN (sI ?_);k_lt Z;refine bf (KH hl hc) ?_;rintro u s1 ⟨hd,k1⟩;refine Z _ _ ⟨_,_,rfl,bN (J3 (JP ?_))⟩;k_lt2 Z;refine Z _ _ ?_;clear Z;refine bf (KJ hl hc) ?_;rintro d s2 ⟨k2,hr⟩;have FI:=k1.trans k2;refine⟨λhx=>⟨λz=>(by rw[hx]at z;cases z),λj c gs e hj=>?_⟩,λhx=>fU ?_⟩;rcases hr with⟨z,_⟩|⟨_,nw,j',e',hb⟩
 rw[hx]at z;cases z;rw[e]at e';cases e';rw[hj]at hb;cases hb;have hu:u=.non:=by
  rcases hd with hd|hd
  exact(nw.not hd).elim;exact hd.2
 subst hu;refine⟨by unfold kN;simp,fU ?_⟩;exists _,Z,Jp;refine bf (KP hj) ?_;rintro d s3 ⟨rfl,k3⟩;refine⟨_,rfl,?_⟩;rw[if_pos rfl];refine JT (aB.mpr (xB (k3.keep _ _ hj (by simp)) rfl ?_));refine bf KO λr s4 ⟨e4,k4⟩=>Z _ _ ⟨e4,(FI.trans k3).trans k4⟩;rcases hr with⟨_,wd⟩|⟨z,_⟩
 have hu:u=d:=by
  rcases hd with hd|hd
  exact hd.uniq wd;exact(hd.1.not wd).elim
 subst hu;obtain⟨pu,ys,rfl⟩:=KN hl wd;exists _,Z,Jq;refine bf (KL pu) λr s4 ⟨e4,k4⟩=>Z _ _ ⟨e4,FI.trans k4⟩;rw[hx]at z;cases z
def lU{st:Store}{f:Nat}{n:Int}(hf:aF st f)(h0:0<n)(h1:n<1073741824):Wp (jC [.ref f,.int n] st) λd st'=>∃k:Int,d=.int k/\0<=k/\k<n/\aF st' f/\Ex [f] st st':=by obtain⟨o,m,e,o0,m0,m1⟩:=hf;have hfl:=mM e;refine kM ?_;show Ws (xJ [some (.ref f),some (.int n),none,none] st) _ _ _ _;unfold xJ;refine bN (iw ?_);exists fV e,mh e;refine⟨λho=>?_,λho=>?_⟩;refine bN (eu ?_);exists fV e;refine⟨h0,bN (zk ?_)⟩;exists fV e,mh e,(show jG [D.int o,D.int m].length 0=some 0 from xb);refine⟨⟨h0,h1⟩,fU ?_⟩;w_how;refine⟨MV _ ⋯,MN _ h0,⟨o / n,m,?_,Int.ediv_nonneg o0 ⋯,m0,m1⟩,Ex.refl.put (by simp)⟩;rw[L8 hfl];refine iK (bN (eu ?_));exists fV e;refine⟨by lk,by lk,bN (zk ?_)⟩;exists fV e,mh e,(show jG [D.int o,D.int m].length 1=some 1 from xc);refine⟨by lk,by lk,fU ?_⟩;have e2:(st.set f (.lst [.int o,.int ((m*48271 % 2147483647*40692+30103) % 2147483399+1)]))[f]?=some (.lst [.int o,.int ((m*48271 % 2147483647*40692+30103) % 2147483399+1)]):=L8 hfl;exists fV e2;refine⟨by lk,by lk,h0,MV _ ⋯,MN _ h0,⟨_,_,e2,o0,by lk,by lk⟩,Ex.refl.put (by simp)⟩
def KR{st:Store}{a:Nat}{ns:List Int}{k:Nat}(hs:items st a=some (ns.map D.int))(hk:k<=100):Wp (xH [.ref a,.int (k:Int)] st) λd st'=>d=.ref st.length/\aF st' st.length/\Ex [] st st':=by
 refine kM ?_;show Ws (xG [some (.ref a),some (.int (k:Int)),none,none] st) _ _ _ _;unfold xG;refine bN (eu ?_);w_how;refine⟨by lk,bN (zj (N:=λI st1=>st1=st/\∃c:Int,I=[some (.ref a),some (.int (k:Int)),some (.int c),none]) (iw ?_) ?_)⟩;exists hs;refine⟨λh=>eu ?_,λh=>iw ?_⟩;have h:=of_decide_eq_true h;rw[LG]at h;exists hs;refine⟨.int (ns[k]'⋯),oP (by rw[L3,L9];rfl),_,rfl⟩;exists hs;refine⟨λh=>eu ?_,λh=>iK ⟨rfl,_,rfl⟩⟩;have h:=of_decide_eq_true h;obtain⟨v,hv,hm⟩:=rA (xs:=ns.map D.int) (i:=(k:Int) % ((ns.map D.int).length:Int)) (MV _ ⋯) (MN _ h);obtain⟨c,_,rfl⟩:=LX.mp hm;exists hs;refine⟨h,_,hv,?_⟩;w_how;exact⟨by lk,by lk,by lk,_,rfl⟩;rintro I st1 ⟨rfl,c,rfl⟩;refine bN (eu ?_);w_how;refine bN (zj (N:=λI st2=>st2=st1/\∃o:Int,0<=o/\I=[some (.ref a),some (.int (k:Int)),some (.int c),some (.int o)]) (iw ?_) ?_);w_how;refine⟨by decide,λh=>eu ?_,λh=>iK ⟨rfl,0,by decide,rfl⟩⟩;have h:=of_decide_eq_true h;w_how;exact⟨c,Int.le_trans ∅ h,rfl⟩;rintro I st2 ⟨rfl,o,o0,rfl⟩;refine fU ?_;w_how;have h1:0<=c % 2147483629:=MV _ ∅;have h2:c % 2147483629<2147483629:=MN _ ∅;refine⟨by lk,by lk,by lk,by lk,by lk,by rfl,⟨_,_,jZ,o0,?_,?_⟩,Ex.cD _⟩
 have:=MV ((c % 2147483629*48271+40692*(k:Int)) ^ (5:Int).toNat) (show(2147483629:Int)≠0 by decide)
 lk
 have:=MN ((c % 2147483629*48271+40692*(k:Int)) ^ (5:Int).toNat) (show(0:Int)<2147483629 by decide)
 lk
abbrev tX(g:Int)(s:mP):Prop:=(s.1=false->1<=s.2/\s.2<=3)/\(s.2.natAbs:Int)<=g/\s.2≠0
def KS{st:Store}{f:Nat}{most great:Int}(hf:aF st f)(m0:0<=most)(m1:most<=100)(g0:3<=great)(g1:great<=1000):Wp (xN [.ref f,.int most,.int great] st) λd st'=>∃w:List mP,d=.tup (w.map mQ)/\(∀s∈w,tX great s)/\(w.length:Int)<=most/\aF st' f/\Ex [f] st st':=by
 have hfl:=hf.lt;refine Fv ?_;intro qR;show Ws (xM [some (.ref f),some (.int most),some (.int great),none,none] st) _ _ _ _;unfold xM;refine bN (eu ?_);k_lt Z;refine⟨rfl,Z _ _ ?_⟩;clear Z;show Ws _ _ _ _ _;obtain⟨d,st1,e1,c,rfl,c0,c1,f1,k1⟩:=lU (st:=st ++ [O.lst []]) (n:=most+1) (hf.keep (Ex.cD _)) ⋯ ⋯;obtain⟨m,rfl⟩:∃m:Nat,c=(m:Int):=⟨c.toNat,by lk⟩;have hl1:st1[st.length]?=some (.lst []):=k1.keep _ _ jZ (by simp;lk);have kx:Ex [f] st st1:=(Ex.cD _).trans k1
 let Cp:IV:=λi I st2=>∃(v4:Option D) (w:List mP),I=[some (.ref f),some (.int most),some (.int great),some (.ref st.length),v4]/\st2[st.length]?=some (.lst (w.map mQ))/\(∀s∈w,tX great s)/\w.length<=i/\aF st2 f/\Ex [f] st st2
 refine bN (Bv (aE 0 m) Cp ?_ (by rw[kL];lk) ?_ ?_);k_lt Z;refine⟨_,_,e1,?_⟩;exact⟨_,rfl,by lk,Z _ _ ⟨by rw[MF],none,[],rfl,hl1,(λs hs=>nomatch hs),LI _,f1,kx⟩⟩;rintro i d I st2 hd ⟨v4,w,rfl,hl2,hw,hwl,f2,k2⟩;have hil:=mM hd;rw[kL]at hil;have put:∀(s:mP) (fQ:Store),tX great s->aF fQ f->fQ[st.length]?=some (.lst (w.map mQ))->Ex [f] st fQ->∀v4:Option D,∃(KU:Option D) (w':List mP),[some (.ref f),some (.int most),some (.int great),some (.ref st.length),v4]=[some (.ref f),some (.int most),some (.int great),some (.ref st.length),KU]/\(fQ.set st.length (.lst (w.map mQ ++ [mQ s])))[st.length]?=some (.lst (w'.map mQ))/\(∀s∈w',tX great s)/\w'.length<=i+1/\aF (fQ.set st.length (.lst (w.map mQ ++ [mQ s]))) f/\Ex [f] st (fQ.set st.length (.lst (w.map mQ ++ [mQ s]))):=λs fQ os f5 h5 k5 v4=>by
  refine⟨v4,w ++ [s],rfl,?_,λs' hs'=>?_,by rw[LP];simp;lk,f5.ne ⋯,k5.loc (LI _)⟩;rw[L8 (mM h5),Md];rfl;rcases Mi.mp hs' with h|h
  exact hw s' h;rw[MC.mp h];exact os
 k_lt Z;refine Z _ _ (iw ?_);k_lt2 Z;refine bf (lU (n:=2) f2 ∅ ∅) ?_;rintro d' st3 ⟨b,rfl,b0,b1,f3,k3⟩;have hl3:=k3.keep _ _ hl2 (by simp;lk);w_how;refine Z _ _ ⟨λ_=>Bu ?_,λ_=>bN (eu ?_)⟩;k_lt2 Z;refine⟨Ez (by rw[fV hl3];rfl),?_⟩;refine bf (lU (n:=3) f3 ∅ ∅) ?_;rintro d' kO ⟨c,rfl,c0,c1,f4,k4⟩;have yk:=k4.keep _ _ hl3 (by simp;lk);exists mh yk;refine⟨rfl,ft (by rw[LG];lk),Z _ _ ?_⟩;exact put (false,1+c) kO ⟨λ_=>⟨by show 1<=1+c;lk,by show 1+c<=3;lk⟩,by show((1+c).natAbs:Int)<=great;lk,by show 1+c≠0;lk⟩ f4 yk ((k2.trans k3).trans k4) _;k_lt2 Z;refine bf (lU (n:=great) f3 ⋯ ⋯) ?_;rintro d' kO ⟨c,rfl,c0,c1,f4,k4⟩;have yk:=k4.keep _ _ hl3 (by simp;lk);w_how;refine Z _ _ (Bu ?_);k_lt2 Z;refine⟨Ez (by rw[fV yk];rfl),rfl,?_⟩;refine bf (lU (n:=2) (f4.keep (Ex.cD [O.lst [D.int (1+c),D.int (0-(1+c))]])) ∅ ∅) ?_;rintro d' fQ ⟨g,rfl,Lv,Lw,f5,k5⟩;have KW:fQ[kO.length]?=some (.lst [D.int (1+c),D.int (0-(1+c))]):=k5.keep _ _ jZ (by have:=f4.lt;simp;lk);have FJ:fQ[st.length]?=some (.lst (w.map mQ)):=k5.keep _ _ (mO yk) (by simp;lk);obtain⟨sg,hsg,s1,s2⟩:∃sg:Int,fL [D.int (1+c),D.int (0-(1+c))] g=some (.int sg)/\(sg.natAbs:Int)<=great/\sg≠0:=by
  rcases(show g=0\/g=1 by lk)with rfl|rfl
  exact⟨1+c,EF _ _,by lk,by lk⟩;exact⟨0-(1+c),EG _ _ _,by lk,by lk⟩
 exists fV KW,hsg,mh FJ;refine⟨rfl,ft (by rw[LG];lk),Z _ _ ?_⟩;exact put (true,sg) fQ ⟨λz=>Bool.noConfusion (show true=false from z),s1,s2⟩ f5 FJ (((k2.trans k3).trans k4).trans ((Ex.cD _).trans k5)) _;rintro I st2 ⟨v4,w,rfl,hl2,hw,hwl,f2,k2⟩;rw[kL]at hwl;refine fU ?_;exists _,Z,fV hl2;exact Z _ _ ⟨w,rfl,hw,by lk,f2,k2⟩
def Cq:∀{ws:List Str},(∀w∈ws,bS w.cps.toList)->bS (Str.join ⟨#[32]⟩ ws).cps.toList
 |[],_=>by
  have e:Str.join ⟨#[32]⟩ []=(⟨#[]⟩:Str):=by simp[Str.join];rfl
  rw[e];exactλc h=>nomatch h
 |[w],h=>by
  have:Str.join ⟨#[32]⟩ [w]=w:=by simp[Str.join]
  rw[this];exact h w LL
 |w :: u :: r,h=>by
  rw[tj];intro c hc;rcases Mi.mp hc with hc|hc
  exact h w LL c hc;rcases LO.mp hc with rfl|hc
  decide;exact Cq (λx hx=>h x (LQ _ hx)) c hc
abbrev yl:Str:=Str.ofString " !\"#$&'()*+,-./0123456789:;<=>?@ABCDEFGHIJKLMNOPQRSTUVWXYZ" ++ Str.ofString "[\\]^_`abcdefghijklmnopqrstuvwxyz{|}~\n"
abbrev KY:Str:=Str.ofString "st -0123."
abbrev tY(z:Str):Prop:=0<z.length/\z.length<=100/\bS z.cps.toList
instance (l:List Nat):Decidable (bS l):=inferInstanceAs (Decidable (∀c∈l,c<1114112))
def tZ:tY yl:=⟨by w_fin,by w_fin,by w_fin⟩
def t5:tY KY:=⟨by w_fin,by w_fin,by w_fin⟩
def KZ{st:Store}:Wp (zG [] st) λd st'=>d=.str yl/\Ex [] st st':=by refine kM ?_;show Ws (xP [none] st) _ _ _ _;unfold xP;refine bN (eu ?_);k_lt Z;refine Z _ _ (fU ?_);clear Z;exists _,Z,xg;exact⟨by w_fin,Z _ _ ⟨rfl,Ex.refl⟩⟩
abbrev PO(M:Nat)(ws:List Str):Prop:=(∀w∈ws,w.length<=M/\bS w.cps.toList)/\ws.length<=1000
def K0{st:Store}{Q:D->Store->Prop}{k M:Nat}{ws:List Str}(h:items st k=some (ws.map D.str))(hM:M<=100)(p:PO M ws):Wp (dZ (.str (Str.ofString " ")) [.ref k] st) Q↔Q (.str (Str.join ⟨#[32]⟩ ws)) st:=by rw[yg];exact EK h (by have:=p.2;lk) (by w_fin) (λx hx=>L5 (p.1 x hx).1 hM)
def PO.app{M:Nat}{a b:List Str}(ha:PO M a)(hb:PO M b)(h:a.length+b.length<=1000):PO M (a ++ b):=⟨λw hw=>by
 rcases Mi.mp hw with hw|hw
 exact ha.1 w hw
 exact hb.1 w hw,by rw[LP];exact h⟩
def K1(ws:List Str)(i:Nat):eO (ws.take i)+eO (ws.drop (i+1))<=eO ws:=by have a:=xu ws i;have b:=xu (ws.drop i) 1;rw[List.drop_drop]at b;lk
def K2{xs:List D}{i:Nat}(h:i<xs.length):cutD xs (some (i:Int)) (some ((i+1:Nat):Int))=(xs.drop i).take 1:=by unfold cutD;rw[HT.yF,HT.yF,M6 ⋯,M6 ⋯,Nat.add_sub_cancel_left]
def K3{M B:Nat}{ws:List Str}(p:PO M ws)(h:eO ws<=B):(Str.join ⟨#[32]⟩ ws).length<=B/\bS (Str.join ⟨#[32]⟩ ws).cps.toList:=⟨L5 (Fh ws) h,Cq λw hw=>(p.1 w hw).2⟩
abbrev iF:List Str:=["s0","t0","t4","t-1","s-0","s+1","s01","s1_0","s10000","s-9999","t3","s","",".","t","S1","t01","s-"]
def t6:∀w∈iF,w.length<=6/\bS w.cps.toList:=by w_fin
def FK{st:Store}{f M:Nat}{t:Str}(hf:aF st f)(hl:t.length<=100)(hc:bS t.cps.toList)(hM:∀w∈fg t,w.length<=M)(m6:6<=M)(m9:M<=100):
  Wp (uM [.ref f,.str t] st) λd st'=>∃u:Str,d=.str u/\u.length<=t.length+2*M+8/\bS u.cps.toList/\aF st' f/\Ex [f] st st':=by
 have hz:=n8;have hp:=zT t;have po:PO M (fg t):=⟨λw hw=>⟨hM w hw,Cn hc hw⟩,by lk⟩;have hsz:eO (fg t)=t.length+1:=B5 t 32;have hpos:0<(fg t).length:=PyProof.Rows.split_pos t ⟨#[32]⟩;refine kM ?_;show Ws (xR [some (.ref f),some (.str t),none,none,none,none,none,none,none,none,none] st) _ _ _ _;unfold xR;refine bN (eu ?_);k_lt Z;refine bf (lU hf ∅ ∅) ?_;rintro d s1 ⟨k,rfl,k0,k9,f1,e1⟩;refine Z _ _ (bN (eu ?_));clear Z;exists _,Z,zy;refine⟨ft ⋯,?_⟩;refine bf (lU f1 ⋯ ⋯) ?_;rintro d s2 ⟨a,rfl,a0,a9,f2,e2⟩;refine Z _ _ (bN (eu ?_));k_lt2 Z;refine bf (KZ) ?_;rintro d s3 ⟨rfl,e3⟩;refine⟨rfl,?_⟩;have f3:aF (s3 ++ [O.lst [.str yl,.str (Str.ofString "st -0123.")]]) f:=f2.keep (e3.app _);refine bf (lU f3 ∅ ∅) ?_;rintro d s4 ⟨b,rfl,b0,b9,f4,e4⟩;have i4:items s4 s3.length=some [.str yl,.str (Str.ofString "st -0123.")]:=by
  refine fV (e4.keep _ _ jZ ?_);have:=f2.lt;have:=e3.len;simp;lk
 obtain⟨z,hz1,K4⟩:∃z,fL [D.str yl,.str (Str.ofString "st -0123.")] b=some (.str z)/\tY z:=by
  rcases(show b=0\/b=1 by lk)with rfl|rfl
  exact⟨_,rfl,tZ⟩;exact⟨_,rfl,t5⟩
 rw[zi];refine⟨_,_,i4,hz1,?_⟩;have E4:Ex [f] st s4:=(((e1.trans e2).trans (e3.app _).any).trans e4);clear i4 e4 f3 e3 e2 e1 f1 f2 hz1;obtain⟨z1,z2,z3⟩:=K4;refine Z _ _ (bN (eu ?_));clear Z;exists _,Z,zy;refine⟨ft ⋯,?_⟩;refine bf (lU f4 ⋯ ⋯) ?_;rintro d s5 ⟨c,rfl,c0,c9,f5,e5⟩;obtain⟨x,hx⟩:∃x,z.cps.toList[c.toNat]?=some x:=by
  rw[mr]at c9;exact⟨_,L9 ⋯⟩
 have K5:x<1114112:=z3 x (L6 hx);rw[EC];refine⟨x,ft ⋯,by rw[show c=((c.toNat:Nat):Int) by lk];exact oP hx,?_⟩;have E5:Ex [f] st s5:=E4.trans e5;clear E4 e5 f4 hx z1 z2 z3;refine Z _ _ (bN (iw ?_));k_lt2 Z;refine Z _ _ ⟨λh=>fU ?_,λh=>iK ?_⟩;have h:=of_decide_eq_true h;clear Z;exists _,Z,ow,xg;obtain⟨v,hv,vl,vo⟩:∃v:Str,fL [D.str ⟨#[x]⟩,D.str (Str.ofString ""),D.str ⟨#[x]⟩] k=some (.str v)/\v.length<=1/\bS v.cps.toList:=by
  have AZ:bS (⟨#[x]⟩:Str).cps.toList:=λc h=>by rw[MC.mp h];exact K5
  rcases(show k=0\/k=1\/k=2 by lk)with rfl|rfl|rfl
  exact⟨_,rfl,LI _,AZ⟩;exact⟨_,rfl,by w_fin,by w_fin⟩;exact⟨_,rfl,LI _,AZ⟩
 obtain⟨n,rfl⟩:∃n:Nat,a=(n:Int):=⟨a.toNat,by lk⟩;have hn:n<=t.length:=by lk
 obtain⟨m,hm,hmn,hm1⟩:∃m:Nat,((n:Int)+if decide (0<k)=true then 1 else 0)=(m:Int)/\n<=m/\m<=n+1:=by
  by_cases hk:0<k;exact⟨n+1,by rw[decide_eq_true hk,if_pos rfl];lk,by lk,by lk⟩;exact⟨n,by rw[decide_eq_false hk,if_neg ∅];lk,by lk,by lk⟩
 refine⟨ft ⋯,rfl,_,hv,?_⟩;have el:=mr t;rw[hm,tq hn,xt ⋯,xg];have l1:(sO (t.cps.toList.take n)).length<=n:=by rw[jI,LW];lk
 have l2:(sO (t.cps.toList.drop m)).length<=t.length-n:=by rw[jI,Me];lk
 have l3:(sO (t.cps.toList.take n) ++ v).length=(sO (t.cps.toList.take n)).length+v.length:=by simp[Str.length_append]
 refine⟨ft ⋯,ft ⋯,?_⟩;rw[xg];refine⟨ft ⋯,Z _ _ ⟨_,rfl,?_,?_,f5.keep (Ex.cD _),E5.app _⟩⟩
 have:(sO (t.cps.toList.take n) ++ v ++ sO (t.cps.toList.drop m)).length=(sO (t.cps.toList.take n) ++ v).length+(sO (t.cps.toList.drop m)).length:=by simp[Str.length_append]
 lk;rw[uE v,zq,zq,iR];intro c h;rcases Mi.mp h with h|h
 rcases Mi.mp h with h|h
 exact hc c (MS h);exact vo c h;exact hc c (List.mem_of_mem_drop h);have h:=of_decide_eq_false h;refine bN (eu ?_);k_lt2 Z;refine⟨rfl,?_⟩;rw[yg,BX (by w_fin) ⋯ (show(fg t).length<=_ by lk)];rw[show PySem.Txt.split t ⟨#[32]⟩=fg t from rfl];clear hM hc;generalize fg t=ws at hp po hsz hpos ⊢;have hfl:=f5.lt;have h6:(s5 ++ [O.lst (ws.map D.str)])[s5.length]?=some (.lst (ws.map D.str)):=jZ;have E6:Ex [f] st (s5 ++ [O.lst (ws.map D.str)]):=E5.app _;have f6:aF (s5 ++ [O.lst (ws.map D.str)]) f:=f5.keep (Ex.cD _);have gl:st.length<=s5.length:=E5.len;generalize hg:s5.length=g at hfl h6 gl ⊢;generalize s5 ++ [O.lst (ws.map D.str)]=s6 at h6 E6 f6 ⊢;clear E5 f5 hg;refine Z _ _ (bN (eu ?_));clear Z;exists _,Z,fV h6,LG;refine bf (lU f6 ⋯ ⋯) ?_;rintro d s7 ⟨i,rfl,i0,i9,f7,e7⟩;have h7:=e7.keep _ _ h6 (by simp;lk);refine Z _ _ (bN (eu ?_));clear Z;exists _,Z,fV h7,LG;refine bf (lU f7 ⋯ ⋯) ?_;rintro d s8 ⟨j,rfl,j0,j9,f8,e8⟩;have h8:=e8.keep _ _ h7 (by simp;lk);have E8:Ex [f] st s8:=(E6.trans e7).trans e8;clear E6 e7 e8 f6 f7 h6 h7;obtain⟨i,rfl⟩:∃n:Nat,i=(n:Int):=⟨i.toNat,by lk⟩;obtain⟨j,rfl⟩:∃n:Nat,j=(n:Int):=⟨j.toNat,by lk⟩;have Cr:=fV h8;have FL:((i:Int)+1)=((i+1:Nat):Int):=by lk
 have fin:∀(us:List Str) (s9:Store) (r:Nat),items s9 r=some (us.map D.str)->PO M us->eO us<=t.length+2*M+8->aF s9 f->Ex [f] st s9->Wp (dZ (.str (Str.ofString " ")) [.ref r] s9) λd st'=>∃u:Str,d=.str u/\u.length<=t.length+2*M+8/\bS u.cps.toList/\aF st' f/\Ex [f] st st':=λus s9 r h1 h2 h3 h4 h5=>by
  rw[K0 h1 m9 h2];obtain⟨a1,a2⟩:=K3 h2 h3;exact⟨_,rfl,a1,a2,h4,h5⟩
 have wl:ws.length<=1000:=po.2;have Cs:∀n,PO M (ws.take n):=λn=>⟨λw hw=>po.1 w (MS hw),by rw[LW];lk⟩;have ym:∀n,PO M (ws.drop n):=λn=>⟨λw hw=>po.1 w (List.mem_of_mem_drop hw),by rw[Me];lk⟩;refine Z _ _ (bN (iw ?_));k_lt2 Z;refine Z _ _ ⟨λh=>fU ?_,λh=>iK ?_⟩;clear Z;exists _,Z,fV h8;refine⟨rfl,_,qq Cr (Ex.cD _),?_⟩;rw[FL,zm,BD];refine⟨ft (by rw[LW,Me,LG];lk),?_⟩;refine bf (fin (ws.take i ++ ws.drop (i+1)) _ _ (by rw[Md,Nf,List.map_drop];exact iL) (PO.app (Cs _) (ym _) (by rw[LW,Me];lk)) ?_ (f8.keep (((Ex.cD _).app _).app _)) (((E8.app _).app _).app _)) λd s q=>Z _ _ q;rw[uG];have:=K1 ws i;lk;clear Z;refine bN (iw ?_);k_lt Z;refine Z _ _ ⟨λh=>fU ?_,λh=>iK ?_⟩;clear Z;exists _,Z,fV h8;refine⟨rfl,_,qq Cr (Ex.cD _),?_⟩;rw[FL,zm,K2 (by rw[LG];lk)];refine⟨ft (by rw[LW,LW,Me,LG];lk),_,qq Cr (((Ex.cD _).app _).app _),?_⟩;rw[BD];refine⟨ft (by rw[LP,LW,LW,Me,LG];lk),?_⟩;have p1:PO M ((ws.drop i).take 1):=⟨λw hw=>(ym i).1 w (MS hw),by rw[LW];lk⟩;refine bf (fin (ws.take i ++ (ws.drop i).take 1 ++ ws.drop i) _ _ (by rw[Md,Md,Nf,Nf,List.map_drop];exact iL) (PO.app (PO.app (Cs _) p1 (by rw[LW,LW];lk)) (ym _) (by rw[LP,LW,LW,Me];lk)) ?_ (f8.keep (((((Ex.cD _).app _).app _).app _).app _)) (((((E8.app _).app _).app _).app _).app _)) λd s q=>Z _ _ q;rw[uG,uG];have:=xu ws i;have q1:eO ((ws.drop i).take 1)<=M+1:=by
  cases hd:ws.drop i with
  |nil=>exact Mx _
  |cons w r =>
   rw[show(w :: r).take 1=[w]from rfl,B3];have:=(ym i).1 w (by rw[hd];exact LL);lk
 lk;clear Z;refine bN (iw ?_);k_lt Z;refine Z _ _ ⟨λh=>bN (zk ?_),λh=>iK ?_⟩;clear Z;exists _,Z,fV h8;have Ct:ws[j]?=some (ws[j]'⋯):=L9 _;have Cu:ws[i]?=some (ws[i]'⋯):=L9 _;generalize ws[j]'⋯=wj at Ct;generalize ws[i]'⋯=wi at Cu;refine⟨.str wj,oP (by rw[L3,Ct];rfl),.str wi,oP (by rw[L3,Cu];rfl),rfl,Z _ _ ?_⟩;clear Z;w_how;have gf:g≠f:=by lk
 have FN:=mM h8;have h9:(s8.set g (.lst ((ws.map D.str).set i (.str wj))))[g]?=some (.lst ((ws.map D.str).set i (.str wj))):=L8 FN;refine⟨rfl,_,mh h8,i,Dl (by rw[LG];lk),_,mh h9,j,Dl (by rw[Mq,LG];lk),fU ?_⟩;k_lt Z;have e9:((ws.map D.str).set i (.str wj)).set j (.str wi)=((ws.set i wj).set j wi).map D.str:=by rw[List.map_set,List.map_set]
 rw[e9];have mj:=po.1 wj (L6 Ct);have mi:=po.1 wi (L6 Cu);refine⟨rfl,bf (fin ((ws.set i wj).set j wi) _ _ (fV (L8 (by rw[Mq];exact FN))) ⟨λw hw=>?_,by rw[Mq,Mq];exact wl⟩ ?_ ((f8.ne gf).ne gf) ((E8.loc gl).loc gl)) λd s q=>Z _ _ q⟩;rcases List.mem_or_eq_of_mem_set hw with hw|rfl
 rcases List.mem_or_eq_of_mem_set hw with hw|rfl
 exact po.1 w hw;exact mj;exact mi;have a1:=B6 (x:=wi) (ws.set i wj) j;have a2:=B6 (x:=wj) ws i;lk;clear Z;refine bN (eu ?_);k_lt Z;refine⟨rfl,?_⟩;refine Z _ _ (bN (eu ?_));k_lt2 Z;refine⟨rfl,rfl,?_⟩;have f9:=f8.keep (((Ex.cD (c:=[]) (st:=s8) [O.lst ([("s0" : Str),"t0","t4","t-1","s-0","s+1","s01","s1_0","s10000","s-9999","t3","s",""].map D.str)]).app [O.lst ([(".": Str),"t","S1","t01","s-"].map D.str)]).app [O.lst (iF.map D.str)]);refine bf (lU f9 ∅ ∅) ?_;rintro d s9 ⟨y,rfl,y0,y9,K7,Cv⟩;have E9:Ex [f] st s9:=(((E8.app _).app _).app _).trans Cv;have h9:s9[g]?=some (.lst (ws.map D.str)):=Cv.keep _ _ (mO (mO (mO h8))) (by simp;lk);obtain⟨v,hv,K8⟩:∃v,fL (iF.map D.str) y=some (.str v)/\v∈iF:=by
  obtain⟨y,rfl⟩:∃n:Nat,y=(n:Int):=⟨y.toNat,by lk⟩;have hy:y<iF.length:=by show y<18;lk
  refine⟨iF[y],oP ?_,Nj _⟩;rw[L3,L9 hy];rfl
 have vo:=t6 v K8;rw[zi];have hsl:=mM h8;refine⟨iF.map D.str,_,fV (Cv.keep _ _ jZ (by simp;lk)),hv,?_⟩;refine Z _ _ (fU ?_);clear Z;exists _,Z,fV h9;obtain⟨m,hm,hmn⟩:∃m:Nat,((i:Int)+if decide (k<8)=true then 1 else 0)=(m:Int)/\i<=m:=by
  by_cases hk:k<8;exact⟨i+1,by rw[decide_eq_true hk,if_pos rfl];lk,by lk⟩;exact⟨i,by rw[decide_eq_false hk,if_neg ∅];lk,by lk⟩
 rw[hm,zm];refine⟨rfl,rfl,ft (by rw[LW,LG];show _+1<=_;lk),_,qq (fV h9) (((Ex.cD _).app _).app _),?_⟩;rw[BD];refine⟨ft (by rw[LP,LW,Me,LG];show _+1+_<=_;lk),?_⟩;have p1:PO M [v]:=⟨λw hw=>by rw[MC.mp hw];exact⟨L5 vo.1 m6,vo.2⟩,by show 1<=1000;decide⟩;refine bf (fin (ws.take i ++ [v] ++ ws.drop m) _ _ (by rw[Md,Md,Nf,List.map_drop];exact iL) (PO.app (PO.app (Cs _) p1 (by rw[LW];show _+1<=_;lk)) (ym _) (by rw[LP,LW,Me];show _+1+_<=_;lk)) ?_ (K7.keep (((((Ex.cD _).app _).app _).app _).app _)) (((((E9.app _).app _).app _).app _).app _)) λd s q=>Z _ _ q;rw[uG,uG,B3];have a1:=xu ws i;have a2:=xu (ws.drop i) (m-i);rw[List.drop_drop,show i+(m-i)=m by lk]at a2;have:=vo.1;lk
abbrev jJ(s:mP):Str:=(if s.1 then("s" : Str)else "t") ++ tx s.2
def FO(s:mP):jJ s=sO ((if s.1 then 115 else 116) :: (tx s.2).cps.toList):=by unfold jJ;have e:=uE (tx s.2);cases h:s.1;show Str.ofString "t" ++ tx s.2=sO (116 :: (tx s.2).cps.toList);rw[tP,e,zq,iR];rfl;show Str.ofString "s" ++ tx s.2=sO (115 :: (tx s.2).cps.toList);rw[pz,e,zq,iR];rfl
def qA{k:Int}(h0:k≠0)(h1:k.natAbs<10000):(tx k).length<=5/\∀c∈(tx k).cps.toList,c=45\/(48<=c/\c<=57):=by
 obtain⟨m,m1,m2,h⟩:∃m:Nat,1<=m/\m<10000/\(k=(m:Int)\/k=-(m:Int)):=⟨k.natAbs,by lk,h1,by lk⟩;obtain⟨c,l,e,_,hl⟩:=B1 m1 m2;have hd:=zA m;rcases h with rfl|rfl
 rw[mr,e];refine⟨by simp;lk,by rw[<- e];exactλc hc=>.inr (hd c hc)⟩;rw[mr,xm m1];refine⟨by rw[e];simp;lk,λc hc=>?_⟩;rcases LO.mp hc with z|z
 exact .inl z;exact .inr (hd c z)
def yo{g:Int}{s:mP}(h:tX g s)(hg:g<=1000):(jJ s).length<=6/\32 ∉ (jJ s).cps.toList/\bS (jJ s).cps.toList:=by
 obtain⟨b2,b3⟩:=qA h.2.2 (by have:=h.2.1;lk);have ch:∀c∈(jJ s).cps.toList,c=115\/c=116\/c=45\/(48<=c/\c<=57):=λc hc=>by
  rw[FO,iR]at hc;rcases LO.mp hc with z|z
  cases hs:s.1<;>rw[hs]at z<;>simp at z<;>lk
  have:=b3 c z;lk
 refine⟨?_,λz=>?_,λc hc=>?_⟩;rw[FO,jI,LZ];rw[mr]at b2;lk
 have:=ch _ z;lk
 have:=ch _ hc;lk
abbrev Pt(i:Nat)(t:Str):Prop:=(i=0->t.length<=75/\∀w∈fg t,w.length<=6)/\(i=1->t.length<=100)/\t.length<=900/\bS t.cps.toList
def K9{g:Int}{w:List mP}(h:∀s∈w,tX g s)(hg:g<=1000)(hl:w.length<=10):Pt 0 (Str.join ⟨#[32]⟩ (w.map jJ)):=by
 have sz:eO (w.map jJ)<=70:=by
  have key:∀w:List mP,(∀s∈w,tX g s)->eO (w.map jJ)<=7*w.length:=by
   intro w
   induction w with
   |nil=>intro _;exact Mx _
   |cons s r ih =>
    intro h;have a:=(yo (h s LL) hg).1;have b:=ih λy hy=>h y (LQ _ hy);rw[Mt,tu,LZ];lk
  have:=key w h;lk
 have le:=Fh (c:=32) (w.map jJ);refine⟨λ_=>⟨by lk,λu hu=>?_⟩,λz=>(nomatch z),by lk,Cq λu hu=>?_⟩;by_cases hn:w=[];subst hn;have e:Str.join ⟨#[32]⟩ (([]:List mP).map jJ)=(⟨#[]⟩:Str):=by simp[Str.join];rfl
 have:=(zS hu).1;rw[e]at this;exact L5 this ∅
 have e:fg (Str.join ⟨#[32]⟩ (w.map jJ))=w.map jJ:=JH (λz=>hn (List.map_eq_nil_iff.mp z)) λx hx=>by
  obtain⟨s,hs,rfl⟩:=LX.mp hx;exact(yo (h s hs) hg).2.1
 rw[e]at hu;obtain⟨s,hs,rfl⟩:=LX.mp hu;exact(yo (h s hs) hg).1;obtain⟨s,hs,rfl⟩:=LX.mp hu;exact(yo (h s hs) hg).2.2
def La{st:Store}{f i:Nat}{t:Str}(hf:aF st f)(p:Pt i t)(hi:i<2):Wp (uM [.ref f,.str t] st) λd st'=>∃u:Str,d=.str u/\Pt (i+1) u/\aF st' f/\Ex [f] st st':=by
 obtain⟨p0,p1,p2,p3⟩:=p;rcases(show i=0\/i=1 by lk)with rfl|rfl
 obtain⟨a,b⟩:=p0 rfl;refine bf (FK (M:=6) hf ⋯ p3 b ∅ ∅) ?_;rintro d s ⟨u,rfl,ul,uc,f1,e1⟩;exact⟨u,rfl,⟨λz=>(nomatch z),λ_=>by lk,by lk,uc⟩,f1,e1⟩;have a:=p1 rfl;refine bf (FK (M:=100) hf a p3 (λw hw=>L5 (zS hw).1 a) ∅ ∅) ?_;rintro d s ⟨u,rfl,ul,uc,f1,e1⟩;exact⟨u,rfl,⟨λz=>⋯,λz=>⋯,by lk,uc⟩,f1,e1⟩
abbrev Tk(d:D):Prop:=∃t:Str,d=.str t/\t.length<=900/\bS t.cps.toList
abbrev six:List Str:=["","."," ","s1 ","t2\n",". ."]
def t7:∀t∈six,t.length<=900/\bS t.cps.toList:=by w_fin
def oa(ns:List Int)(hn:ns.length<=63):Wp (Ci [.ref 0] [.jT (ns.map D.int)]) λd _=>d=.bl true:=by
 refine Fv ?_;intro qR;show Ws (zP [some (.ref 0),none,none,none,none,none,none,none] [.jT (ns.map D.int)]) _ _ _ _;unfold zP;have Lb:(cutD (ns.map D.int) none (some (8:Int))).length<=8:=by
  have:=zm (ns.map D.int) 8;rw[show(some (8:Int))=some ((8:Nat):Int)from rfl,this,LW];lk
 obtain⟨m,hm,Lx⟩:∃m:Nat,(if((cutD (ns.map D.int) none (some (8:Int))).length:Int) > 3 then((cutD (ns.map D.int) none (some (8:Int))).length:Int)else 3)=(m:Int)/\m<=8:=by
  split;exact⟨_,rfl,Lb⟩;exact⟨3,rfl,by decide⟩
 refine bN (eu ?_);k_lt Z;refine⟨rfl,Z _ _ ?_⟩;clear Z;rw[show[D.str (Str.ofString ""),D.str (Str.ofString "."),D.str (Str.ofString " "),D.str (Str.ofString "s1 "),D.str (Str.ofString "t2\n"),D.str (Str.ofString ". .")]=six.map D.str from rfl];have Lc:([O.jT (ns.map D.int)] ++ [O.lst (six.map D.str)]:Store)[0]?=some (.jT (ns.map D.int)):=rfl;have Ly:([O.jT (ns.map D.int)] ++ [O.lst (six.map D.str)]:Store)[1]?=some (.lst (six.map D.str)):=rfl
 let Cp:IV:=λi I st=>∃(v2 v3 v4 v5 v6 v7:Option D) (qs:List D),I=[some (.ref 0),some (.ref 1),v2,v3,v4,v5,v6,v7]/\st[0]?=some (.jT (ns.map D.int))/\st[1]?=some (.lst qs)/\qs.length<=6+2*i/\∀d∈qs,Tk d
 refine bN (Bv (aE 0 m) Cp ?_ (by rw[kL];lk) ?_ ?_);exists _,Z,Ey Lc,hm;refine⟨by lk,Z _ _ ⟨by rw[MF],_,_,_,_,_,_,six.map D.str,rfl,rfl,rfl,by decide,λd hd=>?_⟩⟩;obtain⟨t,ht,rfl⟩:=LX.mp hd;exact⟨t,rfl,t7 t ht⟩;rintro i d I st hd ⟨v2,v3,v4,v5,v6,v7,qs,rfl,h0,h1,hl,hq⟩;have hil:=mM hd;rw[kL]at hil;rw[Er hil,Int.zero_add]at hd;cases hd;k_lt Z;refine Z _ _ (bN (eu ?_));k_lt2 Z;refine bf (KR (a:=0) (ns:=ns) (k:=i) (Ey h0) ⋯) ?_;rintro d st2 ⟨rfl,f2,k2⟩;generalize hF:st.length=ff at f2 ⊢;have Lz:1<ff:=by rw[<- hF];exact mM h1
 have h02:=k2.keep _ _ h0 (by simp);have h12:=k2.keep _ _ h1 (by simp);have Ld:=f2.lt;refine Z _ _ (bN (eu ?_));k_lt2 Z;refine bf (lU (n:=2) f2 ∅ ∅) ?_;rintro d st3 ⟨tw,rfl,tw0,tw1,f3,k3⟩;refine Z _ _ (bN (eu ?_));k_lt2 Z;refine⟨rfl,?_⟩;have Le:=f3.lt;refine bf (lU (n:=3) (f3.keep (Ex.cD [O.lst [D.int 3,D.int 20,D.int 1000]])) ∅ ∅) ?_;rintro d kO ⟨e,rfl,e0,e1,f4,k4⟩;have Lf:items kO st3.length=some [D.int 3,D.int 20,D.int 1000]:=fV (k4.keep _ _ jZ (by simp;lk));obtain⟨g,hg,g1,g2⟩:∃g:Int,fL [D.int 3,D.int 20,D.int 1000] e=some (.int g)/\3<=g/\g<=1000:=by
  rcases(show e=0\/e=1\/e=2 by lk)with rfl|rfl|rfl
  exact⟨3,rfl,by decide,by decide⟩;exact⟨20,rfl,by decide,by decide⟩;exact⟨1000,rfl,by decide,by decide⟩
 exists Lf,hg;refine bf (KS (most:=10) (great:=g) f4 ∅ ∅ g1 g2) ?_;rintro d fQ ⟨w,rfl,hw,hwl,f5,k5⟩;have kk:Ex [ff] st2 fQ:=((k3.trans (Ex.cD _)).trans k4).trans k5;have Lg:=kk.keep _ _ h02 (by simp;lk);have Lh:=kk.keep _ _ h12 (by simp;lk);have Cw:w.length<=10:=by lk
 refine Z _ _ (bN (eu ?_));k_lt2 Z;refine⟨rfl,?_⟩;refine EW (w.map λs=>(D.str (if s.1 then "s" else "t"),D.int s.2)) (λp=>match p with|(.str a,.int k)=>.str (a ++ tx k)|_=>.non) ?_ (by rw[LG];lk) ?_ ?_;k_lt fE;refine fE _ _ ⟨?_,Ex.refl⟩;rw[Mz];exact zo _ _;intro p hp st1 k1;obtain⟨s,hs,rfl⟩:=LX.mp hp;have ok:=hw s hs;have b2:=(qA ok.2.2 (by have:=ok.2.1;lk)).1;have l1:(if s.1=true then("s" : Str)else "t").length=1:=by cases s.1<;>decide +kernel
 exists _,fE,EY (yh (x:=s.2) (by have:=ok.2.1;lk)),xg;refine⟨ft (by show _+(tx s.2).length<=_;lk),fE _ _ ⟨rfl,Ex.refl⟩⟩;intro o7 k6;have e:(w.map λs=>(D.str (if s.1 then "s" else "t"),D.int s.2)).map (λp=>match p with|(.str a,.int k)=>D.str (a ++ tx k)|_=>.non)=(w.map jJ).map D.str:=by
  rw[Mz,Mz];rfl
 rw[e,yg,EK iL (by rw[LG];lk) (by w_fin) (λx hx=>by
  obtain⟨s,hs,rfl⟩:=LX.mp hx;have:=(yo (hw s hs) g2).1
  lk)]
 have k7:Ex [ff] st2 (o7 ++ [O.lst ((w.map jJ).map D.str)]):=kk.trans (k6.app _).any;have p0:=K9 hw g2 Cw;have f7:aF (o7 ++ [O.lst ((w.map jJ).map D.str)]) ff:=f5.keep (k6.app _);have FP:=k7.keep _ _ h02 (by simp;lk);have FQ:=k7.keep _ _ h12 (by simp;lk);generalize Str.join ⟨#[32]⟩ (w.map jJ)=t0 at p0 ⊢;generalize o7 ++ [O.lst ((w.map jJ).map D.str)]=mH at f7 FP FQ ⊢;clear k7 k6 kk k5 k4 k3 k2 f5 f4 f3 f2 Lg Lh h02 h12;obtain⟨tn,rfl⟩:∃n:Nat,tw=(n:Int):=⟨tw.toNat,by lk⟩
 let Li:IV:=λi' I st=>∃(v7:Option D) (t:Str) (qs:List D),I=[some (.ref 0),some (.ref 1),some (.int (i:Int)),some (.ref ff),some (.int (tn:Int)),some (.tup (w.map mQ)),some (.str t),v7]/\Pt i' t/\aF st ff/\st[0]?=some (.jT (ns.map D.int))/\st[1]?=some (.lst qs)/\qs.length<=6+2*i+i'/\∀d∈qs,Tk d
 refine Z _ _ (Bv (aE 0 (1+tn)) Li ?_ (by rw[kL];lk) ?_ ?_);k_lt2 Z;refine⟨by lk,Z _ _ ⟨by rw[show((1:Int)+(tn:Int)).toNat=1+tn by lk],_,t0,qs,rfl,p0,f7,FP,FQ,hl,hq⟩⟩;clear Z;rintro i' d I st hd ⟨v7,t,qs,rfl,pt,fS,Lj,Lk,hl,hq⟩;have Cy:=mM hd;rw[kL]at Cy;k_lt Z;refine Z _ _ (bN (eu ?_));k_lt2 Z;refine bf (La fS pt ⋯) ?_;rintro d s8 ⟨u,rfl,pu,f8,e8⟩;have Ll:=e8.keep _ _ Lj (by simp;lk);have Cz:=e8.keep _ _ Lk (by simp;lk);refine Z _ _ (Bu ?_);clear Z;exists _,Z,mh Cz;have CA:=mM Cz;refine⟨by show("list" == "list" && (items s8 1).isSome)=true;rw[fV Cz];rfl,ft ⋯,Z _ _ ⟨_,u,qs ++ [.str u],rfl,pu,f8.ne ⋯,?_,L8 CA,by rw[LP,MR];lk,λd hd=>?_⟩⟩;rw[Mg ∅];exact Ll;rcases Mi.mp hd with hd|hd
 exact hq d hd;exact⟨u,MC.mp hd,pu.2.2⟩;rintro I st ⟨v7,t,qs,rfl,_,_,h0,h1,hl,hq⟩;rw[kL]at hl;exact⟨_,_,_,_,_,_,qs,rfl,h0,h1,by lk,hq⟩;rintro I st ⟨v2,v3,v4,v5,v6,v7,qs,rfl,h0,h1,hl,hq⟩;rw[kL]at hl;refine fU ?_;k_lt Z;refine zp (qs ++ qs.reverse) (λ_=>.bl true) ?_ (by rw[LP,MT];lk) ?_ ?_;exists _,fE,fV h1;refine Jr.mpr ⟨qs,fV h1,Eu.mpr ⟨qs,qs.reverse,mh (mO h1),mh jZ,ft (by rw[MT];lk),_,rfl,_,iL,fE _ _ ⟨BE iL,(Ex.cD _).app _⟩⟩⟩;intro d hd s1 k1;obtain⟨t,rfl,tl,tc⟩:Tk d:=by
  rcases Mi.mp hd with hd|hd
  exact hq d hd;exact hq d (List.mem_reverse.mp hd)
 k_lt fE;exact bf (KQ tl tc) λr s hr=>fE _ _ hr;intro s1 k1;have eR:(qs ++ qs.reverse).map (λ_=>D.bl true)=List.replicate (qs.length+qs.length) (.bl true):=by
  rw[List.map_const',LP,MT]
 rw[eR];exists iL,EH;refine Z _ _ ?_;show _=D.bl true;simp
def t8{P:Program}{w:World}{K:Zfr}{mg:Str->Option Value}{base:Heap}(T:Txt mg){ah aG aV bw aH aI aJ cI:Addr}(Z:XF K mg ah aG aV bw aH aI aJ cI){iE:V}(fP:jM K mg "FIGURES" iE (.str "0123456789")){cU:V}(b5:jM K mg "MOST_FIGURES" cU (.int 4)){gq:V}(eW:jM K mg "NO_STEPS" gq (.str ".")){gp:V}(eV:jM K mg "QUARTERS" gp (.tup [(.str "1"),(.str "2"),(.str "3")])){dA:Addr}{dB:FuncData}(cF:D10 K mg dA dB){dD:Addr}{dE:FuncData}(au:D11 K mg dD dE){dF:Addr}{dG:FuncData}(cG:D12 K mg dF dG){cN:Addr}{cO:FuncData}(bA:D13 K mg cN cO){cq:Addr}{cu:FuncData}(bP:D14 K mg cq cu){bY:Addr}{bZ:FuncData}(bF:D15 K mg bY bZ){eQ:Addr}{eS:FuncData}(dk:D16 K mg eQ eS){aQ:Addr}{aR:FuncData}(aD:D17 K mg aQ aR){dJ:Addr}{dM:FuncData}(bJ:Def K mg "read_step" x4 ["text"] dJ dM){dO:Addr}{dP:FuncData}(bK:Def K mg "read_word" x6 ["text"] dO dP){cb:Addr}{cc:FuncData}(aW:Def K mg "_law_alike" tN ["_law_found","_law_due_here"] cb cc){bQ:Addr}{bR:FuncData}(a8:Def K mg "_law_is_alone" yc ["_law_e","_law_own"] bQ bR){cR:Addr}{cS:FuncData}(cf:D18 K mg cR cS){yp:Addr}{yq:FuncData}(CB:D19 K mg yp yq):G19 P w K mg base yp yq:=by obtain⟨dI,I,BI⟩:=Z.I;have GI:=Kb (P:=P) (w:=w) (mg:=mg) (base:=base) I;have dC:=Kc (P:=P) (w:=w) (base:=base) cF T;have av:=Kd (P:=P) (w:=w) (base:=base) au T;have dH:=Ke (P:=P) (w:=w) (base:=base) au av cG T;have cP:=Kf (P:=P) (w:=w) (base:=base) bA T;have cw:=Kg (P:=P) (w:=w) (base:=base) au av bA cP bP T;have b4:=Kh (P:=P) (w:=w) (base:=base) bF T;have eU:=Ki (P:=P) (w:=w) (base:=base) bF b4 dk T;have aS:=Kj (P:=P) (w:=w) (base:=base) aD T fP;have dN:=Kk (P:=P) (w:=w) (base:=base) aD aS bJ T b5 eV Z GI BI;have dQ:=Km (P:=P) (w:=w) (base:=base) bJ dN bK T eW;have dR:=Ko (P:=P) (w:=w) (base:=base) aW T;have cQ:=Kn (P:=P) (w:=w) (base:=base) aW T;have ck:=Kq (P:=P) (w:=w) (base:=base) a8 T  Z;have cT:=Kr (P:=P) (w:=w) (base:=base) dk eU bK dQ aW cQ cf T Z dR a8 ck;have CC:=tO (P:=P) (w:=w) (base:=base) cF dC au av cG dH bP cw cf cT CB T;exact CC
end My
open PySem PySem.W PyProof.Rows L2
namespace PySem.W.Fast
abbrev tw7873848933638686495:=0
abbrev tw1955158473019529164:=0
abbrev tw14129523677905610640:=0
abbrev tw8224933516231898379:=0
abbrev tw1419867523220284105:=0
abbrev tw15774441264596469558:=0
abbrev tw7159957788200646162:=0
abbrev tw16562007560090324417:=0
abbrev tw10387371533297595532:=0
abbrev tw14313686866226235788:=0
abbrev tw11402985239775954972:=0
abbrev tw13733899689219949579:=0
abbrev tw6766315458380471573:=0
abbrev tw12417915880291418374:=0
abbrev tw3811703699978918678:=0
abbrev tw5432392306897004823:=0
abbrev tw8215563462725095312:=0
abbrev tw17783171093684463658:=0
abbrev tw2469698600680262776:=0
abbrev tw12060712021062693942:=0
abbrev tw7326286973794878434:=0
abbrev tw11653155488442939196:=0
abbrev tw68520099894838716:=0
abbrev tw8530734932496925766:=0
abbrev tw535184636943282861:=0
abbrev tw11004634565326704179:=0
abbrev tw12976021957191161279:=0
abbrev tw14347294492708946676:=0
abbrev tw1031494895972806150:=0
abbrev tw6659886474300150700:=0
abbrev tw8644192231865558077:=0
abbrev tw12253802837784210249:=0
abbrev tw8796404551777295069:=0
abbrev tw10830400044466776639:=0
abbrev tw4343545004953858189:=0
abbrev tw3975970510613690532:=0
abbrev tw6000317502882683697:=0
abbrev tw9413030576791814648:=0
abbrev tw15582088372843520147:=0
abbrev tw16454279232548766522:=0
abbrev tw10985135226213773311:=0
abbrev tw15849691120492578407:=0
abbrev tw217037367026496552:=0
abbrev tw1208482834100964490:=0
abbrev tw13934218244420152717:=0
abbrev tw3625930710133045989:=0
abbrev tw8784441372341587210:=0
abbrev tw17851951101740424453:=0
end PySem.W.Fast
end
open PySem PySem.W PyProof.Rows L2
local macro_rules|`(tactic|x_fa $a $b $c)=>`(tactic|(dsimp only [L2.KOf];refine' lq $a $b (fun _ _ _ _ _ _=>$c (by intros;rfl)) ?a ?l ?c ?k;(case a=>k_is);(case l=>k_is);(case c=>k_is);(case k=>k_is)))
set_option maxRecDepth 100000 in
set_option maxHeartbeats 0 in
theorem PySem.Challenge.cw_shearfloor_k19_texts_of_no_word_holds : PySem.Challenge.rw_shearfloor_k19_texts_of_no_word.Holds := by
 w_on;o_law;k_head;(case hw=>w_witness2)
 k_fill
 refine L2.Gy (l:=PySem.Challenge.rw_shearfloor_k19_texts_of_no_word) (n:=63) (k:=9) (x:="_law_script") (CX:=dm) (sp:=L4.ql) rfl (by decide) rfl ⟨rfl,by decide,by decide,rfl⟩ (fun w h Y=>PySem.W.kIn_of Y) ?F ?S ?C
 case F =>
  intro w mg fa h KX G hmg;have T:My.Txt mg:=by
   refine' ⟨mF KX G ?z0,mF KX G ?z1,mF KX G ?z2,mF KX G ?z3,mF KX G ?z4,mF KX G ?z5,mF KX G ?z6,mF KX G ?z7,mF KX G ?z8,mF KX G ?z9,mF KX G ?Lm,mF KX G ?Ln⟩
   (case z0=>k_is);(case z1=>k_is);(case z2=>k_is);(case z3=>k_is);(case z4=>k_is);(case z5=>k_is);(case z6=>k_is);(case z7=>k_is);(case z8=>k_is);(case z9=>k_is);(case Lm=>k_is);(case Ln=>k_is)
  have Z:∃ah aG aV bw aH aI aJ cI,My.XF (L2.KOf KX) mg ah aG aV bw aH aI aJ cI:=by
   dsimp only [L2.KOf];refine' ⟨_,_,_,_,_,_,_,_,My.xF KX G ?aM ?c7 ?eF ?fO ?dc ?de ?df ?jB ?eG ?cy ?dg ?dh ?di ?dj ?j5 ?j6 ?k0 ?k1 ?k2 ?k3 ?k4 ?k5 ?k6 ?k7 ⟨?kR,?kS,?kT,?kU,?kW,?kX,?kY,?kZ⟩ ⟨?j7,?j8,?kc⟩ (Hx (fun _ _ _ _ _ _=>My.tM fun _ _=>rfl) ?il ?ic ?ik)⟩
   (case aM=>k_is);(case c7=>k_is);(case eF=>k_is);(case fO=>k_is);(case dc=>k_is);(case de=>k_is);(case df=>k_is);(case jB=>k_is)
   (case il=>k_is);(case ic=>k_is);(case ik=>k_is)
   (case eG=>first|rfl|k_is|kernel_rfl);(case cy=>first|rfl|k_is|kernel_rfl);(case dg=>first|rfl|k_is|kernel_rfl);(case dh=>first|rfl|k_is|kernel_rfl);(case di=>first|rfl|k_is|kernel_rfl);(case dj=>first|rfl|k_is|kernel_rfl);(case j5=>first|rfl|k_is|kernel_rfl);(case j6=>first|rfl|k_is|kernel_rfl);(case k0=>first|rfl|k_is|kernel_rfl);(case k1=>first|rfl|k_is|kernel_rfl);(case k2=>first|rfl|k_is|kernel_rfl);(case k3=>first|rfl|k_is|kernel_rfl);(case k4=>first|rfl|k_is|kernel_rfl);(case k5=>first|rfl|k_is|kernel_rfl);(case k6=>first|rfl|k_is|kernel_rfl);(case k7=>first|rfl|k_is|kernel_rfl);(case kR=>first|rfl|k_is|kernel_rfl);(case kS=>first|rfl|k_is|kernel_rfl);(case kT=>first|rfl|k_is|kernel_rfl);(case kU=>first|rfl|k_is|kernel_rfl);(case kW=>first|rfl|k_is|kernel_rfl);(case kX=>first|rfl|k_is|kernel_rfl);(case kY=>first|rfl|k_is|kernel_rfl);(case kZ=>first|rfl|k_is|kernel_rfl);(case j7=>first|rfl|k_is|kernel_rfl);(case j8=>first|rfl|k_is|kernel_rfl);(case kc=>first|rfl|k_is|kernel_rfl)
  obtain ⟨_,_,_,_,_,_,_,_,Z⟩:=Z;have gu:∃v,L4.jM (L2.KOf KX) mg "FIGURES" v (.str "0123456789"):=by
   dsimp only [L2.KOf];refine' L4.BN (v:=V.str "0123456789") KX G ?a ?r ?d
   (case a=>k_is);(case r=>exact ⟨_,rfl⟩);(case d=>exact fun ρ H=>.str _)
  obtain ⟨_,gu⟩:=gu;have cH:∃v,L4.jM (L2.KOf KX) mg "MOST_FIGURES" v (.int 4):=by
   dsimp only [L2.KOf];refine' L4.BN (v:=V.int 4) KX G ?a ?r ?d
   (case a=>k_is);(case r=>exact ⟨_,rfl⟩);(case d=>exact fun ρ H=>.int _)
  obtain ⟨_,cH⟩:=cH;have fG:∃v,L4.jM (L2.KOf KX) mg "NO_STEPS" v (.str "."):=by
   dsimp only [L2.KOf];refine' L4.BN (v:=V.str ".") KX G ?a ?r ?d
   (case a=>k_is);(case r=>exact ⟨_,rfl⟩);(case d=>exact fun ρ H=>.str _)
  obtain ⟨_,fG⟩:=fG;have fH:∃v,L4.jM (L2.KOf KX) mg "QUARTERS" v (.tup [(.str "1"),(.str "2"),(.str "3")]):=by
   dsimp only [L2.KOf];refine' L4.Jx (vs:=[V.str "1",V.str "2",V.str "3"]) KX G ?a ?l ?o ?z ?v ?d
   (case a=>k_is);(case l=>k_is);(case o=>rfl);(case z=>decide);(case v=>exact (.cons ⟨_,rfl⟩ (.cons ⟨_,rfl⟩ (.cons ⟨_,rfl⟩ .nil))));(case d=>exact fun ρ H=>(.cons (.str _) (.cons (.str _) (.cons (.str _) .nil))))
  obtain ⟨_,fH⟩:=fH;obtain⟨_,_,eH⟩:∃f fd,My.D10 (L2.KOf KX) mg f fd:=by x_fa KX G My.tM
  obtain⟨_,_,eI⟩:∃f fd,My.D11 (L2.KOf KX) mg f fd:=by x_fa KX G My.tM
  obtain⟨_,_,eJ⟩:∃f fd,My.D12 (L2.KOf KX) mg f fd:=by x_fa KX G My.J9
  have dS:∃f fd,My.D13 (L2.KOf KX) mg f fd:=by
   dsimp only [L2.KOf];refine' lq KX G (fun _ _ _ _ _ _ us hl=>match us,hl with|[],_=>rfl) ?a ?l ?c ?k
   (case a=>k_is);(case l=>k_is);(case c=>k_is);(case k=>k_is)
  obtain ⟨_,_,dS⟩:=dS;obtain⟨_,_,cV⟩:∃f fd,My.D14 (L2.KOf KX) mg f fd:=by x_fa KX G My.tM
  obtain⟨_,_,cJ⟩:∃f fd,My.D15 (L2.KOf KX) mg f fd:=by x_fa KX G My.uK
  obtain⟨_,_,fJ⟩:∃f fd,My.D16 (L2.KOf KX) mg f fd:=by x_fa KX G My.uK
  obtain⟨_,_,bh⟩:∃f fd,My.D17 (L2.KOf KX) mg f fd:=by x_fa KX G My.tM
  obtain⟨_,_,eK⟩:∃f fd,Def (L2.KOf KX) mg "read_step" My.x4 ["text"] f fd:=by x_fa KX G My.uK
  obtain⟨_,_,eL⟩:∃f fd,Def (L2.KOf KX) mg "read_word" My.x6 ["text"] f fd:=by x_fa KX G My.uK
  obtain⟨_,_,dU⟩:∃f fd,Def (L2.KOf KX) mg "_law_alike" My.tN ["_law_found","_law_due_here"] f fd:=by x_fa KX G My.tM
  obtain⟨_,_,cm⟩:∃f fd,Def (L2.KOf KX) mg "_law_is_alone" My.yc ["_law_e","_law_own"] f fd:=by x_fa KX G My.tM
  obtain⟨_,_,dW⟩:∃f fd,My.D18 (L2.KOf KX) mg f fd:=by x_fa KX G My.uK
  obtain⟨_,_,kd⟩:∃f fd,My.D19 (L2.KOf KX) mg f fd:=by x_fa KX G My.uK
  have e0:=hmg.symm.trans kd.m;cases e0;exact ⟨_,kd.oR,fun base _ _=>L4.sd (My.t8 T Z gu cH fG fH eH eI eJ dS cV cJ fJ bh eK eL dU cm dW kd) fun ns hn=>let ⟨_,st,e,h⟩:=My.oa ns hn;⟨st,h ▸ e⟩⟩
 case S=>exact fun K H a ns hl hO hS=>⟨a,ns,rfl,hS.script hO,hl,fun _=>rfl⟩
 case C=>exact fun _ _ _ _ z=>z
