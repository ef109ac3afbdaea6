import PyProof.Rows.All
import Wide.All
import OpenK.AllK
import Wide.FinOn
import Lean
import PyProof.EqAt
import PyProof.EqKinds
import PyProof.TupleCall
import PyProof.NeKinds
import PySem.Challenge.RW_oncedone_k24_ways_known
set_option Elab.async false
set_option linter.all false
set_option maxRecDepth 100000
abbrev Fg:=PySem.W.Frag
abbrev Nt:=List (List Nat)
theorem gI{α:Type}{l:List α}{i:Nat}{a:α}(h:l[i]?=some a):i<l.length:=(List.getElem?_eq_some_iff.mp h).1
theorem mI{α:Type}{l:List α}{i:Nat}{a:α}(h:l[i]?=some a):a∈l:=List.mem_of_getElem? h
namespace L2
open PySem PySem.Spec PyProof.Rows
abbrev Key:=Sum Int Str
def keyIs:Key->Value->Bool
 | .inl k,v=>Value.isInt k v
 | .inr x,v=>Value.isStrOf x v
def keyH(w:World):Key->Int
 | .inl k=>hashInt k
 | .inr x=>hashStr w x
theorem keyIs_shape:∀ {k:Key} {v:Value},keyIs k v=true->(∃i t,k=Sum.inl i/\v=Value.int i t)\/(∃x t,k=Sum.inr x/\v=Value.str x t)
 | .inl i,v,h=>by
  obtain⟨t,e⟩:=Value.isInt_shape (k:=i) (v:=v) h
  exact .inl ⟨i,t,rfl,e⟩
 | .inr x,v,h=>by
  obtain⟨t,e⟩:=Value.isStrOf_shape (x:=x) (v:=v) h
  exact .inr ⟨x,t,rfl,e⟩
theorem keyIs_int(i:Int)(t:Tok):keyIs (.inl i) (.int i t)=true:=by simp[keyIs,Value.isInt]
theorem keyIs_str(x:Str)(t:Tok):keyIs (.inr x) (.str x t)=true:=by simp[keyIs,Value.isStrOf]
theorem key_ll(a b:Int):decide ((Sum.inl a:Key)=Sum.inl b)=(a == b):=by
 by_cases e:a=b
 ·subst e;simp
 ·have h:¬(Sum.inl a:Key)=Sum.inl b:=fun q=>e (Sum.inl.inj q)
  rw[decide_eq_false h]
  exact(beq_eq_false_iff_ne.mpr e).symm
theorem key_rr(a b:Str):decide ((Sum.inr a:Key)=Sum.inr b)=decide (a=b):=by
 by_cases e:a=b
 ·subst e;simp
 ·have h:¬(Sum.inr a:Key)=Sum.inr b:=fun q=>e (Sum.inr.inj q)
  rw[decide_eq_false h,decide_eq_false e]
theorem key_lr(a:Int)(b:Str):decide ((Sum.inl a:Key)=Sum.inr b)=false:=decide_eq_false (fun q=>nomatch q)
theorem key_rl(a:Str)(b:Int):decide ((Sum.inr a:Key)=Sum.inl b)=false:=decide_eq_false (fun q=>nomatch q)
def mixKind(prog:Program)(w:World):PySem.KeyKind prog w Key where
 is:=keyIs
 hash:=keyH w
 inj:=fun v a b ha hb=>by
  rcases keyIs_shape ha with ⟨i,t,rfl,rfl⟩ | ⟨x,t,rfl,rfl⟩
  ·rcases keyIs_shape hb with ⟨j,u,rfl,e⟩ | ⟨y,u,rfl,e⟩
   ·injection e with e1 _;rw[e1]
   ·exact nomatch e
  ·rcases keyIs_shape hb with ⟨j,u,rfl,e⟩ | ⟨y,u,rfl,e⟩
   ·exact nomatch e
   ·injection e with e1 _;rw[e1]
 byValue:=fun k v h=>by
  rcases keyIs_shape h with ⟨i,t,rfl,rfl⟩ | ⟨x,t,rfl,rfl⟩ <;> rfl
 pyHash:=fun hv h=>by
  rcases keyIs_shape hv with ⟨i,t,rfl,rfl⟩ | ⟨x,t,rfl,rfl⟩
  ·exact wpAny_pyHash_int h
  ·exact wpAny_pyHash_str h
 eqBool:=fun hu hv h=>by
  rcases keyIs_shape hu with ⟨i,t,rfl,rfl⟩ | ⟨x,t,rfl,rfl⟩
  ·rcases keyIs_shape hv with ⟨j,u,rfl,rfl⟩ | ⟨y,u,rfl,rfl⟩
   ·rw[key_ll]at h;exact wpAny_eqBool_int h
   ·rw[key_lr]at h;exact SeqAt.EqAt.int_str i t y u _ _ _ _ h
  ·rcases keyIs_shape hv with ⟨j,u,rfl,rfl⟩ | ⟨y,u,rfl,rfl⟩
   ·rw[key_rl]at h;exact SeqAt.EqAt.str_int x t j u _ _ _ _ h
   ·rw[key_rr]at h;exact wpAny_eqBool_str h
 «strs» := fun k x t v h=>by
  rcases keyIs_shape h with ⟨i,u,rfl,e⟩ | ⟨y,u,rfl,e⟩
  ·exact nomatch e
  ·injection e with e1 _
   subst e1
   cases v <;> rfl
theorem mixKind_int(prog:Program)(w:World)(i:Int)(t:Tok):(mixKind prog w).is (.inl i) (.int i t)=true:=keyIs_int i t
theorem mixKind_str(prog:Program)(w:World)(x:Str)(t:Tok):(mixKind prog w).is (.inr x) (.str x t)=true:=keyIs_str x t
end L2
namespace L2
open PySem PySem.Spec PyProof.Rows
inductive V where
 | non | bl (b:Bool) | int (i:Int) | str (x:Str) | byt (b:Array UInt8) | flt (b:UInt64) | ref (a:Addr) | ty (n:String)
 deriving DecidableEq
def RelV:V->Value->Prop
 | .non,u=>u=Value.none
 | .bl b,u=>u=Value.bool b
 | .int i,u=>∃t,u=Value.int i t
 | .str x,u=>∃t,u=Value.str x t
 | .byt b,u=>∃t,u=Value.bytes b t
 | .flt b,u=>∃t,u=Value.float b t
 | .ref a,u=>u=Value.ref a
 | .ty n,u=>u=Value.type n
abbrev Vals:List V->List Value->Prop:=Paired RelV
theorem Vals.length{xs:List V}{us:List Value}(r:Vals xs us):xs.length=us.length:=Paired.length r
theorem Vals.get:∀ {xs:List V} {us:List Value} {i:Nat} {x:V},Vals xs us->xs[i]? = some x->∃u,us[i]? = some u/\RelV x u
 | _,_,_,_,.nil,e=>by simp at e
 | _,_,0,_,.cons r _,e=>by simp at e;subst e;exact⟨_,rfl,r⟩
 | _,_,i+1,x,.cons _ t,e=>by
  obtain⟨u,h1,h2⟩:=Vals.get (i:=i) (x:=x) t (by simpa using e)
  exact⟨u,by simpa using h1,h2⟩
theorem Vals.set{x:V}{u:Value}(r:RelV x u):∀ {xs:List V} {us:List Value} (i:Nat),Vals xs us->Vals (xs.set i x) (us.set i u)
 | _,_,_,.nil=>.nil
 | _,_,0,.cons _ t=>.cons r t
 | _,_,i+1,.cons q t=>.cons q (Vals.set r i t)
theorem Vals.append:∀ {xs ys:List V} {us ws:List Value},Vals xs us->Vals ys ws->Vals (xs++ys) (us++ws)
 | _,_,_,_,.nil,s=>s
 | _,_,_,_,.cons r t,s=>.cons r (Vals.append t s)
theorem Vals.take:∀ {xs:List V} {us:List Value} (n:Nat),Vals xs us->Vals (xs.take n) (us.take n)
 | _,_,0,_=>.nil
 | _,_,_+1,.nil=>.nil
 | _,_,n+1,.cons r t=>.cons r (Vals.take n t)
theorem Vals.drop:∀ {xs:List V} {us:List Value} (n:Nat),Vals xs us->Vals (xs.drop n) (us.drop n)
 | _,_,0,r=>r
 | _,_,_+1,.nil=>.nil
 | _,_,n+1,.cons _ t=>Vals.drop n t
theorem Vals.none_of:∀ {xs:List V} {us:List Value} {i:Nat},Vals xs us->xs[i]? = none->us[i]? = none:=fun {xs us i} r e=>by
 have h1:=r.length
 have h2:xs.length<=i:=List.getElem?_eq_none_iff.mp e
 exact List.getElem?_eq_none_iff.mpr (by omega)
def RelO:Option V->Option Value->Prop
 | some v,some u=>RelV v u
 | none,none=>True
 | _,_=>False
def KV{κ:Type}:List (κ×V)->List (κ×Value)->Prop:=Paired fun(p:κ×V) (q:κ×Value)=>p.1=q.1/\RelV p.2 q.2
def kV:Key->V
 | .inl i=>.int i
 | .inr x=>.str x
inductive HO where
 /-- a list -/
 | lst (xs:List V)
 /-- a tuple (never changes) -/
 | tup (xs:List V)
 /-- a dict whose keys are ints and texts;one whose keys are tuples of ints and texts (the empty one is both) -/
 | dK (kvs:List (Key×V)) | dT (kvs:List (List Key×V))
 /-- a set of ints: its members,its size -/
 | set (S:Int->Bool) (n:Nat)
 /-- an instance of the class at C,its dict at dx,its attributes -/
 | ins (C dx:Addr) (fs:List (Str×V))
 /-- the dict of the instance at x -/
 | own (x:Addr)
 /-- the dict of an exception -/
 | xd (fs:List (Str×V))
 /-- a bound method,f of x -/
 | met (f x:Addr)
 /-- a range object lo,lo+1,.. below hi -/
 | rng (lo hi:Int)
 /-- a thing that is known to the object (the script;a dict while a loop walks it): read,never written while it is so -/
 | frz (o:Obj) (u:HO)
 /-- a code object's table -/
 | tbl (ps:Array Value)
 /-- any other thing,by what is true of its one object (a def of one's own: SetO a S n:=HO.ext fun h=>..) -/
 | ext (φ:Heap->Prop)
abbrev Hp:=Addr->Option HO
def upd(H:Hp)(a:Addr)(o:HO):Hp:=fun b=>if b=a then some o else H b
theorem upd_same{H:Hp}{a:Addr}{o:HO}:upd H a o a=some o:=by unfold upd;rw[if_pos rfl]
theorem upd_ne{H:Hp}{a b:Addr}{o:HO}(h:b≠a):upd H a o b=H b:=by unfold upd;rw[if_neg h]
theorem upd_upd{H:Hp}{a:Addr}{o u:HO}:upd (upd H a o) a u=upd H a u:=by
 funext b;unfold upd;split <;> rfl
theorem ne_of{H:Hp}{a b:Addr}{o u:HO}(h:H a=some o)(h':H b=some u)(d:o≠u):a≠b:=by
 intro e;subst e;rw[h]at h';exact d (Option.some.inj h')
theorem ne_of_none{H:Hp}{a b:Addr}{o:HO}(h:H a=some o)(h':H b=none):a≠b:=by
 intro e;subst e;rw[h]at h';cases h'
section
variable (P:Program)(w:World)
def ObjOk(H:Hp)(h:Heap)(a:Addr):HO->Prop
 | .lst xs=>xs.length<=sizeLine/\∃(its:List Value) (n:Nat),Vals xs its/\h.get? a=some { cls:=.type "list", data:=.seq its.toArray n }
 | .tup xs=>xs.length<=sizeLine/\∃its:List Value,Vals xs its/\IsTup h a its.toArray
 | .dK kvs=>kvs.length<=sizeLine/\(a == sysModules)=false/\∃vs,KV kvs vs/\h.DictOf (mixKind P w) a vs
 | .dT kvs=>kvs.length<=sizeLine/\(a == sysModules)=false/\∃xs:List (List Key×Addr×Value),
   Paired (fun(p:List Key×V) (q:List Key×Addr×Value)=>p.1=q.1/\H q.2.1=some (.tup (p.1.map kV))/\RelV p.2 q.2.2) kvs xs /\
   ∃o es ep,h.get? a=some o/\o.ExactDict/\o.data=.dict es ep/\es.toList=xs.map (entryOfKey (tupleKind (mixKind P w)))/\(xs.map (·.1)).Nodup
 | .set S n=>h.SetOf (intKind P w) a S n
 | .ins C dx fs=>H dx=some (.own a)/\fs.length<=1000/\dx≠a/\h.get? a=some (PySem.W.instObj C dx) /\
   ∃mA,h.Ns1 dx mA/\(∀f,RelO (fs.lookup f) (mA f))/\PySem.Within mA (fs.map (·.1))
 | .own _=>∃o,h.get? a=some o
 | .xd fs=>∃mA,h.Ns1 a mA/\∀f,RelO (fs.lookup f) (mA f)
 | .rng lo hi=>∃t u v,h.get? a=some { cls:=.type "range", data:=.fields #[.int lo t,.int hi u,.int 1 v] }
 | .frz o u=>h.get? a=some o/\ObjOk H h a u
 | .tbl ps=>h.get? a=some { cls:=.none,data:=.fields ps }
 | .met f x=>h.get? a=some (PySem.W.methodObj (.ref f) (.ref x))
 | .ext φ=>φ h/\(∃o,h.get? a=some o)/\∀h1 h2:Heap,φ h1->(∀o,h1.get? a=some o->h2.get? a=some o)->φ h2
def HOk(H:Hp)(h:Heap):Prop:=∀a o,H a=some o->ObjOk P w H h a o
end
section
variable {P:Program}{w:World}{H H':Hp}{h h':Heap}{a:Addr}{o:HO}
theorem ObjOk.lt(x:ObjOk P w H h a o):a<h.objs.size:=by
 cases o with
 | lst xs=>obtain⟨_,_,_,_,e⟩:=x;exact Heap.lt_size e
 | tup xs=>obtain⟨_,_,_,p⟩:=x;exact p.lt
 | dK kvs=>obtain⟨_,_,_,_,o,_,_,e,_⟩:=x;exact Heap.lt_size e
 | dT kvs=>obtain⟨_,_,_,_,o,_,_,e,_⟩:=x;exact Heap.lt_size e
 | set S n=>obtain⟨o,_,_,_,e,_⟩:=x;exact Heap.lt_size e
 | ins C dx fs=>obtain⟨_,_,_,e,_⟩:=x;exact Heap.lt_size e
 | own y=>obtain⟨_,e⟩:=x;exact Heap.lt_size e
 | xd fs=>obtain⟨_,⟨_,_,_,e,_⟩,_⟩:=x;exact Heap.lt_size e
 | rng lo hi=>obtain⟨_,_,_,e⟩:=x;exact Heap.lt_size e
 | frz ob u=>obtain⟨e,_⟩:=x;exact Heap.lt_size e
 | tbl ps=>exact Heap.lt_size (show h.get? a=some _ from x)
 | met f y=>exact Heap.lt_size (show h.get? a=some _ from x)
 | ext φ=>obtain⟨_,⟨_,e⟩,_⟩:=x;exact Heap.lt_size e
theorem Paired.mapP{α β:Type}{F G:α->β->Prop}:∀ {l₁:List α} {l₂:List β},Paired F l₁ l₂->(∀a b,F a b->G a b)->Paired G l₁ l₂
 | _,_,.nil,_=>.nil
 | _,_,.cons r t,f=>.cons (f _ _ r) (Paired.mapP t f)
theorem ObjOk.stay(x:ObjOk P w H h a o)(k:∀b u,(b=a\/H b=some (.own a))->h.get? b=some u->h'.get? b=some u)
  (ho:∀b,H b=some (.own a)->H' b=some (.own a)) (ht:∀b xs,H b=some (.tup xs)->H' b=some (.tup xs)):ObjOk P w H' h' a o:=by
 induction o with
 | lst xs=>obtain⟨z,its,n,r,e⟩:=x;exact⟨z,its,n,r,k _ _ (.inl rfl) e⟩
 | tup xs=>obtain⟨z,its,r,ob,e,c⟩:=x;exact⟨z,its,r,ob,k _ _ (.inl rfl) e,c⟩
 | dK kvs=>obtain⟨z,y,vs,r,ob,es,ep,e,c⟩:=x;exact⟨z,y,vs,r,ob,es,ep,k _ _ (.inl rfl) e,c⟩
 | dT kvs=>
  obtain⟨z,y,xs,r,ob,es,ep,e,c⟩:=x
  exact⟨z,y,xs,Paired.mapP r fun p q z=>⟨z.1,ht _ _ z.2.1,z.2.2⟩,ob,es,ep,k _ _ (.inl rfl) e,c⟩
 | set S n=>obtain⟨ob,es,ep,t,e,c⟩:=x;exact⟨ob,es,ep,t,k _ _ (.inl rfl) e,c⟩
 | ins C dx fs=>
  obtain⟨d,z,ne,e,mA,⟨od,es,ep,e2,c⟩,r⟩:=x
  exact⟨ho _ d,z,ne,k _ _ (.inl rfl) e,mA,⟨od,es,ep,k _ _ (.inr d) e2,c⟩,r⟩
 | own y=>obtain⟨ob,e⟩:=x;exact⟨ob,k _ _ (.inl rfl) e⟩
 | xd fs=>obtain⟨mA,⟨od,es,ep,e,c⟩,r⟩:=x;exact⟨mA,⟨od,es,ep,k _ _ (.inl rfl) e,c⟩,r⟩
 | rng lo hi=>obtain⟨t,u,v,e⟩:=x;exact⟨t,u,v,k _ _ (.inl rfl) e⟩
 | frz ob u ih=>obtain⟨e,q⟩:=x;exact⟨k _ _ (.inl rfl) e,ih q⟩
 | tbl ps=>
  have e:h.get? a=some { cls:=.none,data:=.fields ps }:=x
  show h'.get? a=some { cls:=.none,data:=.fields ps }
  exact k a _ (.inl rfl) e
 | met f y=>
  have e:h.get? a=some (PySem.W.methodObj (.ref f) (.ref y)):=x
  show h'.get? a=some (PySem.W.methodObj (.ref f) (.ref y))
  exact k a _ (.inl rfl) e
 | ext φ=>obtain⟨p,⟨o,e⟩,st⟩:=x;exact⟨st _ _ p fun o q=>k _ _ (.inl rfl) q,⟨o,k _ _ (.inl rfl) e⟩,st⟩
theorem HOk.lt(x:HOk P w H h)(e:H a=some o):a<h.objs.size:=(x a o e).lt
theorem HOk.fresh(x:HOk P w H h)(e:h.objs.size<=a):H a=none:=by
 cases q:H a with
 | none=>rfl
 | some u=>exact absurd (Nat.lt_of_lt_of_le (x.lt q) e) (Nat.lt_irrefl _)
theorem HOk.kept(x:HOk P w H h)(k:∀b u,h.get? b=some u->h'.get? b=some u):HOk P w H h':=fun a o e=>
 (x a o e).stay (fun b u _ q=>k b u q) (fun _ q=>q) fun _ _ q=>q
theorem HOk.laid(x:HOk P w H h)(k:∀b u,h.get? b=some u->h'.get? b=some u)(hp:h.objs.size<=a)(new:ObjOk P w (upd H a o) h' a o):HOk P w (upd H a o) h':=fun b u e=>by
 have hn:=x.fresh hp
 by_cases hb:b=a
 ·subst hb;rw[upd_same]at e;cases e;exact new
 ·rw[upd_ne hb]at e
  exact(x b u e).stay (fun c v _ q=>k c v q) (fun c q=>by rw[upd_ne (ne_of_none q hn)];exact q) fun c xs q=>by rw[upd_ne (ne_of_none q hn)];exact q
end
def Rd(H:Hp)(a:Addr)(u:HO):Prop:=H a=some u\/∃o,H a=some (.frz o u)
theorem Rd.of{H:Hp}{a:Addr}{u:HO}(h:H a=some u):Rd H a u:=.inl h
theorem Rd.ok{P:Program}{w:World}{H:Hp}{h:Heap}{a:Addr}{u:HO}(r:Rd H a u)(x:HOk P w H h):ObjOk P w H h a u:=by
 rcases r with r | ⟨o,r⟩
 ·exact x a u r
 ·obtain⟨_,q⟩:=x a _ r
  exact q
def Mut:Option HO->Prop
 | some (.lst _)=>True
 | some (.dK _)=>True
 | some (.dT _)=>True
 | some (.set _ _)=>True
 | some (.ins _ _ _)=>True
 | some (.ext _)=>True
 | _=>False
section
variable {P:Program}{w:World}{H:Hp}{h h':Heap}{x e:Addr}{o':HO}
theorem HOk.write(ok:HOk P w H h)(mu:Mut (H x))(he:e=x\/H e=some (.own x))(k:∀b u,b≠e->h.get? b=some u->h'.get? b=some u)(heo:∃u,h'.get? e=some u)
  (new:ObjOk P w (upd H x o') h' x o'):HOk P w (upd H x o') h':=fun b u q=>by
 have nown:∀c y,H c=some (.own y)->c≠x:=fun c y r z=>by subst z;rw[r]at mu;exact mu
 have ntup:∀c xs,H c=some (.tup xs)->c≠x:=fun c xs r z=>by subst z;rw[r]at mu;exact mu
 by_cases hb:b=x
 ·subst hb;rw[upd_same]at q;cases q;exact new
 ·rw[upd_ne hb]at q
  by_cases hbe:b=e
  ·have q':H b=some (.own x):=by
    rcases he with z | z
    ·exact absurd (hbe.trans z) hb
    ·rw[hbe];exact z
   rw[q]at q';cases q'
   obtain⟨v,hv⟩:=heo
   exact⟨v,by rw[hbe];exact hv⟩
  ·refine(ok b u q).stay (fun c v hc r=>k c v ?_ r) (fun c r=>by rw[upd_ne (nown c b r)];exact r) fun c xs r=>by rw[upd_ne (ntup c xs r)];exact r
   rcases hc with rfl | hc
   ·exact hbe
   ·rintro rfl
    rcases he with z | z
    ·exact nown c b hc z
    ·rw[hc]at z;cases z;exact hb rfl
end
structure Un(fs ex:List Addr)(H H':Hp)(h h':Heap):Prop where
 keep:∀b o,h.get? b=some o->H b=none->b∉fs->b∉ex->h'.get? b=some o
 slot:∀b o,h.get? b=some o->H b=none->b∈fs->b∉ex->∃sl,h'.get? b=some { o with slots:=sl }
 free:∀b o,h.get? b=some o->H b=none->b∉ex->H' b=none
 there:∀b o,h.get? b=some o->b∉ex->∃o',h'.get? b=some o'
 tups:∀b xs,H b=some (.tup xs)->H' b=some (.tup xs)
 frzs:∀b o u,H b=some (.frz o u)->H' b=some (.frz o u)
 tbls:∀b ps,H b=some (.tbl ps)->∃more,H' b=some (.tbl (ps++more))
section
variable {fs fs' ex ex':List Addr}{H H1 H2:Hp}{h h1 h2 h':Heap}{a x e:Addr}{o:HO}
theorem Un.any(u:Un fs ex H H1 h h1){b:Addr}{ob:Obj}(q:h.get? b=some ob)(n:H b=none)(hx:b∉ex):∃sl,h1.get? b=some { ob with slots:=sl }:=by
 by_cases hb:b∈fs
 ·exact u.slot b ob q n hb hx
 ·exact⟨ob.slots,u.keep b ob q n hb hx⟩
theorem Un.trans(a:Un fs ex H H1 h h1)(b:Un fs ex H1 H2 h1 h2):Un fs ex H H2 h h2 where
 keep:=fun c ob q n hc hx=>b.keep c ob (a.keep c ob q n hc hx) (a.free c ob q n hx) hc hx
 slot:=fun c ob q n hc hx=>by
  obtain⟨sl,e1⟩:=a.slot c ob q n hc hx
  obtain⟨sl',e2⟩:=b.slot c _ e1 (a.free c ob q n hx) hc hx
  exact⟨sl',e2⟩
 free:=fun c ob q n hx=>by
  obtain⟨o',e1⟩:=a.there c ob q hx
  exact b.free c o' e1 (a.free c ob q n hx) hx
 there:=fun c ob q hx=>by
  obtain⟨o',e1⟩:=a.there c ob q hx
  exact b.there c o' e1 hx
 tups:=fun c xs q=>b.tups c xs (a.tups c xs q)
 frzs:=fun c ob xs q=>b.frzs c ob xs (a.frzs c ob xs q)
 tbls:=fun c ps q=>by
  obtain⟨m1,e1⟩:=a.tbls c ps q
  obtain⟨m2,e2⟩:=b.tbls c _ e1
  exact⟨m1++m2,by rw[e2,Array.append_assoc]⟩
theorem Un.kept(k:∀b u,h.get? b=some u->h'.get? b=some u):Un fs ex H H h h':=
 ⟨fun b ob q _ _ _=>k b ob q,fun b ob q _ _ _=>⟨ob.slots,k b ob q⟩,fun _ _ _ n _=>n,fun b ob q _=>⟨ob,k b ob q⟩,fun _ _ q=>q,fun _ _ _ q=>q,fun _ ps q=>⟨#[],by rw[q];simp⟩⟩
theorem Un.refl:Un fs ex H H h h:=Un.kept fun _ _ q=>q
theorem Un.laid(k:∀b u,h.get? b=some u->h'.get? b=some u)(hp:h.objs.size<=a)(hn:H a=none):Un fs ex H (upd H a o) h h' where
 keep:=fun b u q _ _ _=>k b u q
 slot:=fun b u q _ _ _=>⟨u.slots,k b u q⟩
 free:=fun b u q n _=>by rw[upd_ne (Nat.ne_of_lt (Nat.lt_of_lt_of_le (Heap.lt_size q) hp))];exact n
 there:=fun b u q _=>⟨u,k b u q⟩
 tups:=fun b xs q=>by rw[upd_ne (ne_of_none q hn)];exact q
 frzs:=fun b u xs q=>by rw[upd_ne (ne_of_none q hn)];exact q
 tbls:=fun b ps q=>⟨#[],by rw[upd_ne (ne_of_none q hn),q];simp⟩
theorem Un.write(mu:Mut (H x))(he:e=x\/H e=some (.own x))(k:∀b u,b≠e->h.get? b=some u->h'.get? b=some u)(heo:∃u,h'.get? e=some u):Un fs ex H (upd H x o) h h':=by
 have hx:∀b,H b=none->b≠x:=fun b n z=>by subst z;rw[n]at mu;exact mu
 have hb:∀b,H b=none->b≠e:=fun b n z=>by
  subst z
  rcases he with r | r
  ·exact hx b n r
  ·rw[n]at r;cases r
 have hm:∀b u,H b=some u->¬Mut (some u)->b≠x:=fun b u q nm z=>by subst z;rw[q]at mu;exact nm mu
 refine⟨fun b u q n _ _=>k b u (hb b n) q,fun b u q n _ _=>⟨u.slots,k b u (hb b n) q⟩,fun b u q n _=>by rw[upd_ne (hx b n)];exact n,fun b u q _=>?_,
  fun b xs q=>by rw[upd_ne (hm b _ q fun z=>z)];exact q,fun b u xs q=>by rw[upd_ne (hm b _ q fun z=>z)];exact q,fun b ps q=>⟨#[],by rw[upd_ne (hm b _ q fun z=>z),q];simp⟩⟩
 by_cases hbe:b=e
 ·subst hbe;exact heo
 ·exact⟨u,k b u hbe q⟩
theorem Un.mono(u:Un fs ex H H1 h h1)(hs:∀b∈fs,b∈fs')(hx:∀b∈ex,b∈ex'):Un fs' ex' H H1 h h1:=
 ⟨fun b ob q n hb he=>u.keep b ob q n (fun z=>hb (hs b z)) fun z=>he (hx b z),fun _ _ q n _ he=>u.any q n fun z=>he (hx _ z),fun b ob q n he=>u.free b ob q n fun z=>he (hx b z),fun b ob q he=>u.there b ob q fun z=>he (hx b z),u.tups,u.frzs,u.tbls⟩
end
def trk(h:Heap)(H:Hp):List Addr:=(List.range h.objs.size).filter fun a=>(H a).isSome
def hidT(h:Heap)(H:Hp):Heap:=PySem.W.hideAll h (trk h H)
theorem hidT_size(h:Heap)(H:Hp):(hidT h H).objs.size=h.objs.size:=PySem.W.hideAll_size _ _
theorem hidT_get{h:Heap}{H:Hp}{b:Addr}{o:Obj}(e:h.get? b=some o)(n:H b=none):(hidT h H).get? b=some o:=
 PySem.W.hideAll_get _ e fun hm=>by
  have q:(H b).isSome=true:=(List.mem_filter.mp hm).2
  rw[n]at q;simp at q
theorem of_hidT{h:Heap}{H:Hp}{b:Addr}{o:Obj}(e:(hidT h H).get? b=some o):h.get? b=some o/\H b=none:=by
 have e':h.get? b=some o:=PySem.W.of_hideAll (trk h H) e
 refine⟨e',?_⟩
 cases q:H b with
 | none=>rfl
 | some x=>
  have hm:b∈trk h H:=List.mem_filter.mpr ⟨List.mem_range.mpr (Heap.lt_size e'),by simp[q]⟩
  have z:(hidT h H).get? b=none:=PySem.W.hideAll_none (trk h H) hm
  rw[z]at e;cases e
def allNews(g h:Heap)(L:Addr):List (Addr×Obj):=(List.range h.objs.size).filterMap fun a=>if a=L\/(g.get? a).isSome=true then none else (h.get? a).map fun o=>(a,o)
def rest(g h:Heap)(L d:Addr):List (Addr×Obj):=(allNews g h L).filter fun p=>decide (p.1≠d)
end L2
namespace L2
open PySem PySem.Spec PyProof.Rows
structure Mod(K:Fg)(mg:Str->Option Value)(base:Heap):Prop where
 kin:K.In base
 glob:base.Ns mainGlobals mg
 blt:∃mb,base.Ns builtinsNs mb/\∀x:Str,x ≠ "__name__" -> mb x=bootBuiltins x
 nolimit:base.NoLimit
structure Cx where
 prog:Program
 w:World
 K:Fg
 mg:Str->Option Value
 base:Heap
 A:Around
 N:List Str
 s₀:Shared
 H₀:Hp
 env:Env
 outer:List Env
 stack:List Env
 ex:List Addr
 fn:Str->Bool
 calm:Bool
 pn:List (Addr×Obj)
 xe:Value->Shared->Prop
def frs(l:List Env):List Addr:=l.filterMap (·.frame)
abbrev Cx.fs(X:Cx):List Addr:=frs X.outer
def Vis(sc:Scope)(x:Str):Prop:=sc.names.lookup x=some .local\/sc.names.lookup x=some .cell\/sc.names.lookup x=some .free
def Loc(sc:Scope)(x:Str):Prop:=sc.names.lookup x=some .local\/sc.names.lookup x=some .cell
def Look(env:Env)(h:Heap)(m:Str->Option Value)(x:Str)(u:Value):Prop:=
 (env.kindOf x=some .local/\m x=some u)\/((env.kindOf x=some .cell\/env.kindOf x=some .free)/\∃c,env.cells.lookup x=some c/\h.IsCell c (some u))
structure Cx.Ok(X:Cx):Prop where
 mod:Mod X.K X.mg X.base
 kind:X.env.scope.kind=.function
 glob:X.env.globals=mainGlobals
 blt:X.env.builtins=builtinsNs
 above:X.s₀.heap.objs.size<=X.env.locals
 inj:∀x y c,X.env.cells.lookup x=some c->X.env.cells.lookup y=some c->x=y
 has:∀x,(X.env.kindOf x=some .cell\/X.env.kindOf x=some .free)->∃c,X.env.cells.lookup x=some c
 cab:∀x c,X.fn x=true->X.env.cells.lookup x=some c->X.s₀.heap.objs.size<=c
 hd:X.calm=true->X.A.handled=none
 frames:X.A.frames=some X.stack
 stk:X.stack=X.outer\/(X.stack=X.env::X.outer/\X.env.frame=some X.env.locals)
 exf:∀b∈X.ex,b≠X.env.locals/\∀x c,X.env.cells.lookup x=some c->c≠b
 bs:∀b o,X.base.get? b=some o->X.s₀.heap.get? b=some o/\X.H₀ b=none
 bsz:X.base.objs.size<=X.s₀.heap.objs.size
 noex:∀b o,X.base.get? b=some o->b∉X.ex
 exfs:∀b∈X.ex,b∉X.fs
 funs:X.s₀.heap.FunFrames X.base X.outer
 frf:∀b∈X.fs,X.H₀ b=none
structure Inv(X:Cx)(pins:List (Addr×Obj))(σ:List (Option V))(H:Hp)(s:Shared):Prop where
 ok:X.Ok
 os:s.os=X.s₀.os
 bare:AllBare s.gens
 base:Un X.fs X.ex X.H₀ H X.s₀.heap s.heap
 loc:∃m,s.heap.Ns X.env.locals m/\∀(i:Nat) (x:Str) (v:V),X.N[i]? = some x->σ[i]? = some (some v)->Vis X.env.scope x->∃u,RelV v u/\Look X.env s.heap m x u
 cell:∀x c,X.env.cells.lookup x=some c->∃v,s.heap.IsCell c v
 free:H X.env.locals=none
 freeC:∀x c,X.env.cells.lookup x=some c->H c=none
 pin:∀p∈X.pn++pins,s.heap.get? p.1=some p.2/\H p.1=none/\p.1≠X.env.locals/\p.1∉X.fs/\∀v,p.2.data≠.cell v
 hok:HOk X.prog X.w H s.heap
 len:σ.length=X.N.length
section
variable {X:Cx}{pins:List (Addr×Obj)}{σ:List (Option V)}{H H':Hp}{s:Shared}{h':Heap}
theorem Cx.Ok.nofr(ok:X.Ok){b:Addr}{o:Obj}(e:X.base.get? b=some o):b∉X.fs:=fun hb=>by
 have:=(ok.funs.mem hb).1
 rw[e]at this;cases this
theorem Inv.bs(I:Inv X pins σ H s):∀b o,X.base.get? b=some o->s.heap.get? b=some o/\H b=none:=fun b o e=>
 ⟨I.base.keep b o (I.ok.bs b o e).1 (I.ok.bs b o e).2 (I.ok.nofr e) (I.ok.noex b o e),I.base.free b o (I.ok.bs b o e).1 (I.ok.bs b o e).2 (I.ok.noex b o e)⟩
theorem Inv.bk(I:Inv X pins σ H s):∀b o,X.base.get? b=some o->s.heap.get? b=some o:=fun b o e=>(I.bs b o e).1
theorem Inv.mod(I:Inv X pins σ H s):Mod X.K X.mg X.base:=I.ok.mod
theorem Inv.kIn(I:Inv X pins σ H s):X.K.In s.heap:=I.ok.mod.kin.keeps I.bk
theorem Inv.nolimit(I:Inv X pins σ H s):s.heap.NoLimit:=I.ok.mod.nolimit.keeps I.bk
theorem Inv.fr(I:Inv X pins σ H s):∃m,Fr X.base X.env.locals s.heap m:=
 let⟨m,hn,_⟩:=I.loc
 ⟨m,hn,I.bk,Nat.le_trans I.ok.bsz I.ok.above⟩
theorem Inv.lt(I:Inv X pins σ H s):X.env.locals<s.heap.objs.size:=let⟨_,hn,_⟩:=I.loc;hn.lt
theorem Inv.sz(I:Inv X pins σ H s):X.s₀.heap.objs.size<=s.heap.objs.size:=Nat.le_trans I.ok.above (Nat.le_of_lt I.lt)
theorem Inv.nofs(I:Inv X pins σ H s){a:Addr}(h:s.heap.objs.size<=a):a∉X.fs:=fun hb=>by
 obtain⟨_,o,ho,_⟩:=I.ok.funs.mem hb
 exact absurd (Nat.lt_of_lt_of_le (Heap.lt_size ho) (Nat.le_trans I.sz h)) (Nat.lt_irrefl _)
theorem Inv.cne(I:Inv X pins σ H s):∀x c,X.env.cells.lookup x=some c->c≠X.env.locals:=fun x c e z=>by
 obtain⟨v,o,ho,hd⟩:=I.cell x c e
 obtain⟨m,⟨o',es,ep,ho',hd',_⟩,_⟩:=I.loc
 rw[z,ho']at ho;cases ho;rw[hd']at hd;cases hd
theorem Inv.funs(I:Inv X pins σ H s):s.heap.FunFrames X.base X.outer:=by
 have all:∀(l:List Env),(∀b∈frs l,b∈X.fs)->X.s₀.heap.FunFrames X.base l->s.heap.FunFrames X.base l:=by
  intro l
  induction l with
  | nil=>intro _ _;trivial
  | cons env r ih=>
   intro hs hl
   obtain⟨hk,⟨L,o,hf,hn,ho,hd⟩,hr⟩:=hl
   have hL:L∈X.fs:=hs L (by unfold frs;rw[List.filterMap_cons,hf];exact List.mem_cons_self)
   obtain⟨sl,e⟩:=I.base.slot L o ho (I.ok.frf L hL) hL fun z=>I.ok.exfs L z hL
   exact⟨hk,⟨L,_,hf,hn,e,hd⟩,ih (fun b hb=>hs b (by unfold frs;rw[List.filterMap_cons,hf];exact List.mem_cons_of_mem _ hb)) hr⟩
 exact all X.outer (fun _ hb=>hb) I.ok.funs
theorem Inv.stack(I:Inv X pins σ H s):s.heap.FunFrames X.base X.stack:=by
 rcases I.ok.stk with e | ⟨e,hf⟩
 ·rw[e];exact I.funs
 ·rw[e]
  obtain⟨m,hn,_⟩:=I.loc
  refine .cons (by rw[I.ok.kind];decide) hf hn ?_ I.funs
  exact Heap.get?_none_of_le (Nat.le_trans I.ok.bsz I.ok.above)
theorem Inv.stkSub(I:Inv X pins σ H s):∀b∈frs X.stack,b∈X.env.locals::X.fs:=fun b hb=>by
 rcases I.ok.stk with e | ⟨e,hf⟩
 ·rw[e]at hb;exact List.mem_cons_of_mem _ hb
 ·rw[e]at hb
  unfold frs at hb
  rw[List.filterMap_cons,hf]at hb
  exact hb
theorem Inv.stkFree(I:Inv X pins σ H s):∀b∈frs X.stack,H b=none:=fun b hb=>by
 rcases List.mem_cons.mp (I.stkSub b hb)with e | hb
 ·rw[e];exact I.free
 ·obtain⟨_,o,ho,_⟩:=I.ok.funs.mem hb
  exact I.base.free b o ho (I.ok.frf b hb) fun z=>I.ok.exfs b z hb
theorem Inv.step{g':Array GenState}{t':Nat}{d':Drawn}{ch:List Addr}(I:Inv X pins σ H s)
  (hch:∀b∈ch,(b∈X.ex\/X.s₀.heap.objs.size<=b)/\b≠X.env.locals/\(∀x c,X.env.cells.lookup x=some c->c≠b)/\∀p∈X.pn++pins,p.1≠b)
  (keep:∀b o,b≠X.env.locals->b∉X.fs->b∉ch->s.heap.get? b=some o->H b=none->h'.get? b=some o)
  (slot:∀b o,b≠X.env.locals->b∈X.fs->b∉ch->s.heap.get? b=some o->H b=none->∃sl,h'.get? b=some { o with slots:=sl }) (free:∀b o,b∉ch->s.heap.get? b=some o->H b=none->H' b=none)
  (there:∀b o,b∉ch->s.heap.get? b=some o->∃o',h'.get? b=some o')
  (tups:∀b xs,H b=some (.tup xs)->H' b=some (.tup xs)) (frzs:∀b o u,H b=some (.frz o u)->H' b=some (.frz o u)) (tbls:∀b ps,H b=some (.tbl ps)->∃more,H' b=some (.tbl (ps++more)))
  (ns:∀m,s.heap.Ns X.env.locals m->h'.Ns X.env.locals m) (hok:HOk X.prog X.w H' h') (hg:AllBare g') :
  Inv X pins σ H' { s with heap:=h',gens:=g',drawn:=d',toks:=t' }:=by
 have neL:∀b o,X.s₀.heap.get? b=some o->b≠X.env.locals:=fun b o e=>Nat.ne_of_lt (Nat.lt_of_lt_of_le (Heap.lt_size e) I.ok.above)
 have neC:∀b o,X.s₀.heap.get? b=some o->b∉X.ex->b∉ch:=fun b o e hx hb=>by
  rcases(hch b hb).1 with z | z
  ·exact hx z
  ·exact absurd (Nat.lt_of_lt_of_le (Heap.lt_size e) z) (Nat.lt_irrefl _)
 have cellK:∀x c,X.env.cells.lookup x=some c->∀v,s.heap.IsCell c v->h'.IsCell c v:=fun x c e v ⟨o,ho,hd⟩=>by
  have nch:c∉ch:=fun z=>(hch c z).2.2.1 x c e rfl
  by_cases hc:c∈X.fs
  ·obtain⟨sl,q⟩:=slot c o (I.cne x c e) hc nch ho (I.freeC x c e)
   exact⟨_,q,hd⟩
  ·exact⟨o,keep c o (I.cne x c e) hc nch ho (I.freeC x c e),hd⟩
 refine⟨I.ok,I.os,hg,⟨fun b o e n hb hx=>?_,fun b o e n hb hx=>?_,fun b o e n hx=>?_,fun b o e hx=>?_,fun b xs e=>tups b xs (I.base.tups b xs e),fun b o xs e=>frzs b o xs (I.base.frzs b o xs e),fun b ps e=>?_⟩,?_,fun x c e=>?_,?_,fun x c e=>?_,fun p hp=>?_,hok,I.len⟩
 ·exact keep b o (neL b o e) hb (neC b o e hx) (I.base.keep b o e n hb hx) (I.base.free b o e n hx)
 ·obtain⟨sl,e1⟩:=I.base.slot b o e n hb hx
  obtain⟨sl',e2⟩:=slot b _ (neL b o e) hb (neC b o e hx) e1 (I.base.free b o e n hx)
  exact⟨sl',e2⟩
 ·obtain⟨o',e1⟩:=I.base.there b o e hx
  exact free b o' (neC b o e hx) e1 (I.base.free b o e n hx)
 ·obtain⟨o',e1⟩:=I.base.there b o e hx
  exact there b o' (neC b o e hx) e1
 ·obtain⟨m1,e1⟩:=I.base.tbls b ps e
  obtain⟨m2,e2⟩:=tbls b _ e1
  exact⟨m1++m2,by rw[e2,Array.append_assoc]⟩
 ·obtain⟨m,hn,hl⟩:=I.loc
  refine⟨m,ns m hn,fun i x v e1 e2 e3=>?_⟩
  obtain⟨u,r,l⟩:=hl i x v e1 e2 e3
  refine⟨u,r,?_⟩
  rcases l with l | ⟨k,c,e,z⟩
  ·exact .inl l
  ·exact .inr ⟨k,c,e,cellK x c e _ z⟩
 ·obtain⟨v,z⟩:=I.cell x c e
  exact⟨v,cellK x c e v z⟩
 ·obtain⟨m,⟨o,_,_,ho,_⟩,_⟩:=I.loc
  exact free _ o (fun z=>(hch _ z).2.1 rfl) ho I.free
 ·obtain⟨v,o,ho,hd⟩:=I.cell x c e
  exact free c o (fun z=>(hch c z).2.2.1 x c e rfl) ho (I.freeC x c e)
 ·obtain⟨e,n,ne,nf,d⟩:=I.pin p hp
  have nch:p.1∉ch:=fun z=>(hch p.1 z).2.2.2 p hp rfl
  exact⟨keep p.1 p.2 ne nf nch e n,free p.1 p.2 nch e n,ne,nf,d⟩
theorem Inv.un{t':Nat}(I:Inv X pins σ H s)(u:Un X.fs [] H H' s.heap h')(hok:HOk X.prog X.w H' h'):Inv X pins σ H' { s with heap:=h',toks:=t' }:=by
 obtain⟨m,⟨o,es,ep,ho,r⟩,_⟩:=id I.loc
 obtain⟨sl,hL⟩:=u.any ho I.free (by simp)
 exact I.step (g':=s.gens) (d':=s.drawn) (ch:=[]) (fun _ z=>nomatch z) (fun b o _ hb _ e n=>u.keep b o e n hb (by simp)) (fun b o _ hb _ e n=>u.slot b o e n hb (by simp)) (fun b o _ e n=>u.free b o e n (by simp)) (fun b o _ e=>u.there b o e (by simp)) u.tups u.frzs u.tbls (fun m' hm=>by
  obtain⟨o',es',ep',ho',r'⟩:=hm
  rw[ho]at ho';cases ho'
  exact⟨_,es',ep',hL,r'⟩) hok I.bare
theorem Inv.call{g':Array GenState}{t':Nat}{d':Drawn}{ch:List Addr}(I:Inv X pins σ H s)(u:Un (frs X.stack) ch H H' s.heap h')(hok:HOk X.prog X.w H' h')(hg:AllBare g')
  (hch:∀b∈ch,(b∈X.ex\/X.s₀.heap.objs.size<=b)/\b≠X.env.locals/\(∀x c,X.env.cells.lookup x=some c->c≠b)/\∀p∈X.pn++pins,p.1≠b) :
  Inv X pins σ H' { s with heap:=h',gens:=g',drawn:=d',toks:=t' }:=by
 obtain⟨m,⟨o,es,ep,ho,r⟩,_⟩:=id I.loc
 obtain⟨sl,hL⟩:=u.any ho I.free fun z=>(hch _ z).2.1 rfl
 exact I.step (ch:=ch) hch (fun b o hL hb hc e n=>u.keep b o e n (fun z=>(List.mem_cons.mp (I.stkSub b z)).elim hL hb) hc) (fun b o _ _ hc e n=>u.any e n hc) (fun b o hc e n=>u.free b o e n hc) (fun b o hc e=>u.there b o e hc) u.tups u.frzs u.tbls (fun m' hm=>by
  obtain⟨o',es',ep',ho',r'⟩:=hm
  rw[ho]at ho';cases ho'
  exact⟨_,es',ep',hL,r'⟩) hok hg
theorem Inv.turned{t':Nat}{it:Addr}(I:Inv X pins σ H s)(k:∀b o,b≠it->s.heap.get? b=some o->h'.get? b=some o)(hn:H it=none)(hL:it≠X.env.locals)
  (h1:it∈X.ex\/X.s₀.heap.objs.size<=it) (h2:∀x c,X.env.cells.lookup x=some c->c≠it) (h3:∀p∈X.pn++pins,p.1≠it):Inv X pins σ H { s with heap:=h',toks:=t' }:=by
 have nit:∀b u,H b=some u->b≠it:=fun b u e z=>by rw[z,hn]at e;cases e
 refine I.step (g':=s.gens) (d':=s.drawn) (ch:=[it]) (fun b hb=>?_) (fun b o _ _ hc e _=>k b o (fun z=>hc (by simp[z])) e) (fun b o _ _ hc e _=>⟨o.slots,k b o (fun z=>hc (by simp[z])) e⟩) (fun _ _ _ _ n=>n)
  (fun b o hc e=>⟨o,k b o (fun z=>hc (by simp[z])) e⟩) (fun _ _ e=>e) (fun _ _ _ e=>e) (fun b ps e=>⟨#[],by rw[e];simp⟩) (fun m hm=>?_) (fun b u e=>?_) I.bare
 ·have e:b=it:=by simpa using hb
  subst e
  exact⟨h1,hL,h2,h3⟩
 ·obtain⟨o,es,ep,ho,r⟩:=hm
  exact⟨o,es,ep,k _ o (Ne.symm hL) ho,r⟩
 ·refine(I.hok b u e).stay (fun c v hc q=>k c v ?_ q) (fun _ q=>q) fun _ _ q=>q
  rcases hc with z | z
  ·rw[z];exact nit b u e
  ·exact nit c _ z
theorem Inv.tok(I:Inv X pins σ H s)(t:Nat):Inv X pins σ H { s with toks:=t }:=I.un (h':=s.heap) (t':=t) Un.refl I.hok
theorem Inv.kept{t':Nat}(I:Inv X pins σ H s)(k:∀b u,s.heap.get? b=some u->h'.get? b=some u):Inv X pins σ H { s with heap:=h',toks:=t' }:=I.un (Un.kept k) (I.hok.kept k)
theorem Inv.laid{a:Addr}{o:HO}{t':Nat}(I:Inv X pins σ H s)(k:∀b u,s.heap.get? b=some u->h'.get? b=some u)(hp:s.heap.objs.size<=a)(new:ObjOk X.prog X.w (upd H a o) h' a o) :
  Inv X pins σ (upd H a o) { s with heap:=h',toks:=t' }:=I.un (Un.laid k hp (I.hok.fresh hp)) (I.hok.laid k hp new)
theorem Inv.write{x e:Addr}{o:HO}{t':Nat}(I:Inv X pins σ H s)(mu:Mut (H x))(he:e=x\/H e=some (.own x))(k:∀b u,b≠e->s.heap.get? b=some u->h'.get? b=some u)(heo:∃u,h'.get? e=some u)
  (new:ObjOk X.prog X.w (upd H x o) h' x o):Inv X pins σ (upd H x o) { s with heap:=h',toks:=t' }:=I.un (Un.write mu he k heo) (I.hok.write mu he k heo new)
theorem Inv.weak{σ':List (Option V)}(I:Inv X pins σ H s)(hl:σ'.length=σ.length)(w:∀(i:Nat) v,σ'[i]? = some (some v)->σ[i]? = some (some v)):Inv X pins σ' H s:=
 ⟨I.ok,I.os,I.bare,I.base,let⟨m,hn,hl'⟩:=I.loc; ⟨m,hn,fun i x v e1 e2 e3=>hl' i x v e1 (w i v e2) e3⟩,I.cell,I.free,I.freeC,I.pin,I.hok,hl.trans I.len⟩
theorem Inv.pins_of{pins':List (Addr×Obj)}(I:Inv X pins σ H s)(h:∀p∈pins',s.heap.get? p.1=some p.2/\H p.1=none/\p.1≠X.env.locals/\p.1∉X.fs/\∀v,p.2.data≠.cell v):Inv X pins' σ H s:=
 ⟨I.ok,I.os,I.bare,I.base,I.loc,I.cell,I.free,I.freeC,fun p hp=>(List.mem_append.mp hp).elim (fun z=>I.pin p (List.mem_append_left _ z)) (h p),I.hok,I.len⟩
theorem nodup_ix{N:List Str}(hN:N.Nodup){i j:Nat}{x:Str}(a:N[i]? = some x)(b:N[j]? = some x):i=j:=by
 obtain⟨h1,e1⟩:=List.getElem?_eq_some_iff.mp a
 obtain⟨h2,e2⟩:=List.getElem?_eq_some_iff.mp b
 exact(List.getElem_inj hN).mp (e1.trans e2.symm)
theorem store_ok2{M:Model}{A:Around}{E:Value->Shared->Prop}{i:Nat}{x:Str}{v:V}{u:Value}{Q:Unit->Shared->Prop}(I:Inv X pins σ H s)(hN:X.N.Nodup)(hi:X.N[i]? = some x)(hx:Loc X.env.scope x)(r:RelV v u)
  (h:∀s',Inv X pins (σ.set i (some v)) H s'->(∃a,Heap.SameBut a s.heap s'.heap/\(a=X.env.locals\/X.env.cells.lookup x=some a))->Q () s') (hf:X.fn x=true\/X.env.scope.names.lookup x=some .local:=by first | exact .inl rfl | exact .inr rfl | assumption):wpAny M A (storeName X.env x u) Q E s:=by
 obtain⟨m,hn,hl⟩:=id I.loc
 have hcls:(X.env.scope.kind == .class||(X.env.scope.kind == .module&&X.env.locals != X.env.globals))=false:=by rw[I.ok.kind];rfl
 have hiσ:i<σ.length:=by rw[I.len];exact(List.getElem?_eq_some_iff.mp hi).1
 have cne:=I.cne
 have tracked:∀ {a:Addr} {h':Heap},(∃o,s.heap.get? a=some o/\H a=none)->Heap.SameBut a s.heap h'->HOk X.prog X.w H h':=fun {a h'} ha hs b ob e=>by
  obtain⟨_,_,hfree⟩:=ha
  refine(I.hok b ob e).stay (fun c w' hc q=>(hs.2 c ?_).trans q) (fun _ q=>q) fun _ _ q=>q
  rintro rfl
  rcases hc with rfl | hc
  ·rw[hfree]at e;cases e
  ·rw[hfree]at hc;cases hc
 rcases hx with hk | hk
 ·refine wpAny_storeName_local hk hn (fun h' hn' hs=>?_) hcls
  obtain⟨oL,_,_,hoL,_⟩:=id hn
  refine h _ ⟨I.ok,I.os,I.bare,⟨fun b o e n hb hx=>?_,fun b o e n hb hx=>?_,I.base.free,fun b o e hx=>?_,I.base.tups,I.base.frzs,I.base.tbls⟩,⟨_,hn',fun j y v' e1 e2 e3=>?_⟩,fun y c e=>?_,I.free,I.freeC,fun p hp=>?_,tracked ⟨oL,hoL,I.free⟩ hs,by simpa using I.len⟩ ⟨_,hs,.inl rfl⟩
  ·exact(hs.2 b (Nat.ne_of_lt (Nat.lt_of_lt_of_le (Heap.lt_size e) I.ok.above))).trans (I.base.keep b o e n hb hx)
  ·obtain⟨sl,e1⟩:=I.base.slot b o e n hb hx
   exact⟨sl,(hs.2 b (Nat.ne_of_lt (Nat.lt_of_lt_of_le (Heap.lt_size e) I.ok.above))).trans e1⟩
  ·obtain⟨o',e1⟩:=I.base.there b o e hx
   exact⟨o',(hs.2 b (Nat.ne_of_lt (Nat.lt_of_lt_of_le (Heap.lt_size e) I.ok.above))).trans e1⟩
  ·by_cases hj:j=i
   ·subst hj
    rw[hi]at e1;cases e1
    rw[List.getElem?_set_self hiσ]at e2
    cases e2
    exact⟨u,r,.inl ⟨hk,by simp⟩⟩
   ·rw[List.getElem?_set_ne (Ne.symm hj)]at e2
    obtain⟨u',r',q⟩:=hl j y v' e1 e2 e3
    refine⟨u',r',?_⟩
    rcases q with ⟨k,e⟩ | ⟨k,c,e,z⟩
    ·refine .inl ⟨k,?_⟩
     have:y≠x:=fun e=>hj (nodup_ix hN e1 (e ▸ hi))
     simp[this,e]
    ·exact .inr ⟨k,c,e,z.sameBut hs (cne y c e)⟩
  ·obtain⟨w',z⟩:=I.cell y c e
   exact⟨w',z.sameBut hs (cne y c e)⟩
  ·obtain⟨e,n,ne,nf,d⟩:=I.pin p hp
   exact⟨(hs.2 p.1 ne).trans e,n,ne,nf,d⟩
 ·have hfn:X.fn x=true:=by
   rcases hf with z | z
   ·exact z
   ·rw[z]at hk;cases hk
  obtain⟨c,hc⟩:=I.ok.has x (.inl hk)
  obtain⟨w',z⟩:=I.cell x c hc
  refine wpAny_storeName_cell I.ok.kind hk hc z (fun h' hc' hs=>?_)
  obtain⟨oc,hoc,hocd⟩:=id z
  refine h { s with heap:=h' } ⟨I.ok,I.os,I.bare,⟨fun b o e n hb hx=>?_,fun b o e n hb hx=>?_,I.base.free,fun b o e hx=>?_,I.base.tups,I.base.frzs,I.base.tbls⟩,⟨m,hn.sameBut hs (Ne.symm (cne x c hc)),fun j y v' e1 e2 e3=>?_⟩,fun y c' e=>?_,I.free,I.freeC,fun p hp=>?_,tracked ⟨oc,hoc,I.freeC x c hc⟩ hs,by simpa using I.len⟩ ⟨c,hs,.inr hc⟩
  ·exact(hs.2 b (Nat.ne_of_lt (Nat.lt_of_lt_of_le (Heap.lt_size e) (I.ok.cab x c hfn hc)))).trans (I.base.keep b o e n hb hx)
  ·obtain⟨sl,e1⟩:=I.base.slot b o e n hb hx
   exact⟨sl,(hs.2 b (Nat.ne_of_lt (Nat.lt_of_lt_of_le (Heap.lt_size e) (I.ok.cab x c hfn hc)))).trans e1⟩
  ·obtain⟨o',e1⟩:=I.base.there b o e hx
   exact⟨o',(hs.2 b (Nat.ne_of_lt (Nat.lt_of_lt_of_le (Heap.lt_size e) (I.ok.cab x c hfn hc)))).trans e1⟩
  ·by_cases hj:j=i
   ·subst hj
    rw[hi]at e1;cases e1
    rw[List.getElem?_set_self hiσ]at e2
    cases e2
    exact⟨u,r,.inr ⟨.inl hk,c,hc,hc'⟩⟩
   ·rw[List.getElem?_set_ne (Ne.symm hj)]at e2
    obtain⟨u',r',q⟩:=hl j y v' e1 e2 e3
    refine⟨u',r',?_⟩
    rcases q with q | ⟨k,c',e,z'⟩
    ·exact .inl q
    ·refine .inr ⟨k,c',e,z'.sameBut hs ?_⟩
     rintro rfl
     exact hj (nodup_ix hN e1 (I.ok.inj _ _ _ e hc ▸ hi))
  ·by_cases hcc:c'=c
   ·subst hcc;exact⟨_,hc'⟩
   ·obtain⟨w2,z2⟩:=I.cell y c' e
    exact⟨w2,z2.sameBut hs hcc⟩
  ·obtain⟨e,n,ne,nf,d⟩:=I.pin p hp
   refine⟨(hs.2 p.1 ?_).trans e,n,ne,nf,d⟩
   intro q
   rw[q,hoc]at e
   have q':oc=p.2:=Option.some.inj e
   exact d w' (by rw[<-q'];exact hocd)
theorem store_ok{M:Model}{A:Around}{E:Value->Shared->Prop}{i:Nat}{x:Str}{v:V}{u:Value}{Q:Unit->Shared->Prop}(I:Inv X pins σ H s)(hN:X.N.Nodup)(hi:X.N[i]? = some x)(hx:Loc X.env.scope x)(r:RelV v u)
  (h:∀s',Inv X pins (σ.set i (some v)) H s'->Q () s') (hf:X.fn x=true\/X.env.scope.names.lookup x=some .local:=by first | exact .inl rfl | exact .inr rfl | assumption):wpAny M A (storeName X.env x u) Q E s:=
 store_ok2 I hN hi hx r (fun s' I' _=>h s' I') hf
theorem Inv.call'{s':Shared}{ch:List Addr}(I:Inv X pins σ H s)(ho:s'.os=s.os)(u:Un (frs X.stack) ch H H' s.heap s'.heap)(hok:HOk X.prog X.w H' s'.heap)(hg:AllBare s'.gens)
  (hch:∀b∈ch,(b∈X.ex\/X.s₀.heap.objs.size<=b)/\b≠X.env.locals/\(∀x c,X.env.cells.lookup x=some c->c≠b)/\∀p∈X.pn++pins,p.1≠b):Inv X pins σ H' s':=by
 obtain⟨h',g',d',t',o'⟩:=s'
 have e:o'=s.os:=ho
 subst e
 exact I.call (g':=g') (t':=t') (d':=d') u hok hg hch
end
abbrev XK:=Value->Option Addr->Hp->Prop
abbrev St:=List (Option V)
abbrev VK:=V->Hp->Prop
abbrev TE:=St->Hp->VK->Prop
abbrev TT:=St->Hp->(Bool->Hp->Prop)->Prop
abbrev TA:=St->Hp->(List V->Hp->Prop)->Prop
structure Ends where
 nx:St->Hp->Prop
 rt:VK
 bk:St->Hp->Prop:=fun _ _=>False
 ct:St->Hp->Prop:=fun _ _=>False
abbrev TS:=Ends->St->Hp->Prop
def EP(X:Cx)(pins:List (Addr×Obj))(σ:St)(Q:VK)(u:Value)(s':Shared):Prop:=∃v H',Inv X pins σ H' s'/\RelV v u/\Q v H'
def TP(X:Cx)(pins:List (Addr×Obj))(σ:St)(Q:Bool->Hp->Prop)(b:Bool)(s':Shared):Prop:=∃H',Inv X pins σ H' s'/\Q b H'
def AP(X:Cx)(pins:List (Addr×Obj))(σ:St)(Q:List V->Hp->Prop)(us:List Value)(s':Shared):Prop:=∃vs H',Inv X pins σ H' s'/\Vals vs us/\Q vs H'
def SP(X:Cx)(pins:List (Addr×Obj))(D:Ends)(f:Flow)(s':Shared):Prop:=
 match f with
 | .next=>∃σ' H',Inv X pins σ' H' s'/\D.nx σ' H'
 | .brk=>∃σ' H',Inv X pins σ' H' s'/\D.bk σ' H'
 | .cont=>∃σ' H',Inv X pins σ' H' s'/\D.ct σ' H'
 | .ret u=>∃v σ' H',Inv X pins σ' H' s'/\RelV v u/\D.rt v H'
def PE(X:Cx)(e:Expr)(t:TE):Prop:=
 ∀(pins:List (Addr×Obj)) (s:Shared) (σ:St) (H:Hp) (Q:VK),Inv X pins σ H s->t σ H Q->wpAny (model X.prog X.w) X.A (eval e X.env) (EP X pins σ Q) X.xe s
def PT(X:Cx)(e:Expr)(t:TT):Prop:=
 ∀(pins:List (Addr×Obj)) (s:Shared) (σ:St) (H:Hp) (Q:Bool->Hp->Prop),Inv X pins σ H s->t σ H Q->wpAny (model X.prog X.w) X.A (isTrue e X.env (eval e X.env)) (TP X pins σ Q) X.xe s
def PW(X:Cx)(e:Expr)(t:TT):Prop:=
 ∀(whole:Sem Value) (pins:List (Addr×Obj)) (s:Shared) (σ:St) (H:Hp) (Q:Bool->Hp->Prop),Inv X pins σ H s->t σ H Q->wpAny (model X.prog X.w) X.A (isTrue e X.env whole) (TP X pins σ Q) X.xe s
theorem PW.pt{X:Cx}{e:Expr}{t:TT}(h:PW X e t):PT X e t:=h _
def PA(X:Cx)(es:List Expr)(t:TA):Prop:=
 ∀(pos:Pos) (pins:List (Addr×Obj)) (s:Shared) (σ:St) (H:Hp) (Q:List V->Hp->Prop),Inv X pins σ H s->t σ H Q->wpAny (model X.prog X.w) X.A (spliced (backTo pos (starEach es X.env))) (AP X pins σ Q) X.xe s
def PS(X:Cx)(st:Stmt)(t:TS):Prop:=
 ∀(pins:List (Addr×Obj)) (s:Shared) (σ:St) (H:Hp) (D:Ends),Inv X pins σ H s->t D σ H->wpAny (model X.prog X.w) X.A (exec st X.env) (SP X pins D) X.xe s
def PSs(X:Cx)(st:List Stmt)(t:TS):Prop:=
 ∀(pins:List (Addr×Obj)) (s:Shared) (σ:St) (H:Hp) (D:Ends),Inv X pins σ H s->t D σ H->wpAny (model X.prog X.w) X.A (execs st X.env) (SP X pins D) X.xe s
theorem thn{α:Type}{t:Sem α}{Q Q':α->Shared->Prop}{M:Model}{A:Around}{E:Value->Shared->Prop}{s:Shared}(h:wpAny M A t Q E s)(hQ:∀a s,Q a s->Q' a s):wpAny M A t Q' E s:=wpAny_mono h hQ fun _ _ x=>x
end L2
namespace L2
open PySem PySem.Spec PyProof.Rows
section
variable {X:Cx}
def tVar(i:Nat):TE:=fun σ H Q=>∃v,σ[i]? = some (some v)/\Q v H
def tC(v:V):TE:=fun _ H Q=>Q v H
theorem pe_var{i:Nat}{x:Str}{pos:Pos}(hN:X.N[i]? = some x)(hv:Vis X.env.scope x)(hd:(x == ("__debug__" : Str))=false:=by decide)(hcd:(x == ("__classdict__" : Str))=false:=by decide):PE X (.Name x pos) (tVar i):=by
 intro pins s σ H Q I h
 obtain⟨v,e,h⟩:=h
 obtain⟨m,hn,hl⟩:=I.loc
 obtain⟨u,r,l⟩:=hl i x v hN e hv
 have fin:EP X pins σ Q u s:=⟨v,H,I,r,h⟩
 rcases l with ⟨hk,hm⟩ | ⟨hk,c,hc,hcell⟩
 ·exact wpAny_Name (wpAny_loadName_local I.ok.kind hk hn hm fin) hd
 ·rcases hk with hk | hk
  ·exact wpAny_Name (wpAny_loadName_cell I.ok.kind hk hc hcell fin) hd
  ·exact wpAny_Name (wpAny_loadName_free I.ok.kind hk hc hcell fin hcd) hd
theorem pe_int{i j pos}:PE X (.Constant (.int i) j pos) (tC (.int i)):=fun _ _ _ H _ I h=>wpAny_Constant_int ⟨.int i,H,I.tok _,⟨_,rfl⟩,h⟩
theorem pe_bl{b j pos}:PE X (.Constant (.bool b) j pos) (tC (.bl b)):=fun _ _ _ H _ I h=>Constant_bool ⟨.bl b,H,I,rfl,h⟩
theorem pe_non{j pos}:PE X (.Constant .none j pos) (tC .non):=fun _ _ _ H _ I h=>Constant_none ⟨.non,H,I,rfl,h⟩
theorem pe_str{x j pos}:PE X (.Constant (.str x) j pos) (tC (.str x)):=fun _ _ _ H _ I h=>Calls.Constant_str ⟨.str x,H,I.tok _,⟨_,rfl⟩,h⟩
def Gl(X:Cx)(x:Str):Prop:=X.env.kindOf x=some .globalImplicit
theorem ld_glob{E:Value->Shared->Prop}{pins:List (Addr×Obj)}{s:Shared}{σ:St}{H:Hp}{x:Str}{u:Value}{pos:Pos}{Q:Value->Shared->Prop}(I:Inv X pins σ H s)(hg:Gl X x)(hm:X.mg x=some u)(h:Q u s)
  (hd:(x == ("__debug__" : Str))=false:=by decide):wpAny (model X.prog X.w) X.A (eval (.Name x pos) X.env) Q E s:=
 Calls.Name_function_global I.ok.kind hg (Calls.loadGlobal_global (by rw[I.ok.glob];exact I.mod.glob.keeps I.bk) hm h) hd
theorem ld_blt{E:Value->Shared->Prop}{pins:List (Addr×Obj)}{s:Shared}{σ:St}{H:Hp}{x:Str}{u:Value}{pos:Pos}{Q:Value->Shared->Prop}(I:Inv X pins σ H s)(hg:Gl X x)(hm:X.mg x=none)(hv:bootBuiltins x=some u)(h:Q u s)
  (hn:x ≠ "__name__" := by decide) (hd:(x == ("__debug__" : Str))=false:=by decide):wpAny (model X.prog X.w) X.A (eval (.Name x pos) X.env) Q E s:=by
 obtain⟨mb,h1,h2⟩:=I.mod.blt
 exact Calls.Name_function_global I.ok.kind hg (Calls.loadGlobal_builtin (by rw[I.ok.glob];exact I.mod.glob.keeps I.bk) hm (by rw[I.ok.blt];exact h1.keeps I.bk) ((h2 x hn).trans hv) h) hd
theorem pe_glob{x:Str}{v:V}{u:Value}{pos:Pos}(hg:Gl X x)(hm:X.mg x=some u)(r:RelV v u)(hd:(x == ("__debug__" : Str))=false:=by decide):PE X (.Name x pos) (tC v):=
 fun _ _ _ H _ I h=>ld_glob I hg hm ⟨v,H,I,r,h⟩ hd
theorem pe_bltn{x:Str}{v:V}{u:Value}{pos:Pos}(hg:Gl X x)(hm:X.mg x=none)(hv:bootBuiltins x=some u)(r:RelV v u)(hn:x ≠ "__name__" := by decide)(hd:(x == ("__debug__" : Str))=false:=by decide):PE X (.Name x pos) (tC v):=
 fun _ _ _ H _ I h=>ld_blt I hg hm hv ⟨v,H,I,r,h⟩ hn hd
def t2I(ta tb:TE)(k:Int->Int->Hp->Prop):St->Hp->Prop:=fun σ H=>ta σ H fun x H1=>tb σ H1 fun y H2=>∃i j,x=.int i/\y=.int j/\k i j H2
def tAdd(ta tb:TE):TE:=fun σ H Q=>t2I ta tb (fun i j H2=>Q (.int (i+j)) H2) σ H
def tSub(ta tb:TE):TE:=fun σ H Q=>t2I ta tb (fun i j H2=>Q (.int (i - j)) H2) σ H
def tMul(ta tb:TE):TE:=fun σ H Q=>t2I ta tb (fun i j H2=>(-(2 ^ 64)<i/\i<2 ^ 64)/\Q (.int (i * j)) H2) σ H
variable {a b:Expr}{ta tb:TE}{pos:Pos}
def PC(X:Cx)(op:CmpOp)(a b:Expr)(t:TE):Prop:=
 ∀(pins:List (Addr×Obj)) (s:Shared) (σ:St) (H:Hp) (Q:VK),Inv X pins σ H s->t σ H Q ->
  wpAny (model X.prog X.w) X.A (eval a X.env) (fun v s₁=>wpAny (model X.prog X.w) X.A (eval b X.env) (fun u s₂=>wpAny (model X.prog X.w) X.A (compareOp op v u) (EP X pins σ Q) X.xe s₂) X.xe s₁) X.xe s
theorem nobehind(b:Expr){op:CmpOp}(h:op≠.In)(h2:op≠.NotIn):behindInMarks op b=false:=by
 have e1:(op == CmpOp.In)=false:=by cases op <;> first | rfl | exact absurd rfl h
 have e2:(op == CmpOp.NotIn)=false:=by cases op <;> first | rfl | exact absurd rfl h2
 cases b <;> simp[behindInMarks,e1,e2]
def tCmp(p:Int->Int->Bool)(ta tb:TE):TE:=fun σ H Q=>t2I ta tb (fun i j H2=>Q (.bl (p i j)) H2) σ H
abbrev tLt:TE->TE->TE:=tCmp fun i j=>decide (i<j)
abbrev tLe:TE->TE->TE:=tCmp fun i j=>decide (i<=j)
abbrev tGt:TE->TE->TE:=tCmp fun i j=>decide (j<i)
abbrev tGe:TE->TE->TE:=tCmp fun i j=>decide (j<=i)
abbrev tEqI:TE->TE->TE:=tCmp fun i j=>decide (i=j)
abbrev tNeI:TE->TE->TE:=tCmp fun i j => !decide (i=j)
def tIsN(ta:TE):TE:=fun σ H Q=>ta σ H fun x H1=>Q (.bl (decide (x=.non))) H1
def tNotN(ta:TE):TE:=fun σ H Q=>ta σ H fun x H1=>Q (.bl (!decide (x=.non))) H1
def tB(t:TE):TT:=fun σ H Q=>t σ H fun x H1=>∃c,x=.bl c/\Q c H1
theorem pe_cmp{op:CmpOp}{t:TE}(h:PC X op a b t)(h1:behindInMarks op b=false:=by first | exact nobehind _ (by decide) (by decide) | rfl):PE X (.Compare a [op] [b] pos) t:=fun pins s σ H Q I hw=>wpAny_Compare1 (h pins s σ H Q I hw) h1
theorem pt_cmp{op:CmpOp}{t:TE}(h:PC X op a b t)(h1:behindInMarks op b=false:=by first | exact nobehind _ (by decide) (by decide) | rfl):PT X (.Compare a [op] [b] pos) (tB t):=by
 intro pins s σ H Q I hw
 refine wpAny_isTrue_Compare1 (thn (h pins s σ H _ I hw) fun v s1 h1=>thn h1 fun u s2 h2=>thn h2 fun c s3 ⟨x,H1,I1,r1,q1⟩=>?_) h1
 obtain⟨d,rfl,q⟩:=q1
 cases r1
 exact wpAny_truthy_bool ⟨H1,I1,q⟩
theorem pt_val{e:Expr}{t:TE}(h:PE X e t)(he:∀whole,isTrue e X.env whole=(do let v <-whole;standAt e.pos;holding [v] (truthy v)):=by intro _;rfl):PT X e (tB t):=by
 intro pins s σ H Q I hw
 refine isTrue_plain (thn (h pins s σ H _ I hw) fun v s1 ⟨x,H1,I1,r1,q1⟩=>?_) (he _)
 obtain⟨d,rfl,q⟩:=q1
 cases r1
 exact wpAny_truthy_bool ⟨H1,I1,q⟩
variable {tA tB':TT}{rest:List Expr}
def tAnd(t u:TT):TT:=fun σ H Q=>t σ H fun c H1=>if c=true then u σ H1 Q else Q false H1
def tOr(t u:TT):TT:=fun σ H Q=>t σ H fun c H1=>if c=true then Q true H1 else u σ H1 Q
def tNot(t:TT):TT:=fun σ H Q=>t σ H fun c H1=>Q (!c) H1
theorem pw_and1(ha:PT X a tA):PW X (.BoolOp .And [a] pos) tA:=by
 intro wh pins s σ H Q I h
 refine isTrue_and (thn (ha pins s σ H Q I h) fun c s1 e=>?_)
 cases c with
 | true=>exact isTrue_and_nil e
 | false=>exact e
theorem pw_or1(ha:PT X a tA):PW X (.BoolOp .Or [a] pos) tA:=by
 intro wh pins s σ H Q I h
 refine isTrue_or (thn (ha pins s σ H Q I h) fun c s1 e=>?_)
 cases c with
 | false=>exact isTrue_or_nil e
 | true=>exact e
theorem pw_and(ha:PT X a tA)(hb:PW X (.BoolOp .And (b::rest) pos) tB'):PW X (.BoolOp .And (a::b::rest) pos) (tAnd tA tB'):=by
 intro wh pins s σ H Q I h
 refine isTrue_and (thn (ha pins s σ H _ I h) fun c s1 ⟨H1,I1,q1⟩=>?_)
 cases c with
 | true=>exact hb wh pins s1 σ H1 Q I1 q1
 | false=>exact⟨H1,I1,q1⟩
theorem pw_or(ha:PT X a tA)(hb:PW X (.BoolOp .Or (b::rest) pos) tB'):PW X (.BoolOp .Or (a::b::rest) pos) (tOr tA tB'):=by
 intro wh pins s σ H Q I h
 refine isTrue_or (thn (ha pins s σ H _ I h) fun c s1 ⟨H1,I1,q1⟩=>?_)
 cases c with
 | true=>exact⟨H1,I1,q1⟩
 | false=>exact hb wh pins s1 σ H1 Q I1 q1
theorem pt_not(ha:PT X a tA):PT X (.UnaryOp .Not a pos) (tNot tA):=by
 intro pins s σ H Q I h
 exact isTrue_not (ha pins s σ H (fun c H1=>Q (!c) H1) I h)
def tAndV(ta tb:TE):TE:=fun σ H Q=>ta σ H fun x H1=>∃c,x=.bl c/\if c=true then tb σ H1 Q else Q (.bl false) H1
def tOrV(ta tb:TE):TE:=fun σ H Q=>ta σ H fun x H1=>∃c,x=.bl c/\if c=true then Q (.bl true) H1 else tb σ H1 Q
def tNotV(ta:TE):TE:=fun σ H Q=>ta σ H fun x H1=>∃c,x=.bl c/\Q (.bl (!c)) H1
theorem pe_one{op}{t:TE}(h:PE X a t):PE X (.BoolOp op [a] pos) t:=fun pins s σ H Q I hw=>BoolOp_one (h pins s σ H Q I hw)
theorem pe_and(ha:PE X a ta)(hb:PE X (.BoolOp .And (b::rest) pos) tb):PE X (.BoolOp .And (a::b::rest) pos) (tAndV ta tb):=by
 intro pins s σ H Q I h
 refine BoolOp_and (thn (ha pins s σ H _ I h) fun v s1 ⟨x,H1,I1,r1,q1⟩=>?_)
 obtain⟨c,rfl,q1⟩:=q1
 cases r1
 refine wpAny_truthy_bool ?_
 cases c with
 | true=>exact hb pins s1 σ H1 Q I1 q1
 | false=>exact⟨.bl false,H1,I1,rfl,q1⟩
theorem pe_or(ha:PE X a ta)(hb:PE X (.BoolOp .Or (b::rest) pos) tb):PE X (.BoolOp .Or (a::b::rest) pos) (tOrV ta tb):=by
 intro pins s σ H Q I h
 refine BoolOp_or (thn (ha pins s σ H _ I h) fun v s1 ⟨x,H1,I1,r1,q1⟩=>?_)
 obtain⟨c,rfl,q1⟩:=q1
 cases r1
 refine wpAny_truthy_bool ?_
 cases c with
 | false=>exact hb pins s1 σ H1 Q I1 q1
 | true=>exact⟨.bl true,H1,I1,rfl,q1⟩
theorem pe_not(ha:PE X a ta):PE X (.UnaryOp .Not a pos) (tNotV ta):=by
 intro pins s σ H Q I h
 refine UnaryOp_ (thn (ha pins s σ H _ I h) fun v s1 ⟨x,H1,I1,r1,q1⟩=>?_)
 obtain⟨c,rfl,q1⟩:=q1
 cases r1
 exact not_of (wpAny_truthy_bool ⟨.bl (!c),H1,I1,rfl,q1⟩)
def tIf(t:TT)(ta tb:TE):TE:=fun σ H Q=>t σ H fun c H1=>if c=true then ta σ H1 Q else tb σ H1 Q
theorem pe_ifExp{c:Expr}(hc:PT X c tA)(ha:PE X a ta)(hb:PE X b tb):PE X (.IfExp c a b pos) (tIf tA ta tb):=by
 intro pins s σ H Q I h
 refine wpAny_IfExp (thn (hc pins s σ H _ I h) fun d s1 ⟨H1,I1,q1⟩=>?_)
 cases d with
 | true=>exact ha pins s1 σ H1 Q I1 q1
 | false=>exact hb pins s1 σ H1 Q I1 q1
end
end L2
namespace L2
open PySem PySem.Spec PyProof.Rows
def SqL(K:Fg)(H:Hp)(a:Addr)(xs:List V):Prop:=
 Rd H a (.lst xs) \/
  ∃(o:Obj) (its:Array Value) (n:Nat),K.lookup a=some o/\o.cls=.type "list" /\ o.dict=none/\o.data=.seq its n/\its.size<=sizeLine/\Vals xs its.toList
def SqT(K:Fg)(H:Hp)(a:Addr)(xs:List V):Prop:=
 Rd H a (.tup xs) \/
  ∃(o:Obj) (its:Array Value) (n:Nat),K.lookup a=some o/\o.cls=.type "tuple" /\ o.data=.seq its n/\its.size<=sizeLine/\Vals xs its.toList
def absV:Value->Option V
 | .none=>some .non
 | .bool b=>some (.bl b)
 | .int i _=>some (.int i)
 | .str x _=>some (.str x)
 | .bytes b _=>some (.byt b)
 | .float b _=>some (.flt b)
 | .ref a=>some (.ref a)
 | .type n=>some (.ty n)
 | _=>none
theorem RelV.abs{x:V}{u:Value}(r:RelV x u):absV u=some x:=by
 cases x with
 | non=>cases r;rfl
 | bl _=>cases r;rfl
 | int _=>obtain⟨t,rfl⟩:=r;rfl
 | str _=>obtain⟨t,rfl⟩:=r;rfl
 | byt _=>obtain⟨t,rfl⟩:=r;rfl
 | flt _=>obtain⟨t,rfl⟩:=r;rfl
 | ref _=>cases r;rfl
 | ty _=>cases r;rfl
theorem RelV.inj{x y:V}{u:Value}(r:RelV x u)(q:RelV y u):x=y:=Option.some.inj (r.abs.symm.trans q.abs)
theorem Vals.inj:∀ {xs ys:List V} {us:List Value},Vals xs us->Vals ys us->xs=ys
 | _,_,_,.nil,.nil=>rfl
 | _,_,_,.cons r t,.cons r' t'=>by rw[r.inj r',Vals.inj t t']
section
variable {X:Cx}{pins:List (Addr×Obj)}{σ:St}{H:Hp}{s:Shared}{a:Addr}{xs ys:List V}
theorem SqL.of{K:Fg}(h:H a=some (.lst xs)):SqL K H a xs:=.inl (.inl h)
theorem SqT.of{K:Fg}(h:H a=some (.tup xs)):SqT K H a xs:=.inl (.inl h)
theorem Inv.list(I:Inv X pins σ H s)(h:SqL X.K H a xs):∃its:List Value,Vals xs its/\PlainL s.heap a its.toArray/\xs.length<=sizeLine:=by
 rcases h with h | ⟨o,its,n,hk,hc,hd,hs,hz,r⟩
 ·obtain⟨z,its,n,r,e⟩:=h.ok I.hok
  exact⟨its,r,⟨_,n,e,rfl,rfl,rfl⟩,z⟩
 ·refine⟨its.toList,r,⟨o,n,I.kIn a o hk,hc,hd,by simpa using hs⟩,?_⟩
  have e:=r.length
  simp only[Array.length_toList]at e
  omega
theorem Inv.tuple(I:Inv X pins σ H s)(h:SqT X.K H a xs):∃its:List Value,Vals xs its/\IsTup s.heap a its.toArray/\xs.length<=sizeLine:=by
 rcases h with h | ⟨o,its,n,hk,hc,hs,hz,r⟩
 ·obtain⟨z,its,r,p⟩:=h.ok I.hok
  exact⟨its,r,p,z⟩
 ·refine⟨its.toList,r,⟨o,I.kIn a o hk,hc,n,by simpa using hs⟩,?_⟩
  have e:=r.length
  simp only[Array.length_toList]at e
  omega
theorem Inv.list_inj(I:Inv X pins σ H s)(h:SqL X.K H a xs)(h':SqL X.K H a ys):xs=ys:=by
 obtain⟨its,r,⟨o,n,e,_,_,d⟩,_⟩:=I.list h
 obtain⟨its',r',⟨o',n',e',_,_,d'⟩,_⟩:=I.list h'
 rw[e]at e';cases e'
 rw[d]at d'
 injection d' with d1 _
 have:its=its':=by simpa using congrArg Array.toList d1
 subst this
 exact r.inj r'
end
abbrev Cx.wish(X:Cx)(E:Value->Shared->Prop):Cx:={ X with xe:=E }
abbrev Cx.nox(X:Cx):Cx:=X.wish fun _ _=>False
theorem Cx.Ok.wish{X:Cx}(ok:X.Ok)(E:Value->Shared->Prop):(X.wish E).Ok:=
 ⟨ok.mod,ok.kind,ok.glob,ok.blt,ok.above,ok.inj,ok.has,ok.cab,ok.hd,ok.frames,ok.stk,ok.exf,ok.bs,ok.bsz,ok.noex,ok.exfs,ok.funs,ok.frf⟩
theorem Cx.Ok.unwish{X:Cx}{E:Value->Shared->Prop}(ok:(X.wish E).Ok):X.Ok:=
 ⟨ok.mod,ok.kind,ok.glob,ok.blt,ok.above,ok.inj,ok.has,ok.cab,ok.hd,ok.frames,ok.stk,ok.exf,ok.bs,ok.bsz,ok.noex,ok.exfs,ok.funs,ok.frf⟩
section
variable {X:Cx}{pins:List (Addr×Obj)}{σ:St}{H:Hp}{s:Shared}{E:Value->Shared->Prop}
theorem Inv.wish(I:Inv X pins σ H s)(E:Value->Shared->Prop):Inv (X.wish E) pins σ H s:=⟨I.ok.wish E,I.os,I.bare,I.base,I.loc,I.cell,I.free,I.freeC,I.pin,I.hok,I.len⟩
theorem Inv.unwish(I:Inv (X.wish E) pins σ H s):Inv X pins σ H s:=⟨I.ok.unwish,I.os,I.bare,I.base,I.loc,I.cell,I.free,I.freeC,I.pin,I.hok,I.len⟩
theorem SP.unwish{D:Ends}{f:Flow}{s':Shared}(h:SP (X.wish E) pins D f s'):SP X pins D f s':=by
 cases f with
 | next=>obtain⟨σ',H',I,q⟩:=h;exact⟨σ',H',I.unwish,q⟩
 | brk=>obtain⟨σ',H',I,q⟩:=h;exact⟨σ',H',I.unwish,q⟩
 | cont=>obtain⟨σ',H',I,q⟩:=h;exact⟨σ',H',I.unwish,q⟩
 | ret u=>obtain⟨v,σ',H',I,r,q⟩:=h;exact⟨v,σ',H',I.unwish,r,q⟩
theorem PE.nox{e:Expr}{t:TE}(h:PE X.nox e t):PE X e t:=fun pins s σ H Q I hw=>
 wpAny_mono (h pins s σ H Q (I.wish _) hw) (fun _ _ ⟨v,H',I',r,q⟩=>⟨v,H',I'.unwish,r,q⟩) fun _ _ z=>False.elim z
theorem PT.nox{e:Expr}{t:TT}(h:PT X.nox e t):PT X e t:=fun pins s σ H Q I hw=>
 wpAny_mono (h pins s σ H Q (I.wish _) hw) (fun _ _ ⟨H',I',q⟩=>⟨H',I'.unwish,q⟩) fun _ _ z=>False.elim z
theorem PSs.nox{st:List Stmt}{t:TS}(h:PSs X.nox st t):PSs X st t:=fun pins s σ H D I hw=>
 wpAny_mono (h pins s σ H D (I.wish _) hw) (fun _ _ q=>q.unwish) fun _ _ z=>False.elim z
end
section
variable {X:Cx}{st:Stmt}{rest:List Stmt}{t u:TS}{e:Expr}{te:TE}{pos:Pos}
def tNext:TS:=fun D σ H=>D.nx σ H
def tSeq(t u:TS):TS:=fun D σ H=>t { D with nx:=u D } σ H
theorem pss_nil:PSs X [] tNext:=fun _ _ σ H _ I h=>wpAny_execs_nil ⟨σ,H,I,h⟩
theorem pss_cons(h1:PS X st t)(h2:PSs X rest u):PSs X (st::rest) (tSeq t u):=by
 intro pins s σ H D I h
 refine wpAny_execs_cons (thn (h1 pins s σ H { D with nx:=u D } I h) fun f s1 q=>?_)
 cases f with
 | next=>
  obtain⟨σ',H',I',q⟩:=q
  exact h2 pins s1 σ' H' D I' q
 | ret v=>exact q
 | brk=>exact q
 | cont=>exact q
theorem pss_one(h1:PS X st t):PSs X [st] t:=by
 intro pins s σ H D I h
 refine wpAny_execs_cons (thn (h1 pins s σ H D I h) fun f s1 q=>?_)
 cases f with
 | next=>exact wpAny_execs_nil q
 | ret v=>exact q
 | brk=>exact q
 | cont=>exact q
def tBreak:TS:=fun D σ H=>D.bk σ H
def tCont:TS:=fun D σ H=>D.ct σ H
theorem Inv.quiet{pins:List (Addr×Obj)}{σ:St}{H:Hp}{s:Shared}(I:Inv X pins σ H s):interactive X.env=false:=by simp[interactive,I.ok.kind]
def tDrop(te:TE):TS:=fun D σ H=>te σ H fun _ H1=>D.nx σ H1
theorem ps_expr(he:PE X e te)(hs:swapsWith e none pos.line X.env=pure false:=by rfl):PS X (.Expr e pos) (tDrop te):=by
 intro pins s σ H D I h
 exact wpAny_Expr_any (thn (he pins s σ H _ I h) fun v s1 ⟨x,H1,I1,r1,q1⟩=>⟨σ,H1,I1,q1⟩) I.quiet hs
def tRet(te:TE):TS:=fun D σ H=>te σ H D.rt
theorem ps_ret(he:PE X e te):PS X (.Return (some e) pos) (tRet te):=by
 intro pins s σ H D I h
 exact wpAny_Return_some (thn (he pins s σ H _ I h) fun v s1 ⟨x,H1,I1,r1,q1⟩=>⟨x,σ,H1,I1,r1,q1⟩)
def tRetN:TS:=fun D _ H=>D.rt .non H
def tIfS(c:TT)(t u:TS):TS:=fun D σ H=>c σ H fun b H1=>if b=true then t D σ H1 else u D σ H1
theorem ps_if{c:Expr}{a b:List Stmt}{tc:TT}(hc:PT X c tc)(ha:PSs X a t)(hb:PSs X b u):PS X (.If c a b pos) (tIfS tc t u):=by
 intro pins s σ H D I h
 refine wpAny_If (thn (hc pins s σ H _ I h) fun d s1 ⟨H1,I1,q1⟩=>?_)
 cases d with
 | true=>exact ha pins s1 σ H1 D I1 q1
 | false=>exact hb pins s1 σ H1 D I1 q1
def tNever:TS:=fun _ _ _=>False
end
abbrev TG:=V->St->Hp->(St->Hp->Prop)->Prop
abbrev TGs:=List V->St->Hp->(St->Hp->Prop)->Prop
def PG(X:Cx)(target:Expr)(t:TG):Prop:=
 ∀(pins:List (Addr×Obj)) (s:Shared) (σ:St) (H:Hp) (v:V) (u:Value) (Q:St->Hp->Prop),Inv X pins σ H s->RelV v u->t v σ H Q ->
  wpAny (model X.prog X.w) X.A (assign target X.env u) (fun _ s'=>∃σ' H',Inv X pins σ' H' s'/\Q σ' H') X.xe s
def PGs(X:Cx)(ts:List Expr)(t:TGs):Prop:=
 ∀(pins:List (Addr×Obj)) (s:Shared) (σ:St) (H:Hp) (vs:List V) (us:List Value) (Q:St->Hp->Prop),Inv X pins σ H s->Vals vs us->t vs σ H Q ->
  wpAny (model X.prog X.w) X.A (assignInOrder ((assignEach ts X.env).map (·.2)) us) (fun _ s'=>∃σ' H',Inv X pins σ' H' s'/\Q σ' H') X.xe s
abbrev TSet:=V->V->V->Hp->(Hp->Prop)->Prop
def PSet(X:Cx)(t:TSet):Prop:=
 ∀(pins:List (Addr×Obj)) (s:Shared) (σ:St) (H:Hp) (o i v:V) (ov iv u:Value) (Q:Hp->Prop),Inv X pins σ H s->RelV o ov->RelV i iv->RelV v u->t o i v H Q ->
  wpAny (model X.prog X.w) X.A (setItem ov iv u) (fun _ s'=>∃H',Inv X pins σ H' s'/\Q H') X.xe s
abbrev TIp:=V->V->Hp->VK->Prop
def PIp(X:Cx)(op:Operator)(t:TIp):Prop:=
 ∀(pins:List (Addr×Obj)) (s:Shared) (σ:St) (H:Hp) (x y:V) (v u:Value) (Q:VK),Inv X pins σ H s->RelV x v->RelV y u->t x y H Q ->
  wpAny (model X.prog X.w) X.A (inplaceOp op v u) (EP X pins σ Q) X.xe s
section
variable {X:Cx}{pos:Pos}
def gName(i:Nat):TG:=fun v σ H Q=>Q (σ.set i (some v)) H
theorem pg_name{i:Nat}{x:Str}(hN:X.N.Nodup)(hi:X.N[i]? = some x)(hx:Loc X.env.scope x)(hf:X.fn x=true\/X.env.scope.names.lookup x=some .local:=by first | exact .inl rfl | exact .inr rfl | assumption):PG X (.Name x pos) (gName i):=by
 intro pins s σ H v u Q I r h
 exact wpAny_assign_Name (store_ok I hN hi hx r (fun s' I'=>⟨_,H,I',h⟩) hf)
def gNil:TGs:=fun vs σ H Q=>vs=[]/\Q σ H
def gCons(t:TG)(u:TGs):TGs:=fun vs σ H Q=>∃v r,vs=v::r/\t v σ H fun σ' H'=>u r σ' H' Q
theorem pgs_nil:PGs X [] gNil:=by
 intro pins s σ H vs us Q I r h
 obtain⟨e,h⟩:=h
 subst e
 cases r
 exact assignInOrder_nil ⟨σ,H,I,h⟩
theorem pgs_cons{e:Expr}{es:List Expr}{t:TG}{u:TGs}(h1:PG X e t)(h2:PGs X es u)
  (hs:(assignEach (e::es) X.env).map (·.2)=assign e X.env::(assignEach es X.env).map (·.2):=by rfl):PGs X (e::es) (gCons t u):=by
 intro pins s σ H vs us Q I r h
 obtain⟨v,vr,e1,h⟩:=h
 subst e1
 cases r with
 | cons r rr=>
  rw[hs]
  refine assignInOrder_cons (thn (h1 pins s σ H _ _ _ I r h) fun _ s1 ⟨σ1,H1,I1,q1⟩=>?_)
  exact h2 pins s1 σ1 H1 _ _ Q I1 rr q1
def gTup(K:Fg)(n:Nat)(t:TGs):TG:=fun v σ H Q=>∃a xs,v=.ref a/\SqT K H a xs/\xs.length=n/\t xs σ H Q
theorem pg_tup{es:List Expr}{k:Nat}{t:TGs}{n:Nat}(hc:X.calm=true)(h:PGs X es t)
  (hn:(assignEach es X.env).length=n:=by rfl) (hst:(assignEach es X.env).findIdx? (·.1)=none:=by rfl):PG X (.Tuple es k pos) (gTup X.K n t):=by
 intro pins s σ H v u Q I r hw
 obtain⟨a,xs,e1,hq,hl,hw⟩:=hw
 subst e1
 cases r
 obtain⟨its,rv,ht,hz⟩:=I.tuple hq
 refine assign_Tuple_tuple (I.ok.hd hc) ht (by simp[hn,<-hl,rv.length]) hst fun h' hx=>?_
 have I1:Inv X pins σ H { s with heap:=h' }:=I.kept (t':=s.toks) fun b o e=>hx b o (Nat.ne_of_lt (Heap.lt_size e)) e
 exact h pins _ σ H xs _ Q I1 (by simpa using rv) hw
def gSub(to ti:TE)(t:TSet):TG:=fun v σ H Q=>to σ H fun o H1=>ti σ H1 fun i H2=>t o i v H2 fun H3=>Q σ H3
theorem pg_sub{o i:Expr}{to ti:TE}{t:TSet}(ho:PE X o to)(hi:PE X i ti)(hs:PSet X t)
  (ha:∀v,assign (.Subscript o i pos) X.env v=(do
   let ov <-holding [v] (eval o X.env)
   let iv <-holding [v,ov] (eval i X.env)
   standAt pos
   holding [v,ov,iv] (setItem ov iv v)
   release [v,ov,iv] []):=by intro _;rfl):PG X (.Subscript o i pos) (gSub to ti t):=by
 intro pins s σ H v u Q I r h
 rw[ha]
 refine wpAny_bind (wpAny_holding (thn (ho pins s σ H _ I h) fun ov s1 ⟨x,H1,I1,r1,q1⟩=>?_))
 refine wpAny_bind (wpAny_holding (thn (hi pins s1 σ H1 _ I1 q1) fun iv s2 ⟨y,H2,I2,r2,q2⟩=>?_))
 refine wpAny_bind (wpAny_standAt (wpAny_bind (wpAny_holding (thn (hs pins s2 σ H2 x y v ov iv u _ I2 r1 r2 r q2) fun _ s3 ⟨H3,I3,q3⟩=>?_))))
 exact wpAny_release ⟨σ,H3,I3,q3⟩
def tAsg(te:TE)(g:TG):TS:=fun D σ H=>te σ H fun x H1=>g x σ H1 D.nx
theorem ps_asg{tg e:Expr}{te:TE}{g:TG}(he:PE X e te)(hg:PG X tg g)(hs:swapsWithSole [tg] e pos.line X.env=pure false:=by rfl)(hw:swappedStores [tg] e X.env=pure none:=by rfl)
  (h1:(assignEach [tg] X.env).map (·.2)=[assign tg X.env]:=by rfl):PS X (.Assign [tg] e pos) (tAsg te g):=by
 intro pins s σ H D I h
 refine wpAny_Assign_stores (thn (he pins s σ H _ I h) fun v s1 ⟨x,H1,I1,r1,q1⟩=>?_) hs hw
 rw[h1]
 exact thn (hg pins s1 σ H1 x v _ I1 r1 q1) fun _ s2 q=>q
theorem ps_set{i:Nat}{x:Str}{e:Expr}{te:TE}{pos':Pos}(hN:X.N.Nodup)(hi:X.N[i]? = some x)(hx:Loc X.env.scope x)(he:PE X e te)(hs:swapsWith e (some (.Name x pos')) pos.line X.env=pure false:=by rfl)(hf:X.fn x=true\/X.env.scope.names.lookup x=some .local:=by first | exact .inl rfl | exact .inr rfl | assumption) :
  PS X (.Assign [.Name x pos'] e pos) (tAsg te (gName i)):=by
 intro pins s σ H D I h
 refine wpAny_Assign_Name (thn (he pins s σ H _ I h) fun v s1 ⟨y,H1,I1,r1,q1⟩=>?_) hs
 exact store_ok I1 hN hi hx r1 (fun s2 I2=>⟨_,H1,I2,q1⟩) hf
def tPar(i j:Nat)(ta:TA):TS:=fun D σ H=>ta σ H fun vs H1=>∃v w,vs=[v,w]/\D.nx ((σ.set i (some v)).set j (some w)) H1
def tAug(i:Nat)(te:TE)(ti:TIp):TS:=fun D σ H=>∃x,σ[i]? = some (some x)/\te σ H fun y H1=>ti x y H1 fun z H2=>D.nx (σ.set i (some z)) H2
def tAugS(to ti te:TE)(tget:V->V->Hp->VK->Prop)(tip:TIp)(tset:TSet):TS:=fun D σ H=>to σ H fun o H1=>ti σ H1 fun i H2=>tget o i H2 fun x H3=>te σ H3 fun y H4=>tip x y H4 fun z H5=>tset o i z H5 fun H6=>D.nx σ H6
def PGet(X:Cx)(t:V->V->Hp->VK->Prop):Prop:=
 ∀(pins:List (Addr×Obj)) (s:Shared) (σ:St) (H:Hp) (o i:V) (ov iv:Value) (Q:VK),Inv X pins σ H s->RelV o ov->RelV i iv->t o i H Q ->
  wpAny (model X.prog X.w) X.A (getItem ov iv) (EP X pins σ Q) X.xe s
theorem ps_augS{o i e:Expr}{to ti te:TE}{tget:V->V->Hp->VK->Prop}{tip:TIp}{tset:TSet}{op:Operator}{tpos:Pos}(ho:PE X o to)(hi:PE X i ti)(hg:PGet X tget)(he:PE X e te)(hp:PIp X op tip)(hs:PSet X tset)
  (ha:∀ov iv new,augStore i ov iv new=(do holding [new,ov,iv] (setItem ov iv new);release [new,ov,iv] [];pure .next):=by intros;rfl):PS X (.AugAssign (.Subscript o i tpos) op e pos) (tAugS to ti te tget tip tset):=by
 intro pins s σ H D I h
 refine wpAny_AugAssign_SubscriptAny (thn (ho pins s σ H _ I h) fun ov s1 ⟨x1,H1,I1,r1,q1⟩=>?_) ha
 refine thn (hi pins s1 σ H1 _ I1 q1) fun iv s2 ⟨x2,H2,I2,r2,q2⟩=>?_
 refine thn (hg pins s2 σ H2 x1 x2 ov iv _ I2 r1 r2 q2) fun old s3 ⟨x3,H3,I3,r3,q3⟩=>?_
 refine thn (he pins s3 σ H3 _ I3 q3) fun v s4 ⟨x4,H4,I4,r4,q4⟩=>?_
 refine thn (hp pins s4 σ H4 x3 x4 old v _ I4 r3 r4 q4) fun new s5 ⟨x5,H5,I5,r5,q5⟩=>?_
 exact thn (hs pins s5 σ H5 x1 x2 x5 ov iv new _ I5 r1 r2 r5 q5) fun _ s6 ⟨H6,I6,q6⟩=>⟨σ,H6,I6,q6⟩
def ipI(f:Int->Int->Int):TIp:=fun x y H Q=>∃i j,x=.int i/\y=.int j/\Q (.int (f i j)) H
theorem ip_add:PIp X .Add (ipI fun i j=>i+j):=by
 intro pins s σ H x y v u Q I r1 r2 h
 obtain⟨i,j,e1,e2,q⟩:=h
 subst e1;subst e2
 obtain⟨t,rfl⟩:=r1
 obtain⟨t',rfl⟩:=r2
 exact iadd_int ⟨.int _,H,I.tok _,⟨_,rfl⟩,q⟩
end
section
variable {X:Cx}{pos:Pos}
def tWhile(c:TT)(tb:TS):TS:=fun D σ H=>∃W:Nat->St->Hp->Prop,(∃m,W m σ H)/\∀m σ H,W m σ H ->
 c σ H fun b H1=>if b=true then ∃N:St->Hp->Prop,(∀σ' H',N σ' H'->∃m',m'<m/\W m' σ' H')/\tb { D with nx:=N,ct:=N,bk:=D.nx } σ H1 else D.nx σ H1
theorem ps_while{c:Expr}{body:List Stmt}{tc:TT}{tb:TS}(hp:PassesOwn (model X.prog X.w) X.A X.env X.xe)(hc:PT X c tc)(hb:PSs X body tb):PS X (.While c body [] pos) (tWhile tc tb):=by
 intro pins s σ H D I h
 obtain⟨W,⟨m0,w0⟩,turn⟩:=h
 refine wpAny_While (codeAny_whileLoop (fun n s'=>∃σ' H',Inv X pins σ' H' s'/\W n σ' H') ?_ m0 ⟨σ,H,I,w0⟩)
 rintro n s1 ⟨σ1,H1,I1,w1⟩
 refine wpAny_passesOwn hp (thn (hc pins s1 σ1 H1 _ I1 (turn n σ1 H1 w1)) fun b s2 ⟨H2,I2,q2⟩=>?_)
 cases b with
 | true=>
  obtain⟨N,hN,q2⟩:=q2
  rw[if_pos rfl]
  refine wpAny_passesOwn hp (thn (hb pins s2 σ1 H2 _ I2 q2) fun f s3 q3=>?_)
  cases f with
  | next=>
   obtain⟨σ3,H3,I3,n3⟩:=q3
   obtain⟨m',hm,w3⟩:=hN σ3 H3 n3
   exact⟨m',hm,σ3,H3,I3,w3⟩
  | cont=>
   obtain⟨σ3,H3,I3,n3⟩:=q3
   obtain⟨m',hm,w3⟩:=hN σ3 H3 n3
   exact⟨m',hm,σ3,H3,I3,w3⟩
  | brk=>exact q3
  | ret v=>exact q3
 | false=>
  rw[if_neg Bool.false_ne_true]
  exact wpAny_execs_nil ⟨σ1,H2,I2,q2⟩
end
structure It where
 go:Nat->Hp->Prop
 yld:Nat->Hp->V->Hp->Prop
 stop:Nat->Hp->Prop
def FpOk(X:Cx)(pins:List (Addr×Obj))(H:Hp)(b:Addr):Prop:=
 H b=none/\b≠X.env.locals/\b∉X.fs/\(b∈X.ex\/X.s₀.heap.objs.size<=b)/\(∀x c,X.env.cells.lookup x=some c->c≠b)/\∀p∈X.pn++pins,p.1≠b
theorem Inv.fpOk{X:Cx}{pins:List (Addr×Obj)}{σ:St}{H H':Hp}{s:Shared}{b:Addr}(I:Inv X pins σ H s)(hb:s.heap.objs.size<=b)(hn:H' b=none):FpOk X pins H' b:=by
 refine⟨hn,Nat.ne_of_gt (Nat.lt_of_lt_of_le I.lt hb),I.nofs hb,.inr (Nat.le_trans I.sz hb),fun x c e z=>?_,fun p hp z=>?_⟩
 ·obtain⟨v,q⟩:=I.cell x c e
  exact absurd (Nat.lt_of_lt_of_le q.lt (by rw[z];exact hb)) (Nat.lt_irrefl _)
 ·exact absurd (Nat.lt_of_lt_of_le (Heap.lt_size (I.pin p hp).1) (by rw[z];exact hb)) (Nat.lt_irrefl _)
structure Turn(P:Program)(w:World)(K:Fg)(tg:Expr)(J:It)(fp:List Addr)(it:Addr)(tn:Nat->Heap->Prop):Prop where
 mem:it∈fp
 obj:∀i h,tn i h->∀b∈fp,∃o,h.get? b=some o/\∀v,o.data≠.cell v
 keep:∀i h h',tn i h->(∀b∈fp,∀o,h.get? b=some o->h'.get? b=some o)->tn i h'
 item:∀(X:Cx),X.prog=P->X.w=w->X.K=K->X.calm=true->∀(i:Nat) (pins:List (Addr×Obj)) (s:Shared) (σ:St) (H:Hp) (E:Value->Shared->Prop),Inv X pins σ H s->(∀b∈fp,FpOk X pins H b)->tn i s.heap->J.go i H ->
  wpAny (model P w) X.A (pyNext (.ref it)) (fun r s1=>∃u,r=some u /\
   wpAny (model P w) X.A (letOwnedTupleGo tg (.ref it) u) (fun _ s2=>∃x H',Inv X pins σ H' s2/\RelV x u/\J.yld i H x H'/\tn (i+1) s2.heap/\∀b∈fp,H' b=none) E s1) E s
 done:∀(X:Cx),X.prog=P->X.w=w->X.K=K->X.calm=true->∀(i:Nat) (pins:List (Addr×Obj)) (s:Shared) (σ:St) (H:Hp) (E:Value->Shared->Prop),Inv X pins σ H s->(∀b∈fp,FpOk X pins H b)->tn i s.heap->J.stop i H ->
  wpAny (model P w) X.A (pyNext (.ref it)) (fun r s1=>r=none/\Inv X pins σ H s1) E s
 self:∀(A:Around) (i:Nat) (s:Shared) (Q:Value->Shared->Prop) (E:Value->Shared->Prop),tn i s.heap->Q (.ref it) s->wpAny (model P w) A (pyIter (.ref it)) Q E s
abbrev TI:=St->Hp->(It->Hp->Prop)->Prop
def PIE(X:Cx)(pins:List (Addr×Obj))(σ:St)(tg:Expr)(R:It->Hp->Prop)(itv:Value)(s2:Shared):Prop:=
 ∃(it:Addr) (fp:List Addr) (tn:Nat->Heap->Prop) (J:It) (H':Hp),itv=.ref it/\Inv X pins σ H' s2/\Turn X.prog X.w X.K tg J fp it tn/\tn 0 s2.heap/\(∀b∈fp,FpOk X pins H' b)/\R J H'
def PI(X:Cx)(tg iter:Expr)(wi:TI):Prop:=
 ∀(pins:List (Addr×Obj)) (s:Shared) (σ:St) (H:Hp) (R:It->Hp->Prop),Inv X pins σ H s->wi σ H R ->
  wpAny (model X.prog X.w) X.A (eval iter X.env) (fun v s1=>wpAny (model X.prog X.w) X.A (pyIter v) (PIE X pins σ tg R) X.xe s1) X.xe s
theorem go_of{M:Model}{A:Around}{E:Value->Shared->Prop}{s:Shared}{tg:Expr}{it:Addr}{u:Value}{o:Obj}{n:String}{vs:Array Value}{Q:Unit->Shared->Prop}(ho:s.heap.get? it=some o)(hc:o.cls=.type n)(hd:o.data=.fields vs)
  (hn:["enumerate", "zip", "dict_itemiterator", "dict_reverseitemiterator", "odict_iterator", "itertools.zip_longest", "itertools.pairwise"].contains n=false) (hQ:Q () s):wpAny M A (letOwnedTupleGo tg (.ref it) u) Q E s:=by
 unfold letOwnedTupleGo
 cases tg <;> first
  | exact wpAny_pure hQ
  | (cases u <;> first
    | exact wpAny_pure hQ
    | (refine wpAny_bind (wpAny_load ho ?_)
       rw[hc,hd]
       show wpAny M A (if(["enumerate", "zip", "dict_itemiterator", "dict_reverseitemiterator", "odict_iterator", "itertools.zip_longest", "itertools.pairwise"].contains n&&vs[0]? == some (rawInt _))=true then _ else _) Q E s
       rw[if_neg (by intro h;rw[hn,Bool.false_and]at h;cases h)]
       exact wpAny_pure hQ))
def Itl(K:Fg)(a:Addr):It:=
 ⟨fun i H=>∃xs x,SqL K H a xs/\xs[i]? = some x,fun i H x H'=>H'=H/\∀xs,SqL K H a xs->xs[i]? = some x,fun i H=>∃xs,SqL K H a xs/\xs.length<=i⟩
def Itt(K:Fg)(a:Addr):It:=
 ⟨fun i H=>∃xs x,SqT K H a xs/\xs[i]? = some x,fun i H x H'=>H'=H/\∀xs,SqT K H a xs->xs[i]? = some x,fun i H=>∃xs,SqT K H a xs/\xs.length<=i⟩
def Itr(lo:Int)(n:Nat):It:=⟨fun i _=>i<n,fun i H x H'=>H'=H/\x=.int (lo+i),fun i _=>n<=i⟩
theorem turn_list{P:Program}{w:World}{K:Fg}{tg:Expr}(a it:Addr):Turn P w K tg (Itl K a) [it] it (fun i h=>h.IsListIter it a i) where
 mem:=by simp
 obj:=fun i h st b hb=>by
  have e:b=it:=by simpa using hb
  subst e
  obtain⟨o,e,c,d⟩:=st
  exact⟨o,e,fun v z=>by rw[d]at z;cases z⟩
 keep:=fun i h h' st k=>st.at fun o e=>k it (by simp) o e
 item:=by
  intro X hP hw hK hc i pins s σ H E I hf st hg
  subst hP hw hK
  obtain⟨xs,x,hq,hx⟩:=hg
  obtain⟨its,rv,p,hz⟩:=I.list hq
  obtain⟨u,hu,ru⟩:=rv.get hx
  obtain⟨f0,f1,f2,f3,f4,f5⟩:=hf it (by simp)
  refine wpAny_pyNext_list_item st p.isList (x:=u) (by simpa using hu) fun h' st' sb=>?_
  have I1:Inv X pins σ H { s with heap:=h' }:=I.turned (t':=s.toks) (fun b o hb e=>(sb.2 b hb).trans e) f0 f1 f3 f4 f5
  obtain⟨o,e,c,d⟩:=id st'
  exact⟨u,rfl,go_of (s:={ s with heap:=h' }) e c d (by decide) ⟨x,H,I1,ru,⟨rfl,fun ys hy=>by rw[I.list_inj hy hq];exact hx⟩,st',fun b hb=>(hf b hb).1⟩⟩
 done:=by
  intro X hP hw hK hc i pins s σ H E I hf st hg
  subst hP hw hK
  obtain⟨xs,hq,hx⟩:=hg
  obtain⟨its,rv,p,hz⟩:=I.list hq
  obtain⟨f0,f1,f2,f3,f4,f5⟩:=hf it (by simp)
  have hl:=rv.length
  exact wpAny_pyNext_list_end (I.ok.hd hc) st p.isList (by simp;omega) fun h' eb=>⟨rfl,I.turned (t':=s.toks) (fun b o hb e=>eb b o hb e) f0 f1 f3 f4 f5⟩
 self:=fun _ _ _ _ _ st h=>wpAny_pyIter_listiter st h
theorem turn_range{P:Program}{w:World}{K:Fg}{tg:Expr}(it:Addr)(lo:Int)(n:Nat):Turn P w K tg (Itr lo n) [it] it (fun i h=>IsRangeIter h it (lo+(i:Nat) * 1) ((n:Int) - (i:Nat)) 1) where
 mem:=by simp
 obj:=fun i h st b hb=>by
  have e:b=it:=by simpa using hb
  subst e
  exact⟨_,st,fun v z=>by
   have z':Data.fields _=Data.cell v:=z
   cases z'⟩
 keep:=fun i h h' st k=>k it (by simp) _ st
 item:=by
  intro X hP hw hK hc i pins s σ H E I hf st hg
  subst hP hw hK
  obtain⟨f0,f1,f2,f3,f4,f5⟩:=hf it (by simp)
  have W:=Walks.range (prog:=X.prog) (w:=X.w) (I.ok.hd hc) it lo 1 n
  refine W.item i s _ _ hg st fun v h' tk hv st' kk=>?_
  obtain⟨t,rfl⟩:=hv
  have I1:Inv X pins σ H { s with heap:=h',toks:=tk }:=I.turned (fun b o hb e=>kk b o (by simpa using hb) e) f0 f1 f3 f4 f5
  refine⟨_,rfl,go_of (s:={ s with heap:=h',toks:=tk }) (n := "range_iterator") st' rfl rfl (by decide) ⟨.int (lo+i),H,I1,⟨t,?_⟩,⟨rfl,rfl⟩,st',fun b hb=>(hf b hb).1⟩⟩
  rw[Int.mul_one]
 done:=by
  intro X hP hw hK hc i pins s σ H E I hf st hg
  subst hP hw hK
  obtain⟨f0,f1,f2,f3,f4,f5⟩:=hf it (by simp)
  exact wpAny_pyNext_range_end (I.ok.hd hc) st (by have:n<=i:=hg;omega) fun h' eb=>⟨rfl,I.turned (t':=s.toks) (fun b o hb e=>eb b o hb e) f0 f1 f3 f4 f5⟩
 self:=fun _ _ _ _ _ st h=>wpAny_pyIter_rangeiter st h
end L2
namespace L2
open PySem PySem.Spec PyProof.Rows
section
variable {X:Cx}{tg:Expr}
def iList(K:Fg)(tl:TE):TI:=fun σ H R=>tl σ H fun x H1=>∃a,x=.ref a/\(∃xs,SqL K H1 a xs)/\R (Itl K a) H1
def iTup(K:Fg)(tl:TE):TI:=fun σ H R=>tl σ H fun x H1=>∃a,x=.ref a/\(∃xs,SqT K H1 a xs)/\R (Itt K a) H1
theorem pi_list{l:Expr}{tl:TE}(hl:PE X l tl):PI X tg l (iList X.K tl):=by
 intro pins s σ H R I h
 refine thn (hl pins s σ H _ I h) fun v s1 ⟨x,H1,I1,r1,q1⟩=>?_
 obtain⟨a,e,⟨xs,hq⟩,q⟩:=q1
 subst e
 cases r1
 obtain⟨its,rv,p,hz⟩:=I1.list hq
 refine wpAny_pyIter_list p.isList ?_
 refine⟨s1.heap.objs.size,[s1.heap.objs.size],_,_,H1,rfl,I1.kept (t':=s1.toks) fun b o e=>Heap.get?_push_of_some _ e,turn_list a _,⟨_,Heap.get?_push_size _ rfl,rfl,rfl⟩,fun b hb=>?_,q⟩
 have e:b=s1.heap.objs.size:=by simpa using hb
 subst e
 exact I1.fpOk (Nat.le_refl _) (I1.hok.fresh (Nat.le_refl _))
theorem range_it{pins:List (Addr×Obj)}{σ:St}{H:Hp}{s:Shared}{R:It->Hp->Prop}{E:Value->Shared->Prop}{lo hi:Int}{t u v:Tok}{tk:Nat}(I:Inv X pins σ H s)(h1 : -(2 ^ 62)<=lo)(h2:lo<2 ^ 62)(h3 : -(2 ^ 62)<=hi)(h4:hi<2 ^ 62)
  (q:R (Itr lo (hi - lo).toNat) H):wpAny (model X.prog X.w) X.A (pyIter (.ref s.heap.objs.size)) (PIE X pins σ tg R) E { s with heap:=s.heap.push { cls:=.type "range", data:=.fields #[.int lo t,.int hi u,.int 1 v] },toks:=tk }:=by
 refine wpAny_pyIter_range (IsRange.new ..) (small_one h1 h2 h3 h4) ?_
 have I1:Inv X pins σ H { s with heap:=s.heap.push { cls:=.type "range", data:=.fields #[.int lo t,.int hi u,.int 1 v] },toks:=tk }:=I.kept fun b o e=>Heap.get?_push_of_some _ e
 refine⟨(s.heap.push { cls:=.type "range", data:=.fields #[.int lo t,.int hi u,.int 1 v] }).objs.size,[(s.heap.push { cls:=.type "range", data:=.fields #[.int lo t,.int hi u,.int 1 v] }).objs.size],_,_,H,rfl,
  I1.kept (t':=tk) fun b o e=>Heap.get?_push_of_some _ e,turn_range _ lo (hi - lo).toNat,?_,fun b hb=>?_,q⟩
 ·have e1:lo+((0:Nat):Int) * 1=lo:=by simp
  have e2:(((hi - lo).toNat:Nat):Int) - ((0:Nat):Int)=Builtin.Range.rangeSize lo hi 1:=by rw[rangeSize_one];split <;> omega
  show IsRangeIter _ _ (lo+((0:Nat):Int) * 1) ((((hi - lo).toNat:Nat):Int) - ((0:Nat):Int)) 1
  rw[e1,e2]
  exact Heap.get?_push_size _ rfl
 ·have e:b=(s.heap.push { cls:=.type "range", data:=.fields #[.int lo t,.int hi u,.int 1 v] }).objs.size:=by simpa using hb
  subst e
  exact I1.fpOk (Nat.le_refl _) (I1.hok.fresh (Nat.le_refl _))
def iRng1(ta:TA):TI:=fun σ H R=>ta σ H fun vs H1=>∃j:Int,vs=[.int j] /\ -(2 ^ 62)<=j/\j<2 ^ 62/\R (Itr 0 j.toNat) H1
def iRng2(ta:TA):TI:=fun σ H R=>ta σ H fun vs H1=>∃i j:Int,vs=[.int i,.int j]/\(-(2 ^ 62)<=i/\i<2 ^ 62 /\ -(2 ^ 62)<=j/\j<2 ^ 62)/\R (Itr i (j - i).toNat) H1
theorem pi_range1{a:Expr}{ta:TA}{p pos:Pos}(hg:Gl X "range")(hm:X.mg "range" = none)(ha:PA X [a] ta)(hs:starEach [a] X.env=[(false,eval a X.env)]:=by rfl):PI X tg (.Call (.Name "range" p) [a] [] pos) (iRng1 ta):=by
 intro pins s σ H R I h
 refine Call_ (ld_blt I hg hm boot_range (PyProof.Rows.callWith_type1 (thn (ha pos pins s σ H _ I h) fun us s1 ⟨vs,H1,I1,r1,q1⟩=>?_) hs rfl))
 obtain⟨j,e,q1,q2,q⟩:=q1
 subst e
 cases r1 with
 | cons r rr=>
  cases rr
  obtain⟨t,rfl⟩:=r
  exact call_range_1 (range_it I1 (by omega) (by omega) q1 q2 (by simpa using q))
theorem pi_range2{a b:Expr}{ta:TA}{p pos:Pos}(hg:Gl X "range")(hm:X.mg "range" = none)(ha:PA X [a,b] ta)(hs:starEach [a,b] X.env=[(false,eval a X.env),(false,eval b X.env)]:=by rfl)(hs2:starEach [b] X.env=[(false,eval b X.env)]:=by rfl) :
  PI X tg (.Call (.Name "range" p) [a,b] [] pos) (iRng2 ta):=by
 intro pins s σ H R I h
 refine Call_ (ld_blt I hg hm boot_range (PyProof.Rows.callWith_type1 (thn (ha pos pins s σ H _ I h) fun us s1 ⟨vs,H1,I1,r1,q1⟩=>?_) (by rw[hs,hs2]) (by rw[hs2];rfl)))
 obtain⟨i,j,e,⟨q1,q2,q3,q4⟩,q⟩:=q1
 subst e
 cases r1 with
 | cons r rr=>
  cases rr with
  | cons r' rr=>
   cases rr
   obtain⟨t,rfl⟩:=r
   obtain⟨t',rfl⟩:=r'
   exact call_range_2 (range_it I1 q1 q2 q3 q4 q)
def tFor(wi:TI)(g:TG)(tb:TS):TS:=fun D σ H=>wi σ H fun J H1=>∃W:Nat->Nat->St->Hp->Prop,(∃m,W 0 m σ H1)/\∀i m σ H,W i m σ H ->
 (J.stop i H/\D.nx σ H)\/(J.go i H/\∃N:St->Hp->Prop,(∀σ' H',N σ' H'->∃m',m'<m/\W (i+1) m' σ' H')/\∀x H',J.yld i H x H'->g x σ H' fun σ2 H2=>tb { D with nx:=N,ct:=N,bk:=D.nx } σ2 H2)
def pinsAt(fp:List Addr)(h:Heap):List (Addr×Obj):=fp.filterMap fun b=>(h.get? b).map fun o=>(b,o)
theorem mem_pinsAt{fp:List Addr}{h:Heap}{b:Addr}{o:Obj}(hb:b∈fp)(e:h.get? b=some o):(b,o)∈pinsAt fp h:=List.mem_filterMap.mpr ⟨b,hb,by rw[e];rfl⟩
theorem of_pinsAt{fp:List Addr}{h:Heap}{p:Addr×Obj}(hp:p∈pinsAt fp h):p.1∈fp/\h.get? p.1=some p.2:=by
 obtain⟨b,hb,e⟩:=List.mem_filterMap.mp hp
 cases q:h.get? b with
 | none=>rw[q]at e;cases e
 | some o=>
  rw[q]at e
  have e':(b,o)=p:=Option.some.inj e
  subst e'
  exact⟨hb,q⟩
theorem Inv.pinned{pins:List (Addr×Obj)}{σ:St}{H:Hp}{s:Shared}{fp:List Addr}(I:Inv X pins σ H s)(hf:∀b∈fp,FpOk X pins H b)(ho:∀b∈fp,∃o,s.heap.get? b=some o/\∀v,o.data≠.cell v):Inv X (pins++pinsAt fp s.heap) σ H s:=
 I.pins_of fun p hp=>(List.mem_append.mp hp).elim (fun z=>I.pin p (List.mem_append_right _ z)) fun z=>by
  obtain⟨hb,e⟩:=of_pinsAt z
  obtain⟨f0,f1,f2,_⟩:=hf p.1 hb
  obtain⟨o,e',d⟩:=ho p.1 hb
  rw[e]at e';cases e'
  exact⟨e,f0,f1,f2,d⟩
theorem Inv.unpinned{pins pl:List (Addr×Obj)}{σ:St}{H:Hp}{s:Shared}(I:Inv X (pins++pl) σ H s):Inv X pins σ H s:=I.pins_of fun p hp=>I.pin p (List.mem_append_right _ (List.mem_append_left _ hp))
theorem ps_for{iter:Expr}{body:List Stmt}{wi:TI}{g:TG}{tb:TS}{pos:Pos}(hp:PassesOwn (model X.prog X.w) X.A X.env X.xe)(hc:X.calm=true)(hi:PI X tg iter wi)(hg:PG X tg g)(hb:PSs X body tb)
  (hs:∀x,foldedSetIterable iter X.env x=pure x:=by intro _;rfl):PS X (.For tg iter body [] pos) (tFor wi g tb):=by
 intro pins s σ H D I h
 refine wpAny_For (thn (hi pins s σ H _ I h) fun v s1 h1=>thn h1 fun itv s2 h2=>?_) hs
 obtain⟨it,fp,tn,J,H2,e,I2,T,st2,f2,W,⟨m0,w0⟩,turn⟩:=h2
 subst e
 have stat:∀ {H':Hp},(∀b∈fp,H' b=none)->∀b∈fp,FpOk X pins H' b:=fun hn b hb=>⟨hn b hb,(f2 b hb).2⟩
 refine codeAny_forLoop_any (fun n s'=>∃i σ' H',Inv X pins σ' H' s'/\tn i s'.heap/\(∀b∈fp,H' b=none)/\W i n σ' H') ?_ m0 ⟨0,σ,H2,I2,st2,fun b hb=>(f2 b hb).1,w0⟩
 rintro n s3 ⟨i,σ3,H3,I3,st3,fr3,w3⟩
 rcases turn i n σ3 H3 w3 with ⟨stop,qn⟩ | ⟨go,N,hN,step⟩
 ·refine wpAny_passesOwn hp (thn (T.done X rfl rfl rfl hc i pins s3 σ3 H3 X.xe I3 (stat fr3) st3 stop) fun r s4 ⟨hr,I4⟩=>?_)
  subst hr
  exact wpAny_execs_nil ⟨σ3,H3,I4,qn⟩
 ·refine wpAny_passesOwn hp (thn (T.item X rfl rfl rfl hc i pins s3 σ3 H3 X.xe I3 (stat fr3) st3 go) fun r s4 ⟨u,hr,h4⟩=>?_)
  subst hr
  refine wpAny_passesOwn hp (thn h4 fun _ s5 ⟨x,H5,I5,r5,y5,st5,fr5⟩=>?_)
  have I5':=I5.pinned (stat fr5) (T.obj _ _ st5)
  refine wpAny_passesOwn hp (thn (hg _ s5 σ3 H5 x u _ I5' r5 (step x H5 y5)) fun _ s6 ⟨σ6,H6,I6,q6⟩=>?_)
  refine wpAny_passesOwn hp (thn (hb _ s6 σ6 H6 _ I6 q6) fun f s7 q7=>?_)
  have again:∀ {σ7:St} {H7:Hp},Inv X (pins++pinsAt fp s5.heap) σ7 H7 s7->N σ7 H7->∃m,m<n/\∃i σ' H',Inv X pins σ' H' s7/\tn i s7.heap/\(∀b∈fp,H' b=none)/\W i m σ' H':=fun {σ7 H7} I7 n7=>by
   obtain⟨m',hm,w7⟩:=hN σ7 H7 n7
   refine⟨m',hm,i+1,σ7,H7,I7.unpinned,T.keep _ _ _ st5 fun b hb o e=>(I7.pin (b,o) (List.mem_append_right _ (List.mem_append_right _ (mem_pinsAt hb e)))).1,fun b hb=>?_,w7⟩
   obtain⟨o,e,d⟩:=T.obj _ _ st5 b hb
   exact(I7.pin (b,o) (List.mem_append_right _ (List.mem_append_right _ (mem_pinsAt hb e)))).2.1
  cases f with
  | next=>obtain⟨σ7,H7,I7,n7⟩:=q7;exact again I7 n7
  | cont=>obtain⟨σ7,H7,I7,n7⟩:=q7;exact again I7 n7
  | brk=>obtain⟨σ7,H7,I7,q7⟩:=q7;exact⟨σ7,H7,I7.unpinned,q7⟩
  | ret v=>obtain⟨x7,σ7,H7,I7,r7,q7⟩:=q7;exact⟨x7,σ7,H7,I7.unpinned,r7,q7⟩
end
theorem for_list{K:Fg}{a:Addr}{xs:List V}{g:TG}{tb:TS}{D:Ends}{σ:St}{H:Hp}(Pv:Nat->St->Hp->Prop)(h0:Pv 0 σ H)(hl:∀i σ H,i<=xs.length->Pv i σ H->SqL K H a xs)
  (hs:∀i x σ H,xs[i]? = some x->Pv i σ H->g x σ H fun σ2 H2=>tb { D with nx:=Pv (i+1),ct:=Pv (i+1),bk:=D.nx } σ2 H2) (hd:∀σ H,Pv xs.length σ H->D.nx σ H) :
  ∃W:Nat->Nat->St->Hp->Prop,(∃m,W 0 m σ H)/\∀i m σ H,W i m σ H ->
   ((Itl K a).stop i H/\D.nx σ H)\/((Itl K a).go i H/\∃N:St->Hp->Prop,(∀σ' H',N σ' H'->∃m',m'<m/\W (i+1) m' σ' H')/\∀x H',(Itl K a).yld i H x H'->g x σ H' fun σ2 H2=>tb { D with nx:=N,ct:=N,bk:=D.nx } σ2 H2):=by
 refine⟨fun i m σ H=>m=xs.length - i/\i<=xs.length/\Pv i σ H,⟨xs.length,by simp,Nat.zero_le _,h0⟩,?_⟩
 rintro i m σ H ⟨rfl,hi,p⟩
 have q:=hl i σ H hi p
 by_cases hlt:i<xs.length
 ·refine .inr ⟨⟨xs,xs[i],q,by simp[hlt]⟩,Pv (i+1),fun σ' H' p'=>⟨xs.length - (i+1),by omega,rfl,hlt,p'⟩,fun x H' y=>?_⟩
  obtain⟨e,y⟩:=y
  subst e
  exact hs i x σ _ (y xs q) p
 ·have e:i=xs.length:=by omega
  subst e
  exact .inl ⟨⟨xs,q,Nat.le_refl _⟩,hd σ H p⟩
theorem for_range{lo:Int}{n:Nat}{g:TG}{tb:TS}{D:Ends}{σ:St}{H:Hp}(Pv:Nat->St->Hp->Prop)(h0:Pv 0 σ H)
  (hs:∀i σ H,i<n->Pv i σ H->g (.int (lo+i)) σ H fun σ2 H2=>tb { D with nx:=Pv (i+1),ct:=Pv (i+1),bk:=D.nx } σ2 H2) (hd:∀σ H,Pv n σ H->D.nx σ H) :
  ∃W:Nat->Nat->St->Hp->Prop,(∃m,W 0 m σ H)/\∀i m σ H,W i m σ H ->
   ((Itr lo n).stop i H/\D.nx σ H)\/((Itr lo n).go i H/\∃N:St->Hp->Prop,(∀σ' H',N σ' H'->∃m',m'<m/\W (i+1) m' σ' H')/\∀x H',(Itr lo n).yld i H x H'->g x σ H' fun σ2 H2=>tb { D with nx:=N,ct:=N,bk:=D.nx } σ2 H2):=by
 refine⟨fun i m σ H=>m=n - i/\i<=n/\Pv i σ H,⟨n,by simp,Nat.zero_le _,h0⟩,?_⟩
 rintro i m σ H ⟨rfl,hi,p⟩
 by_cases hlt:i<n
 ·refine .inr ⟨hlt,Pv (i+1),fun σ' H' p'=>⟨n - (i+1),by omega,rfl,hlt,p'⟩,fun x H' y=>?_⟩
  obtain⟨e,y⟩:=y
  subst e y
  exact hs i σ _ hlt p
 ·have e:i=n:=by omega
  subst e
  exact .inl ⟨Nat.le_refl _,hd σ H p⟩
end L2
namespace L2
open PySem PySem.Spec PyProof.Rows
abbrev R2:=V->V->Hp->VK->Prop
def OpR(X:Cx)(f:Value->Value->Sem Value)(r:R2):Prop:=
 ∀(pins:List (Addr×Obj)) (s:Shared) (σ:St) (H:Hp) (x y:V) (v u:Value) (Q:VK),Inv X pins σ H s->RelV x v->RelV y u->r x y H Q ->
  wpAny (model X.prog X.w) X.A (f v u) (EP X pins σ Q) X.xe s
def UnR(X:Cx)(f:Value->Sem Value)(r:V->Hp->VK->Prop):Prop:=
 ∀(pins:List (Addr×Obj)) (s:Shared) (σ:St) (H:Hp) (x:V) (v:Value) (Q:VK),Inv X pins σ H s->RelV x v->r x H Q ->
  wpAny (model X.prog X.w) X.A (f v) (EP X pins σ Q) X.xe s
def CallR(X:Cx)(f:Value)(r:List V->Hp->VK->Prop):Prop:=
 ∀(pins:List (Addr×Obj)) (s:Shared) (σ:St) (H:Hp) (xs:List V) (us:List Value) (Q:VK),Inv X pins σ H s->Vals xs us->r xs H Q ->
  wpAny (model X.prog X.w) X.A (call f us) (EP X pins σ Q) X.xe s
def TruR(X:Cx)(r:V->Hp->(Bool->Hp->Prop)->Prop):Prop:=
 ∀(pins:List (Addr×Obj)) (s:Shared) (σ:St) (H:Hp) (x:V) (v:Value) (Q:Bool->Hp->Prop),Inv X pins σ H s->RelV x v->r x H Q ->
  wpAny (model X.prog X.w) X.A (truthy v) (TP X pins σ Q) X.xe s
def tOp(r:R2)(ta tb:TE):TE:=fun σ H Q=>ta σ H fun x H1=>tb σ H1 fun y H2=>r x y H2 Q
def tUn(r:V->Hp->VK->Prop)(ta:TE):TE:=fun σ H Q=>ta σ H fun x H1=>r x H1 Q
def rI(C:Int->Int->Prop)(g:Int->Int->V):R2:=fun x y H Q=>∃i j,x=.int i/\y=.int j/\C i j/\Q (g i j) H
def rI0(g:Int->Int->V):R2:=fun x y H Q=>∃i j,x=.int i/\y=.int j/\Q (g i j) H
def rU(g:Int->V):V->Hp->VK->Prop:=fun x H Q=>∃i,x=.int i/\Q (g i) H
section
variable {X:Cx}{a b c:Expr}{ta tb tc:TE}{pos:Pos}
theorem binT(ha:PE X a ta)(hb:PE X b tb){pins:List (Addr×Obj)}{s:Shared}{σ:St}{H:Hp}{R:V->V->Hp->Prop}(I:Inv X pins σ H s)
  (h:ta σ H fun x H1=>tb σ H1 fun y H2=>R x y H2) {Q:Value->Shared->Prop} {f:Value->Value->Sem Value}
  (hf:∀v u s2 x y H2,Inv X pins σ H2 s2->RelV x v->RelV y u->R x y H2->wpAny (model X.prog X.w) X.A (f v u) Q X.xe s2) :
  wpAny (model X.prog X.w) X.A (eval a X.env) (fun v s₁=>wpAny (model X.prog X.w) X.A (eval b X.env) (fun u s₂=>wpAny (model X.prog X.w) X.A (f v u) Q X.xe s₂) X.xe s₁) X.xe s:=by
 refine thn (ha pins s σ H _ I h) fun v s1 ⟨x,H1,I1,r1,q1⟩=>?_
 refine thn (hb pins s1 σ H1 _ I1 q1) fun u s2 ⟨y,H2,I2,r2,q2⟩=>?_
 exact hf v u s2 x y H2 I2 r1 r2 q2
theorem pe_op{op:Operator}{r:R2}(ho:OpR X (binaryOp op) r)(ha:PE X a ta)(hb:PE X b tb):PE X (.BinOp a op b pos) (tOp r ta tb):=by
 intro pins s σ H Q I h
 exact wpAny_BinOp (binT ha hb I h fun v u s2 x y H2 I2 rx ry q=>ho pins s2 σ H2 x y v u Q I2 rx ry q)
theorem pe_un{op:UnaryOp}{r:V->Hp->VK->Prop}(ho:UnR X (unaryOp op) r)(ha:PE X a ta):PE X (.UnaryOp op a pos) (tUn r ta):=by
 intro pins s σ H Q I h
 exact UnaryOp_ (thn (ha pins s σ H _ I h) fun v s1 ⟨x,H1,I1,r1,q1⟩=>ho pins s1 σ H1 x v Q I1 r1 q1)
theorem opI{f:Value->Value->Sem Value}{C:Int->Int->Prop}{g:Int->Int->Int}
  (rule:∀(i j:Int) (t u:Tok) (s:Shared) (Q:Value->Shared->Prop) (E:Value->Shared->Prop),C i j->Q (.int (g i j) s.toks) { s with toks:=s.toks+1 }->wpAny (model X.prog X.w) X.A (f (.int i t) (.int j u)) Q E s) :
  OpR X f (rI C fun i j=>.int (g i j)):=by
 intro pins s σ H x y v u Q I rx ry h
 obtain⟨i,j,rfl,rfl,hc,q⟩:=h
 obtain⟨t,rfl⟩:=rx
 obtain⟨t',rfl⟩:=ry
 exact rule i j t t' s _ _ hc ⟨.int (g i j),H,I.tok _,⟨_,rfl⟩,q⟩
theorem opI0{f:Value->Value->Sem Value}{g:Int->Int->Int}
  (rule:∀(i j:Int) (t u:Tok) (s:Shared) (Q:Value->Shared->Prop) (E:Value->Shared->Prop),Q (.int (g i j) s.toks) { s with toks:=s.toks+1 }->wpAny (model X.prog X.w) X.A (f (.int i t) (.int j u)) Q E s) :
  OpR X f (rI0 fun i j=>.int (g i j)):=by
 intro pins s σ H x y v u Q I rx ry h
 obtain⟨i,j,rfl,rfl,q⟩:=h
 obtain⟨t,rfl⟩:=rx
 obtain⟨t',rfl⟩:=ry
 exact rule i j t t' s _ _ ⟨.int (g i j),H,I.tok _,⟨_,rfl⟩,q⟩
theorem opB0{f:Value->Value->Sem Value}{g:Int->Int->Bool}
  (rule:∀(i j:Int) (t u:Tok) (s:Shared) (Q:Value->Shared->Prop) (E:Value->Shared->Prop),Q (.bool (g i j)) s->wpAny (model X.prog X.w) X.A (f (.int i t) (.int j u)) Q E s) :
  OpR X f (rI0 fun i j=>.bl (g i j)):=by
 intro pins s σ H x y v u Q I rx ry h
 obtain⟨i,j,rfl,rfl,q⟩:=h
 obtain⟨t,rfl⟩:=rx
 obtain⟨t',rfl⟩:=ry
 exact rule i j t t' s _ _ ⟨.bl (g i j),H,I,rfl,q⟩
def CDiv(i j:Int):Prop:=0<j/\j<1073741824
def CDivN(i j:Int):Prop:=j≠0/\j.natAbs<1073741824
def CPow(i j:Int):Prop:=0<=j/\j<=1000000/\i.natAbs<2 ^ 64
def CMul(i j:Int):Prop:=(-(2 ^ 64)<i/\i<2 ^ 64)\/(-(2 ^ 64)<j/\j<2 ^ 64)
theorem CMul.ok{i j:Int}(h:CMul i j):IntMulOk i j:=by
 rcases h with ⟨h1,h2⟩ | ⟨h1,h2⟩
 ·exact .of_left (intBits_le_64 h1 h2)
 ·exact .of_right (intBits_le_64 h1 h2)
theorem op_add:OpR X (binaryOp .Add) (rI0 fun i j=>.int (i+j)):=opI0 fun _ _ _ _ _ _ _ q=>add_int q
theorem op_sub:OpR X (binaryOp .Sub) (rI0 fun i j=>.int (i - j)):=opI0 fun _ _ _ _ _ _ _ q=>sub_int q
theorem op_mul:OpR X (binaryOp .Mult) (rI CMul fun i j=>.int (i * j)):=opI fun _ _ _ _ _ _ _ hc q=>mul_int q hc.ok
theorem op_mod:OpR X (binaryOp .Mod) (rI (fun _ j=>0<j) fun i j=>.int (i % j)):=opI fun i j _ _ _ _ _ hc q=>by
 have h1:(0:Int)<j:=hc
 exact mod_int' (by omega) (by rw[Int.fmod_eq_emod_of_nonneg i (by omega)];exact q)
theorem op_pow:OpR X (binaryOp .Pow) (rI CPow fun i j=>.int (i ^ j.toNat)):=opI fun _ _ _ _ _ _ _ hc q=>pow_int_small hc.1 hc.2.1 hc.2.2 q
theorem unI{f:Value->Sem Value}{g:Int->Int}
  (rule:∀(i:Int) (t:Tok) (s:Shared) (Q:Value->Shared->Prop) (E:Value->Shared->Prop),Q (.int (g i) s.toks) { s with toks:=s.toks+1 }->wpAny (model X.prog X.w) X.A (f (.int i t)) Q E s) :
  UnR X f (rU fun i=>.int (g i)):=by
 intro pins s σ H x v Q I rx h
 obtain⟨i,rfl,q⟩:=h
 obtain⟨t,rfl⟩:=rx
 exact rule i t s _ _ ⟨.int (g i),H,I.tok _,⟨_,rfl⟩,q⟩
theorem un_neg:UnR X (unaryOp .USub) (rU fun i=>.int (-i)):=unI fun _ _ _ _ _ q=>neg_int q
end
def scal:V->V->Bool
 | .non,.non=>true | .non,.int _=>true | .int _,.non=>true | .non,.bl _=>true | .bl _,.non=>true | .non,.str _=>true | .str _,.non=>true
 | .int _,.int _=>true | .bl _,.bl _=>true | .str _,.str _=>true | .byt _,.byt _=>true
 | .int _,.str _=>true | .str _,.int _=>true | .bl _,.str _=>true | .str _,.bl _=>true
 | _,_=>false
def rEq:R2:=fun x y H Q=>scal x y=true/\Q (.bl (decide (x=y))) H
def rNe:R2:=fun x y H Q=>scal x y=true/\Q (.bl (!decide (x=y))) H
theorem dec_int{i j:Int}:decide (V.int i=V.int j)=(i == j):=by
 rw[Bool.eq_iff_iff]
 simp
theorem dec_bl{i j:Bool}:decide (V.bl i=V.bl j)=(i == j):=by
 rw[Bool.eq_iff_iff]
 simp
theorem dec_str{i j:Str}:decide (V.str i=V.str j)=(i == j):=by
 rw[Bool.eq_iff_iff]
 simp
theorem dec_byt{i j:Array UInt8}:decide (V.byt i=V.byt j)=(i.toList == j.toList):=by
 rw[Bool.eq_iff_iff]
 cases i
 cases j
 simp
section
variable {X:Cx}{a b c:Expr}{ta tb tc:TE}{pos:Pos}
theorem fin_bl{pins:List (Addr×Obj)}{σ:St}{H:Hp}{s:Shared}{Q:VK}{k k':Bool}(I:Inv X pins σ H s)(q:Q (.bl k) H)(e:k=k'):EP X pins σ Q (.bool k') s:=by
 subst e
 exact⟨.bl k,H,I,rfl,q⟩
theorem op_eq:OpR X (compareOp .Eq) rEq:=by
 intro pins s σ H x y v u Q I rx ry h
 obtain⟨hs,q⟩:=h
 cases x with
 | non=>
  cases rx
  cases y with
  | non=>cases ry;exact PySem.EqNone.eq_none_none (fin_bl I q (by simp))
  | bl j=>cases ry;exact PySem.EqNone.eq_none_bool (fin_bl I q (by simp))
  | int j=>obtain⟨t',rfl⟩:=ry;exact PySem.EqNone.eq_none_int (fin_bl I q (by simp))
  | str j=>obtain⟨t',rfl⟩:=ry;exact PySem.EqNone.eq_none_str (fin_bl I q (by simp))
  | _=>exact absurd (show false=true from hs) Bool.false_ne_true
 | bl i=>
  cases rx
  cases y with
  | non=>cases ry;exact PySem.EqNone.eq_bool_none (fin_bl I q (by simp))
  | bl j=>cases ry;exact eq_bool (fin_bl I q dec_bl)
  | str j=>obtain⟨t',rfl⟩:=ry;exact PySem.EqMixed.eq_bool_str (fin_bl I q (by simp))
  | _=>exact absurd (show false=true from hs) Bool.false_ne_true
 | int i=>
  obtain⟨t,rfl⟩:=rx
  cases y with
  | non=>cases ry;exact PySem.EqNone.eq_int_none (fin_bl I q (by simp))
  | int j=>obtain⟨t',rfl⟩:=ry;exact eq_int (fin_bl I q dec_int)
  | str j=>obtain⟨t',rfl⟩:=ry;exact PySem.EqMixed.eq_int_str (fin_bl I q (by simp))
  | _=>exact absurd (show false=true from hs) Bool.false_ne_true
 | str i=>
  obtain⟨t,rfl⟩:=rx
  cases y with
  | non=>cases ry;exact PySem.EqNone.eq_str_none (fin_bl I q (by simp))
  | bl j=>cases ry;exact PySem.EqMixed.eq_str_bool (fin_bl I q (by simp))
  | int j=>obtain⟨t',rfl⟩:=ry;exact PySem.EqMixed.eq_str_int (fin_bl I q (by simp))
  | str j=>obtain⟨t',rfl⟩:=ry;exact eq_str (fin_bl I q dec_str)
  | _=>exact absurd (show false=true from hs) Bool.false_ne_true
 | byt i=>
  obtain⟨t,rfl⟩:=rx
  cases y with
  | byt j=>obtain⟨t',rfl⟩:=ry;exact PySem.W.eq_bytes (fin_bl I q dec_byt)
  | _=>exact absurd (show false=true from hs) Bool.false_ne_true
 | _=>cases y <;> exact absurd (show false=true from hs) Bool.false_ne_true
theorem op_ne:OpR X (compareOp .NotEq) rNe:=by
 intro pins s σ H x y v u Q I rx ry h
 obtain⟨hs,q⟩:=h
 cases x with
 | non=>
  cases rx
  cases y with
  | non=>cases ry;exact PySem.EqNone.ne_none_none (fin_bl I q (by simp))
  | bl j=>cases ry;exact PySem.EqNone.ne_none_bool (fin_bl I q (by simp))
  | int j=>obtain⟨t',rfl⟩:=ry;exact PySem.EqNone.ne_none_int (fin_bl I q (by simp))
  | str j=>obtain⟨t',rfl⟩:=ry;exact PySem.EqNone.ne_none_str (fin_bl I q (by simp))
  | _=>exact absurd (show false=true from hs) Bool.false_ne_true
 | bl i=>
  cases rx
  cases y with
  | non=>cases ry;exact PySem.EqNone.ne_bool_none (fin_bl I q (by simp))
  | bl j=>cases ry;exact ne_bool (fin_bl I q (congrArg not dec_bl))
  | str j=>obtain⟨t',rfl⟩:=ry;exact PySem.EqMixed.ne_bool_str (fin_bl I q (by simp))
  | _=>exact absurd (show false=true from hs) Bool.false_ne_true
 | int i=>
  obtain⟨t,rfl⟩:=rx
  cases y with
  | non=>cases ry;exact PySem.EqNone.ne_int_none (fin_bl I q (by simp))
  | int j=>obtain⟨t',rfl⟩:=ry;exact ne_int (fin_bl I q (congrArg not dec_int))
  | str j=>obtain⟨t',rfl⟩:=ry;exact PySem.EqMixed.ne_int_str (fin_bl I q (by simp))
  | _=>exact absurd (show false=true from hs) Bool.false_ne_true
 | str i=>
  obtain⟨t,rfl⟩:=rx
  cases y with
  | non=>cases ry;exact PySem.EqNone.ne_str_none (fin_bl I q (by simp))
  | bl j=>cases ry;exact PySem.EqMixed.ne_str_bool (fin_bl I q (by simp))
  | int j=>obtain⟨t',rfl⟩:=ry;exact PySem.EqMixed.ne_str_int (fin_bl I q (by simp))
  | str j=>obtain⟨t',rfl⟩:=ry;exact ne_str (fin_bl I q (congrArg not dec_str))
  | _=>exact absurd (show false=true from hs) Bool.false_ne_true
 | byt i=>
  obtain⟨t,rfl⟩:=rx
  cases y with
  | byt j=>obtain⟨t',rfl⟩:=ry;exact PySem.W.ne_bytes (fin_bl I q (congrArg not dec_byt))
  | _=>exact absurd (show false=true from hs) Bool.false_ne_true
 | _=>cases y <;> exact absurd (show false=true from hs) Bool.false_ne_true
theorem op_lt:OpR X (compareOp .Lt) (rI0 fun i j=>.bl (decide (i<j))):=opB0 fun _ _ _ _ _ _ _ q=>lt_int q
theorem op_le:OpR X (compareOp .LtE) (rI0 fun i j=>.bl (decide (i<=j))):=opB0 fun _ _ _ _ _ _ _ q=>le_int q
theorem op_gt:OpR X (compareOp .Gt) (rI0 fun i j=>.bl (decide (j<i))):=opB0 fun _ _ _ _ _ _ _ q=>gt_int q
theorem op_ge:OpR X (compareOp .GtE) (rI0 fun i j=>.bl (decide (j<=i))):=opB0 fun _ _ _ _ _ _ _ q=>ge_int q
theorem op_in_str:OpR X (compareOp .In) (fun x y H Q=>∃i j,x=.str i/\y=.str j/\Q (.bl (!(Builtin.Str.occurrences j i 0 j.length 1).isEmpty)) H):=by
 intro pins s σ H x y v u Q I rx ry h
 obtain⟨i,j,rfl,rfl,q⟩:=h
 obtain⟨t,rfl⟩:=rx
 obtain⟨t',rfl⟩:=ry
 exact in_str (fin_bl I q rfl)
theorem op_isN:OpR X (compareOp .Is) (fun x y H Q=>y=.non/\Q (.bl (decide (x=.non))) H):=by
 intro pins s σ H x y v u Q I rx ry h
 obtain⟨rfl,q⟩:=h
 cases ry
 refine is_none_gen (fin_bl I q ?_)
 cases x <;> first
  | (cases rx;rfl)
  | (obtain⟨t,rfl⟩:=rx;rfl)
theorem op_notN:OpR X (compareOp .IsNot) (fun x y H Q=>y=.non/\Q (.bl (!decide (x=.non))) H):=by
 intro pins s σ H x y v u Q I rx ry h
 obtain⟨rfl,q⟩:=h
 cases ry
 refine isnot_none_gen (fin_bl I q ?_)
 cases x <;> first
  | (cases rx;rfl)
  | (obtain⟨t,rfl⟩:=rx;rfl)
def isObj:HO->Bool
 | .lst _=>true
 | .ins _ _ _=>true
 | _=>false
theorem OpR.or{f:Value->Value->Sem Value}{r r':R2}(h:OpR X f r)(h':OpR X f r'):OpR X f (fun x y H Q=>r x y H Q\/r' x y H Q):=by
 intro pins s σ H x y v u Q I rx ry q
 rcases q with q | q
 ·exact h pins s σ H x y v u Q I rx ry q
 ·exact h' pins s σ H x y v u Q I rx ry q
theorem nomark(b:Expr){op:CmpOp}(h:op≠.In:=by decide)(h2:op≠.NotIn:=by decide):behindInMarks op b=false:=by
 have e1:(op == CmpOp.In)=false:=by cases op <;> first | rfl | exact absurd rfl h
 have e2:(op == CmpOp.NotIn)=false:=by cases op <;> first | rfl | exact absurd rfl h2
 cases b <;> simp[behindInMarks,e1,e2]
theorem pe_cmpR{op:CmpOp}{r:R2}(ho:OpR X (compareOp op) r)(ha:PE X a ta)(hb:PE X b tb)(hm:behindInMarks op b=false):PE X (.Compare a [op] [b] pos) (tOp r ta tb):=by
 intro pins s σ H Q I h
 exact wpAny_Compare1 (binT ha hb I h fun v u s2 x y H2 I2 rx ry q=>ho pins s2 σ H2 x y v u Q I2 rx ry q) hm
def tTest(t:TE):TT:=fun σ H Q=>t σ H fun x H'=>∃k,x=.bl k/\Q k H'
theorem pt_cmpR{op:CmpOp}{r:R2}(ho:OpR X (compareOp op) r)(ha:PE X a ta)(hb:PE X b tb)(hm:behindInMarks op b=false):PT X (.Compare a [op] [b] pos) (tTest (tOp r ta tb)):=by
 intro pins s σ H Q I h
 refine wpAny_isTrue_Compare1 (thn (ha pins s σ H _ I h) fun v s1 ⟨x,H1,I1,r1,q1⟩=>thn (hb pins s1 σ H1 _ I1 q1) fun u s2 ⟨y,H2,I2,r2,q2⟩=>
  thn (ho pins s2 σ H2 x y v u _ I2 r1 r2 q2) fun c s3 ⟨z,H3,I3,r3,k,e,q3⟩=>?_) hm
 subst e
 cases r3
 exact wpAny_truthy_bool ⟨H3,I3,q3⟩
def tChain(r r':R2)(ta tb tc:TE):TE:=fun σ H Q=>ta σ H fun x H1=>tb σ H1 fun y H2=>r x y H2 fun z H3=>∃k,z=.bl k /\
 (if k=true then tc σ H3 fun w' H4=>r' y w' H4 Q else Q (.bl false) H3)
theorem pe_chain{op op':CmpOp}{r r':R2}(ho:OpR X (compareOp op) r)(ho':OpR X (compareOp op') r')(ha:PE X a ta)(hb:PE X b tb)(hc:PE X c tc)
  (hm:lastMarks [op,op'] [b,c]=false:=by with_unfolding_all rfl):PE X (.Compare a [op,op'] [b,c] pos) (tChain r r' ta tb tc):=by
 intro pins s σ H Q I h
 refine Compare_chain (thn (ha pins s σ H _ I h) fun v s1 ⟨x,H1,I1,r1,q1⟩=>chain_link (thn (hb pins s1 σ H1 _ I1 q1) fun u s2 ⟨y,H2,I2,r2,q2⟩=>
  thn (ho pins s2 σ H2 x y v u _ I2 r1 r2 q2) fun d s3 ⟨z,H3,I3,r3,k,e,q3⟩=>?_)) hm
 subst e
 cases r3
 refine wpAny_truthy_bool ?_
 cases k with
 | false=>exact ite_ff ⟨.bl false,H3,I3,rfl,q3⟩
 | true=>exact ite_tt (chain_last (thn (hc pins s3 σ H3 _ I3 q3) fun w' s4 ⟨z',H4,I4,r4,q4⟩=>ho' pins s4 σ H4 y z' u w' Q I4 r2 r4 q4))
theorem pt_chain{op op':CmpOp}{r r':R2}(ho:OpR X (compareOp op) r)(ho':OpR X (compareOp op') r')(ha:PE X a ta)(hb:PE X b tb)(hc:PE X c tc)
  (hm:lastMarks [op,op'] [b,c]=false:=by with_unfolding_all rfl):PT X (.Compare a [op,op'] [b,c] pos) (tTest (tChain r r' ta tb tc)):=by
 intro pins s σ H Q I h
 refine isTrue_chain (thn (ha pins s σ H _ I h) fun v s1 ⟨x,H1,I1,r1,q1⟩=>test_link (thn (hb pins s1 σ H1 _ I1 q1) fun u s2 ⟨y,H2,I2,r2,q2⟩=>
  thn (ho pins s2 σ H2 x y v u _ I2 r1 r2 q2) fun d s3 ⟨z,H3,I3,r3,k,e,q3⟩=>?_)) hm
 subst e
 cases r3
 refine wpAny_truthy_bool ?_
 cases k with
 | false=>
  obtain⟨k',e',q'⟩:=q3
  cases e'
  exact ite_ff ⟨H3,I3,q'⟩
 | true=>
  refine ite_tt (test_last (thn (hc pins s3 σ H3 _ I3 q3) fun w' s4 ⟨z',H4,I4,r4,q4⟩=>thn (ho' pins s4 σ H4 y z' u w' _ I4 r2 r4 q4) fun d' s5 ⟨z2,H5,I5,r5,k2,e2,q5⟩=>?_))
  subst e2
  cases r5
  exact wpAny_truthy_bool ⟨H5,I5,q5⟩
def TruV(K:Fg)(x:V)(H:Hp)(k:Bool):Prop:=
 match x with
 | .non=>k=false
 | .bl b=>k=b
 | .int i=>k=(i != 0)
 | .str y=>y.length<=sizeLine/\k=((y.length:Int) != 0)
 | .byt y=>y.size<=sizeLine/\k=((y.size:Int) != 0)
 | .ref p=>(∃xs,SqL K H p xs/\k = !xs.isEmpty)\/(∃xs,SqT K H p xs/\k = !xs.isEmpty)\/∃kvs,H p=some (.dK kvs)/\k = !kvs.isEmpty
 | _=>False
theorem line63:(sizeLine:Nat)<2 ^ 63:=by rw[sizeLine_eq];decide
theorem op_add_str:OpR X (binaryOp .Add) (fun x y H Q=>∃i j,x=.str i/\y=.str j/\i.length+j.length<=sizeLine/\Q (.str (i++j)) H):=by
 intro pins s σ H x y v u Q I rx ry h
 obtain⟨i,j,rfl,rfl,hz,q⟩:=h
 obtain⟨t,rfl⟩:=rx
 obtain⟨t',rfl⟩:=ry
 exact add_str (fun t' tk=>⟨.str (i++j),H,I.tok _,⟨_,rfl⟩,q⟩) hz
def PlainIxT(b:Expr):Prop:=∀o i,subscripted b false o i=operate [o,i] (getItem o i)
theorem vals1{x:V}{us:List Value}(r:Vals [x] us):∃u,us=[u]/\RelV x u:=by
 cases r with
 | cons r1 r2=>cases r2;exact⟨_,rfl,r1⟩
theorem vals2{x y:V}{us:List Value}(r:Vals [x,y] us):∃u w',us=[u,w']/\RelV x u/\RelV y w':=by
 cases r with
 | cons r1 r2=>
  cases r2 with
  | cons r3 r4=>cases r4;exact⟨_,_,rfl,r1,r3⟩
theorem call_abs:CallR X (.builtin "abs") (fun xs H Q=>∃i,xs=[.int i]/\Q (.int (if i<0 then -i else i)) H):=by
 intro pins s σ H xs us Q I r h
 obtain⟨i,rfl,q⟩:=h
 obtain⟨u,rfl,t,rfl⟩:=vals1 r
 exact call_abs_int fun u tk=>⟨.int (if i<0 then -i else i),H,I.tok _,⟨_,rfl⟩,q⟩
theorem call_min2(hc:X.calm=true):CallR X (.builtin "min") (fun xs H Q=>∃i j,xs=[.int i,.int j]/\Q (.int (if j<i then j else i)) H):=by
 intro pins s σ H xs us Q I r h
 obtain⟨i,j,rfl,q⟩:=h
 obtain⟨u,w',rfl,⟨t,rfl⟩,⟨t',rfl⟩⟩:=vals2 r
 refine min_two_ints (I.ok.hd hc) fun h' tk k=>⟨_,H,I.kept k,?_,q⟩
 by_cases hj:j<i
 ·rw[if_pos hj,if_pos hj];exact⟨_,rfl⟩
 ·rw[if_neg hj,if_neg hj];exact⟨_,rfl⟩
theorem call_str_int:CallR X (.type "str") (fun xs H Q=>∃i,xs=[.int i]/\i.natAbs.log2<1920/\Q (.str (toString i)) H):=by
 intro pins s σ H xs us Q I r h
 obtain⟨i,rfl,hz,q⟩:=h
 obtain⟨u,rfl,t,rfl⟩:=vals1 r
 exact PySem.P.str_of_int hz ⟨.str _,H,I.tok _,⟨_,rfl⟩,q⟩
def LenV(K:Fg)(x:V)(H:Hp)(n:Nat):Prop:=
 match x with
 | .str y=>y.length<=sizeLine/\n=y.length
 | .byt y=>y.size<=sizeLine/\n=y.size
 | .ref p=>(∃xs,SqL K H p xs/\n=xs.length)\/∃xs,SqT K H p xs/\n=xs.length
 | _=>False
end
end L2
namespace L2
open PySem PySem.Spec PyProof.Rows
structure ObjM(h:Heap)(x dx C:Addr)(mA:Str->Option Value):Prop where
 obj:h.get? x=some (PySem.W.instObj C dx)
 ns:h.Ns1 dx mA
 ne:dx≠x
theorem lookIn_ns{h:Heap}{dx:Addr}{mA:Str->Option Value}(n:h.Ns1 dx mA):∃od,h.get? dx=some od/\∀name,PySem.W.lookIn name od=some (mA name):=by
 obtain⟨o,es,ep,ho,hd,hk,_,hm⟩:=n
 refine⟨o,ho,fun name=>?_⟩
 have e:=hm name
 unfold nsFind findBy at e
 rw[<-Array.find?_toList]at e
 unfold PySem.W.lookIn
 rw[hd]
 dsimp only
 split
 ·rename_i y q
  rw[q]at e
  exact congrArg some e
 ·rename_i q
  rw[q]at e
  have a:es.toList.any (·.refKey)=false:=by
   rw[List.any_eq_false]
   intro y hy
   obtain⟨z,t,hkey⟩:=hk y (Array.mem_toList_iff.mp hy)
   simp[DictEntry.refKey,hkey]
  have a':¬es.toList.any (·.refKey)=true:=by rw[a];exact Bool.false_ne_true
  rw[if_neg a']
  exact congrArg some e
theorem ObjM.look{h:Heap}{x dx C:Addr}{mA:Str->Option Value}(I:ObjM h x dx C mA):∃od,PySem.W.InstAt h x (PySem.W.instObj C dx) C (some od)/\∀name,PySem.W.lookIn name od=some (mA name):=
 let⟨od,ho,hl⟩:=lookIn_ns I.ns
 ⟨od,⟨I.obj,rfl,rfl,ho⟩,hl⟩
section
variable {prog:Program}{w:World}{A:Around}{E:Value->Shared->Prop}{s:Shared}{K:Fg}{x dx C f:Addr}{mA:Str->Option Value}{name:Str}{v:Value}
theorem get_map{expr:Bool}{Q:Value->Shared->Prop}(X:K.In s.heap)(I:ObjM s.heap x dx C mA)(hg:PySem.W.plainGet K C name=true)(hh:PySem.W.hasDictIn K C=true)
  (ha:PySem.W.findIn K (.ref C) name=some none) (hv:mA name=some v) (hv':PySem.W.handedIn v=true) (h:Q v { s with toks:=s.toks+1 }) :
  wpAny (model prog w) A (getAttr (.ref x) name expr) Q E s:=by
 obtain⟨od,J,hl⟩:=I.look
 exact PySem.W.get_value X J (PySem.W.plainGet_of hg).1 (PySem.W.findObj_own hh ha rfl (by rw[hl,hv])) hv' h
theorem get_meth{pl:Sem Bool}{Q:Value×List Value->Shared->Prop}(X:K.In s.heap)(I:ObjM s.heap x dx C mA)(hg:PySem.W.plainGet K C name=true)
  (hf:PySem.W.findIn K (.ref C) name=some (some (.ref f))) (ht:PySem.W.isFn K (.ref f)=true) (hv:mA name=none) (h:Q (.ref f,[.ref x]) s) :
  wpAny (model prog w) A (getMethod (.ref x) name pl) Q E s:=by
 obtain⟨od,J,hl⟩:=I.look
 exact PySem.W.method_fn X J (PySem.W.plainGet_of hg).1 (PySem.W.plainGet_of hg).2 hf (beq_iff_eq.mp ht) (by show(PySem.W.lookIn name od).map (·.isSome)=some false;rw[hl,hv];rfl) h
theorem set_map{ns:List Str}{Q:Unit->Shared->Prop}(X:K.In s.heap)(I:ObjM s.heap x dx C mA)
  (hs:PySem.W.findIn K (.ref C) "__setattr__" = some (some (.builtin "object.__setattr__"))) (hp:PySem.W.plainOver K C=true) (ht:PySem.W.takerIn K C name=some none) (hh:PySem.W.hasDictIn K C=true)
  (hw:PySem.Within mA ns) (hsz:ns.length<=sizeLine)
  (h:∀h',ObjM h' x dx C (fun y=>if y=name then some v else mA y)->Heap.SameBut dx s.heap h'->Q () { s with heap:=h',toks:=s.toks+2 }) :
  wpAny (model prog w) A (setAttr (.ref x) name v) Q E s:=by
 obtain⟨od,J,hl⟩:=I.look
 refine PySem.W.set_plain X J hs (PySem.W.osa_open (s:={ s with toks:=s.toks+1 }) (r:=none) X J hp ht fun b=>?_)
 obtain⟨cd,hc,hd'⟩:=PySem.W.any_some hh
 have hx:s.heap.get? x=some ⟨.ref C,some dx,.plain,#[]⟩:=I.obj
 refine wpAny_bind (wpAny_pure (wpAny_bind (wpAny_bind (wpAny_loadPart hx (wpAny_bind (PySem.W.Looks.here (s:={ s with toks:=s.toks+1 }) (PySem.W.looks_clsIn X hc) ?_))))))
 rw[hd']
 refine wpAny_pure (a:=some dx) (wpAny_bind (wpAny_pure (wpAny_bind ?_)))
 refine wpAny_nsSet1 (s:={ s with toks:=s.toks+1 }) I.ns fun h' hn2 hs2=>?_
 obtain⟨oD,esD,epD,hoD,hdD,hcD⟩:=hn2.count (PySem.Within.cons name v hw)
 refine wpAny_bind (wpAny_lookBehind hoD (by rw[hdD];exact pastItsLine_dict (Nat.le_trans hcD (by rw[List.length_cons];omega))) ?_)
 exact wpAny_pure (h _ ⟨(hs2.2 _ (Ne.symm I.ne)).trans I.obj,hn2,I.ne⟩ hs2)
theorem make_map{R:Result->Shared->Prop}{vs:List Value}{kw:List (Str×Value)}(X:K.In s.heap)(hm:PySem.W.makesIn K C=true)
  (hi:PySem.W.findIn K (.ref C) "__init__" = some (some (.ref f))) (hf:PySem.W.typeIn K (.ref f)=some (.type "function"))
  (h:codeAny (model prog w) (A.under (.builtin "type.__call__" ⟨.ref C::vs,kw⟩)) (.call (.ref f) ⟨.ref (s.heap.objs.size+1)::vs,kw⟩) (PySem.W.InitBack (s.heap.objs.size+1) R)
   { s with heap:=(s.heap.push PySem.W.emptyDict).push (PySem.W.instObj C s.heap.objs.size) }) :
  codeAny (model prog w) A (.call (.ref C) ⟨vs,kw⟩) R s:=by
 obtain⟨hh,g,d,t,os⟩:=s
 exact PySem.W.make_core (PySem.W.makes_of X hm) (PySem.W.looks_findIn X hi) (fun self=>PySem.W.bind_fn X self hf) (.inl rfl) h
end
def putF(f:Str)(v:V):List (Str×V)->List (Str×V)
 | []=>[(f,v)]
 | (g,x)::r=>if g=f then (g,v)::r else (g,x)::putF f v r
theorem lookup_putF(f g:Str)(v:V):∀fs:List (Str×V),(putF f v fs).lookup g=if g=f then some v else fs.lookup g
 | []=>by
  show List.lookup g [(f,v)]=_
  by_cases h:g=f
  ·have hb:(g == f)=true:=beq_iff_eq.mpr h
   simp only[List.lookup,hb,if_pos h]
  ·have hb:(g == f)=false:=beq_eq_false_iff_ne.mpr h
   simp only[List.lookup,hb,if_neg h]
 | (k,x)::r=>by
  have ih:=lookup_putF f g v r
  rw[show putF f v ((k,x)::r)=(if k=f then (k,v)::r else (k,x)::putF f v r)from rfl]
  by_cases hk:k=f
  ·rw[if_pos hk]
   by_cases h:g=k
   ·have hb:(g == k)=true:=beq_iff_eq.mpr h
    simp only[List.lookup,hb,if_pos (h.trans hk)]
   ·have hb:(g == k)=false:=beq_eq_false_iff_ne.mpr h
    simp only[List.lookup,hb,if_neg (fun e:g=f=>h (e.trans hk.symm))]
  ·rw[if_neg hk]
   by_cases h:g=k
   ·have hb:(g == k)=true:=beq_iff_eq.mpr h
    simp only[List.lookup,hb,if_neg (fun e:g=f=>hk (h.symm.trans e))]
   ·have hb:(g == k)=false:=beq_eq_false_iff_ne.mpr h
    simp only[List.lookup,hb]
    exact ih
theorem keys_putF(f:Str)(v:V):∀fs:List (Str×V),f∈(putF f v fs).map (·.1)/\∀g,g∈fs.map (·.1)->g∈(putF f v fs).map (·.1)
 | []=>⟨by simp[putF],fun g h=>by simp at h⟩
 | (k,x)::r=>by
  obtain⟨i1,i2⟩:=keys_putF f v r
  rw[show putF f v ((k,x)::r)=(if k=f then (k,v)::r else (k,x)::putF f v r)from rfl]
  by_cases hk:k=f
  ·rw[if_pos hk]
   subst hk
   exact⟨by simp,fun g h=>by simpa using h⟩
  ·rw[if_neg hk]
   refine⟨?_,fun g h=>?_⟩
   ·rw[List.map_cons]
    exact List.mem_cons_of_mem _ i1
   ·rw[List.map_cons]at h ⊢
    rcases List.mem_cons.mp h with e | e
    ·exact List.mem_cons.mpr (.inl e)
    ·exact List.mem_cons_of_mem _ (i2 g e)
theorem length_putF(f:Str)(v:V):∀fs:List (Str×V),(putF f v fs).length<=fs.length+1
 | []=>by simp[putF]
 | (k,x)::r=>by
  have ih:=length_putF f v r
  rw[show putF f v ((k,x)::r)=(if k=f then (k,v)::r else (k,x)::putF f v r)from rfl]
  by_cases hk:k=f
  ·rw[if_pos hk,List.length_cons,List.length_cons];omega
  ·rw[if_neg hk,List.length_cons,List.length_cons];omega
theorem RelO.some_of{v:V}{o:Option Value}(r:RelO (some v) o):∃u,o=some u/\RelV v u:=by
 cases o with
 | none=>exact(show False from r).elim
 | some u=>exact⟨u,rfl,r⟩
theorem RelO.none_of{o:Option Value}(r:RelO none o):o=none:=by
 cases o with
 | none=>rfl
 | some u=>exact(show False from r).elim
theorem handed_of{v:V}{u:Value}(r:RelV v u):PySem.W.handedIn u=true:=by
 cases v with
 | non=>cases (show u=Value.none from r);rfl
 | bl b=>cases (show u=Value.bool b from r);rfl
 | int i=>obtain⟨t,e⟩:=(show ∃t,u=Value.int i t from r);cases e;rfl
 | str x=>obtain⟨t,e⟩:=(show ∃t,u=Value.str x t from r);cases e;rfl
 | byt b=>obtain⟨t,e⟩:=(show ∃t,u=Value.bytes b t from r);cases e;rfl
 | flt b=>obtain⟨t,e⟩:=(show ∃t,u=Value.float b t from r);cases e;rfl
 | ref a=>cases (show u=Value.ref a from r);rfl
 | ty n=>cases (show u=Value.type n from r);rfl
section
variable {P:Program}{w:World}{H H':Hp}{h h':Heap}{a C dx:Addr}{fs fs':List (Str×V)}
theorem ins_get(hok:HOk P w H h)(e:H a=some (.ins C dx fs)):∃mA,ObjM h a dx C mA/\(∀f,RelO (fs.lookup f) (mA f))/\PySem.Within mA (fs.map (·.1))/\fs.length<=1000/\H dx=some (.own a):=by
 obtain⟨d,z,ne,ob,mA,n,r,q⟩:=(show ObjOk P w H h a (.ins C dx fs)from hok a _ e)
 exact⟨mA,⟨ob,n,ne⟩,r,q,z,d⟩
end
structure Cls(K:Fg)(C:Addr):Prop where
 pg:PySem.W.plainGet K C Str.empty=true
 hd:PySem.W.hasDictIn K C=true
 po:PySem.W.plainOver K C=true
 sa:PySem.W.findIn K (.ref C) "__setattr__" = some (some (.builtin "object.__setattr__"))
theorem Cls.get{K:Fg}{C:Addr}(c:Cls K C)(f:Str):PySem.W.plainGet K C f=true:=c.pg
def NoAttr(K:Fg)(C:Addr)(f:Str):Prop:=PySem.W.findIn K (.ref C) f=some none
theorem NoAttr.taker{K:Fg}{C:Addr}{f:Str}(n:NoAttr K C f):PySem.W.takerIn K C f=some none:=by
 unfold PySem.W.takerIn
 rw[show PySem.W.findIn K (.ref C) f=some none from n]
 rfl
structure Con(K:Fg)(C:Addr)(f:Str)(v:V)(u:Value):Prop where
 at_:PySem.W.findIn K (.ref C) f=some (some u)
 rel:RelV v u
 get:PySem.W.specialIn K u "__get__" = some none
 cp:PySem.W.copiedNames.contains f=false
structure Meth(K:Fg)(C:Addr)(m:Str)(f:Addr):Prop where
 at_:PySem.W.findIn K (.ref C) m=some (some (.ref f))
 fn:PySem.W.isFn K (.ref f)=true
 kp:PySem.W.keepIn K (.ref f)=true
section
variable {X:Cx}{pins:List (Addr×Obj)}{σ:St}{H:Hp}{s:Shared}{a C dx:Addr}{fs:List (Str×V)}{f:Str}{v:V}{A:Around}{E:Value->Shared->Prop}
theorem getattr_ok{b:Bool}{Q:Value->Shared->Prop}(I:Inv X pins σ H s)(e:H a=some (.ins C dx fs))(c:Cls X.K C)(n:NoAttr X.K C f)(l:fs.lookup f=some v)
  (h:∀u s',Inv X pins σ H s'->RelV v u->Q u s'):wpAny (model X.prog X.w) A (getAttr (.ref a) f b) Q E s:=by
 obtain⟨mA,O,r,_,_,_⟩:=ins_get I.hok e
 obtain⟨u,hu,ru⟩:=RelO.some_of (v:=v) (o:=mA f) (by rw[<-l];exact r f)
 exact get_map I.kIn O (c.get f) c.hd n hu (handed_of ru) (h u _ (I.tok _) ru)
theorem getmeth_ok{m:Str}{g:Addr}{pl:Sem Bool}{Q:Value×List Value->Shared->Prop}(I:Inv X pins σ H s)(e:H a=some (.ins C dx fs))(c:Cls X.K C)(k:Meth X.K C m g)(l:fs.lookup m=none)
  (h:Q (.ref g,[.ref a]) s):wpAny (model X.prog X.w) A (getMethod (.ref a) m pl) Q E s:=by
 obtain⟨mA,O,r,_,_,_⟩:=ins_get I.hok e
 have hn:mA m=none:=RelO.none_of (by rw[<-l];exact r m)
 exact get_meth I.kIn O (c.get m) k.at_ k.fn hn h
theorem setattr_ok{y:V}{u:Value}{Q:Unit->Shared->Prop}(I:Inv X pins σ H s)(e:H a=some (.ins C dx fs))(c:Cls X.K C)(n:NoAttr X.K C f)(hl:fs.length<1000)(ry:RelV y u)
  (h:∀s',Inv X pins σ (upd H a (.ins C dx (putF f y fs))) s'->Q () s'):wpAny (model X.prog X.w) A (setAttr (.ref a) f u) Q E s:=by
 obtain⟨mA,O,r,wi,_,ho⟩:=ins_get I.hok e
 have hz:(fs.map (·.1)).length<=sizeLine:=by rw[List.length_map,sizeLine_eq];omega
 refine set_map I.kIn O c.sa c.po n.taker c.hd wi hz fun h' O' sb=>h _ ?_
 have hd:∃o,h'.get? dx=some o:=let⟨o,_,_,e',_⟩:=O'.ns; ⟨o,e'⟩
 refine I.write (x:=a) (e:=dx) (by rw[e];exact True.intro) (.inr ho) (fun b q hb z=>(sb.2 b hb).trans z) hd ?_
 refine⟨by rw[upd_ne O.ne];exact ho,?_,O.ne,O'.obj,_,O'.ns,fun g=>?_,fun g hg=>?_⟩
 ·have:=length_putF f y fs;omega
 ·show RelO ((putF f y fs).lookup g) (if g=f then some u else mA g)
  rw[lookup_putF]
  by_cases q:g=f
  ·rw[if_pos q,if_pos q];exact ry
  ·rw[if_neg q,if_neg q];exact r g
 ·by_cases q:g=f
  ·rw[q];exact(keys_putF f y fs).1
  ·refine(keys_putF f y fs).2 g (wi g fun z=>hg ?_)
   show(if g=f then some u else mA g)=none
   rw[if_neg q];exact z
theorem Inv.made(I:Inv X pins σ H s):Inv X pins σ (upd (upd H s.heap.objs.size (.own (s.heap.objs.size+1))) (s.heap.objs.size+1) (.ins C s.heap.objs.size []))
  { s with heap:=(s.heap.push PySem.W.emptyDict).push (PySem.W.instObj C s.heap.objs.size) }:=by
 have e1:(s.heap.push PySem.W.emptyDict).get? s.heap.objs.size=some PySem.W.emptyDict:=Heap.get?_push_size s.heap rfl
 have e2:((s.heap.push PySem.W.emptyDict).push (PySem.W.instObj C s.heap.objs.size)).get? (s.heap.objs.size+1)=some (PySem.W.instObj C s.heap.objs.size):=by
  have:=Heap.get?_push_size (s.heap.push PySem.W.emptyDict) (o:=PySem.W.instObj C s.heap.objs.size) rfl
  rwa [Heap.size_push]at this
 have e3:(s.heap.push PySem.W.emptyDict).Ns s.heap.objs.size (fun _=>none):=⟨PySem.W.emptyDict,#[],_,e1,rfl,(fun e he=>absurd he (by simp)),fun _=>rfl⟩
 have I1:=I.laid (a:=s.heap.objs.size) (o:=.own (s.heap.objs.size+1)) (h':=s.heap.push PySem.W.emptyDict) (t':=s.toks) (fun b u q=>Heap.get?_push_of_some _ q) (Nat.le_refl _) ⟨_,e1⟩
 refine I1.laid (a:=s.heap.objs.size+1) (o:=.ins C s.heap.objs.size []) (t':=s.toks) (fun b u q=>Heap.get?_push_of_some _ q) (Nat.le_of_eq (Heap.size_push _ _)) ?_
 have ne:s.heap.objs.size≠s.heap.objs.size+1:=Nat.ne_of_lt (Nat.lt_succ_self _)
 refine⟨by rw[upd_ne ne,upd_same],Nat.zero_le _,ne,e2,fun _=>none,(Heap.Ns1.of_empty e3).at fun o q=>Heap.get?_push_of_some _ q,fun _=>True.intro,fun y hy=>absurd rfl hy⟩
theorem attr_of{prog:Program}{w:World}{env:Env}{e:Expr}{f:Str}{pos:Pos}{s:Shared}{Q:Value->Shared->Prop}(hb:attributeBase e f env (eval e env)=eval e env)
  (h:wpAny (model prog w) A (eval e env) (fun o s₁=>wpAny (model prog w) A (getAttr o f true) Q E s₁) E s):wpAny (model prog w) A (eval (.Attribute e f pos) env) Q E s:=
 Attribute_any_ h (by rw[arm_eval_Attribute,hb])
end
def tFld(K:Fg)(ta:TE)(f:Str):TE:=fun σ H Q=>ta σ H fun x H1=>∃a C dx fs v,x=.ref a/\H1 a=some (.ins C dx fs)/\Cls K C/\NoAttr K C f/\fs.lookup f=some v/\Q v H1
def tCon(K:Fg)(ta:TE)(f:Str):TE:=fun σ H Q=>ta σ H fun x H1=>∃a C dx fs v u,x=.ref a/\H1 a=some (.ins C dx fs)/\Cls K C/\Con K C f v u/\fs.lookup f=none/\Q v H1
def sFld(K:Fg)(ta tv:TE)(f:Str):TS:=fun D σ H=>tv σ H fun y H1=>ta σ H1 fun x H2=>∃a C dx fs,x=.ref a/\H2 a=some (.ins C dx fs)/\Cls K C/\NoAttr K C f/\fs.length<1000 /\
 D.nx σ (upd H2 a (.ins C dx (putF f y fs)))
def InOp(X:Cx)(op:Operator)(rd:V->V->Hp->VK->Prop):Prop:=
 ∀(pins:List (Addr×Obj)) (s:Shared) (σ:St) (H:Hp) (x y:V) (u v:Value) (Q:VK),Inv X pins σ H s->RelV x u->RelV y v->rd x y H Q->wpAny (model X.prog X.w) X.A (inplaceOp op u v) (EP X pins σ Q) X.xe s
def sFldAug(K:Fg)(ta tv:TE)(rd:V->V->Hp->VK->Prop)(f:Str):TS:=fun D σ H=>ta σ H fun x H1=>∃a C dx fs v,x=.ref a/\H1 a=some (.ins C dx fs)/\Cls K C/\NoAttr K C f/\fs.lookup f=some v /\
 tv σ H1 fun y H2=>rd v y H2 fun z H3=>∃dx' fs',H3 a=some (.ins C dx' fs')/\fs'.length<1000/\D.nx σ (upd H3 a (.ins C dx' (putF f z fs')))
section
variable {X:Cx}{o e value:Expr}{f:Str}{pos pos' tpos:Pos}{ta tv:TE}
theorem pe_fld(he:PE X e ta)(hb:attributeBase e f X.env (eval e X.env)=eval e X.env):PE X (.Attribute e f pos) (tFld X.K ta f):=by
 intro pins s σ H Q I h
 refine attr_of hb (thn (he pins s σ H _ I h) fun u s1 ⟨x,H1,I1,rx,a,C,dx,fs,v,ex,ea,c,n,l,q⟩=>?_)
 subst ex
 obtain rfl:u=Value.ref a:=rx
 exact getattr_ok I1 ea c n l fun u' s2 I2 ru=>⟨v,H1,I2,ru,q⟩
theorem ps_fld(ha:PE X o ta)(hv:PE X value tv)(hs:swapsWith value (some (.Attribute o f pos')) pos.line X.env=pure false):PS X (.Assign [.Attribute o f pos'] value pos) (sFld X.K ta tv f):=by
 intro pins s σ H D I h
 refine plainObj_wpAny_Assign_Attribute (thn (hv pins s σ H _ I h) fun u s1 ⟨y,H1,I1,ry,q⟩=>thn (ha pins s1 σ H1 _ I1 q) fun ov s2 ⟨x,H2,I2,rx,a,C,dx,fs,ex,ea,c,n,l,q2⟩=>?_) hs
 subst ex
 obtain rfl:ov=Value.ref a:=rx
 exact setattr_ok I2 ea c n l ry fun s3 I3=>⟨σ,_,I3,q2⟩
def rAdd:V->V->Hp->VK->Prop:=fun x y H Q=>∃i j,x=.int i/\y=.int j/\Q (.int (i+j)) H
def rSub:V->V->Hp->VK->Prop:=fun x y H Q=>∃i j,x=.int i/\y=.int j/\Q (.int (i - j)) H
end
section
variable {X:Cx}{pins:List (Addr×Obj)}{σ:St}{H:Hp}{s:Shared}{A:Around}{E:Value->Shared->Prop}{Q:Value->Shared->Prop}{c:Value}{b:Bool}
inductive TyOf(K:Fg)(H:Hp):V->Value->Prop where
 | non:TyOf K H .non (.type "NoneType")
 | bl (x:Bool):TyOf K H (.bl x) (.type "bool")
 | int (i:Int):TyOf K H (.int i) (.type "int")
 | str (x:Str):TyOf K H (.str x) (.type "str")
 | flt (x:UInt64):TyOf K H (.flt x) (.type "float")
 | lst {a:Addr} {xs:List V} (e:H a=some (.lst xs)):TyOf K H (.ref a) (.type "list")
 | frz {a:Addr} {o:Obj} {xs:List V} (e:H a=some (.frz o (.lst xs))):TyOf K H (.ref a) (.type "list")
 | tup {a:Addr} {xs:List V} (e:H a=some (.tup xs)):TyOf K H (.ref a) (.type "tuple")
 | dK {a:Addr} {kvs:List (Key×V)} (e:H a=some (.dK kvs)):TyOf K H (.ref a) (.type "dict")
 | dT {a:Addr} {kvs:List (List Key×V)} (e:H a=some (.dT kvs)):TyOf K H (.ref a) (.type "dict")
 | ins {a C dx:Addr} {fs:List (Str×V)} (e:H a=some (.ins C dx fs)) (cl:Cls K C) (ha:PySem.W.findIn K (.ref C) "__class__" = some (some (.builtin "object.__class__")))
   (hn:PySem.W.specialIn K (.builtin "object.__class__") "__get__" = some (some (.builtin "getset_descriptor.__get__"))) (htk:PySem.W.takesIn K (.builtin "object.__class__")=some true)
   (hm:PySem.W.mroIn K C (.type "object")=some true):TyOf K H (.ref a) (.ref C)
theorem isinst_ok{x:V}{u t:Value}(I:Inv X pins σ H s)(rx:RelV x u)(ty:TyOf X.K H x t)(e:PySem.W.kitOne X.K t c=some b)(h:∀tk,Q (.bool b) { s with toks:=tk }) :
  wpAny (model X.prog X.w) A (call (.builtin "isinstance") [u,c]) Q E s:=by
 cases ty with
 | non=>cases (show u=Value.none from rx);exact PySem.W.kia_one PySem.W.kitx_none I.kIn True.intro e (fun z=>nomatch z) h
 | bl y=>cases (show u=Value.bool y from rx);exact PySem.W.kia_one PySem.W.kitx_bool I.kIn True.intro e (fun z=>nomatch z) h
 | int i=>obtain⟨t,q⟩:=(show ∃t,u=Value.int i t from rx);cases q;exact PySem.W.kia_one PySem.W.kitx_int I.kIn True.intro e (fun z=>nomatch z) h
 | str y=>obtain⟨t,q⟩:=(show ∃t,u=Value.str y t from rx);cases q;exact PySem.W.kia_one PySem.W.kitx_str I.kIn True.intro e (fun z=>nomatch z) h
 | flt y=>obtain⟨t,q⟩:=(show ∃t,u=Value.float y t from rx);cases q;exact PySem.W.kia_one PySem.W.kitx_float I.kIn True.intro e (fun z=>nomatch z) h
 | @lst a xs ea=>
  cases (show u=Value.ref a from rx)
  obtain⟨_,_,n,_,h1⟩:=(show ObjOk X.prog X.w H s.heap a (.lst xs)from I.hok a _ ea)
  exact PySem.W.kia_one PySem.W.kitx_list I.kIn ⟨_,h1,rfl⟩ e (fun z=>nomatch z) h
 | @frz a ob xs ea=>
  cases (show u=Value.ref a from rx)
  obtain⟨_,_,_,n,_,h1⟩:=(show ObjOk X.prog X.w H s.heap a (.frz ob (.lst xs))from I.hok a _ ea)
  exact PySem.W.kia_one PySem.W.kitx_list I.kIn ⟨_,h1,rfl⟩ e (fun z=>nomatch z) h
 | @tup a xs ea=>
  cases (show u=Value.ref a from rx)
  obtain⟨_,_,_,p⟩:=(show ObjOk X.prog X.w H s.heap a (.tup xs)from I.hok a _ ea)
  obtain⟨o,h1,h2,_⟩:=p
  exact PySem.W.kia_one PySem.W.kitx_tuple I.kIn ⟨o,h1,h2⟩ e (fun z=>nomatch z) h
 | @dK a kvs ea=>
  cases (show u=Value.ref a from rx)
  obtain⟨_,_,vs,_,p⟩:=(show ObjOk X.prog X.w H s.heap a (.dK kvs)from I.hok a _ ea)
  obtain⟨o,es,ep,h1,h2,_⟩:=p
  exact PySem.W.kia_one PySem.W.kitx_dict I.kIn ⟨o,h1,h2.1⟩ e (fun z=>nomatch z) h
 | @dT a kvs ea=>
  cases (show u=Value.ref a from rx)
  obtain⟨_,_,xs,_,o,es,ep,h1,h2,_⟩:=(show ObjOk X.prog X.w H s.heap a (.dT kvs)from I.hok a _ ea)
  exact PySem.W.kia_one PySem.W.kitx_dict I.kIn ⟨o,h1,h2.1⟩ e (fun z=>nomatch z) h
 | @ins a C dx fs ea cl ha hn htk hm=>
  cases (show u=Value.ref a from rx)
  obtain⟨mA,O,_⟩:=ins_get I.hok ea
  obtain⟨od,J,_⟩:=O.look
  exact PySem.W.kia_one (PySem.W.kitx_own (cl.get _) cl.hd ha hn htk hm) I.kIn J e (fun z=>nomatch z) h
end
end L2
namespace L2
open PySem PySem.Spec PyProof.Rows
structure Room(k:Nat)(A:Around):Prop where
 hd:A.handled=none
 dp:A.depth+3 * k+5<recursionLimit
 un:A.units+16 * k+200<cLine
theorem Room.mono{j k:Nat}{A:Around}(r:Room k A)(h:j<=k):Room j A:=⟨r.hd,by have:=r.dp;omega,by have:=r.un;omega⟩
theorem Room.deeper{k:Nat}{A:Around}(r:Room (k+1) A)(env:Env):Room k (A.deeper env):=
 ⟨r.hd,by have:=r.dp;show A.depth+1+3 * k+5<_;omega,by have:=r.un;show A.units+3+16 * k+200<_;omega⟩
theorem Room.in1{k:Nat}{A:Around}(r:Room (k+1) A):Room k A.in1:=
 ⟨r.hd,by have:=r.dp;show A.depth+3 * k+5<_;omega,by have:=r.un;show A.units+1+16 * k+200<_;omega⟩
theorem make_depth{A:Around}{C:Addr}{us:List Value}{kw:List (Str×Value)}:(A.under (.builtin "type.__call__" ⟨.ref C::us,kw⟩)).depth=A.depth+1:=by
 first | rfl | simp[Around.under,Code.weight,Code.isCreation,Code.isGuard,Code.isCaller,Code.frames,Code.isFrame,guardIds]
theorem make_units{A:Around}{C:Addr}{us:List Value}{kw:List (Str×Value)}:(A.under (.builtin "type.__call__" ⟨.ref C::us,kw⟩)).units=A.units+1:=by
 first | rfl | simp[Around.under,Code.cUnits,Code.frames,Code.isFrame]
theorem Room.make{k:Nat}{A:Around}(r:Room (k+1) A)(C:Addr)(us:List Value)(kw:List (Str×Value)):Room k (A.under (.builtin "type.__call__" ⟨.ref C::us,kw⟩)):=
 ⟨r.hd,by have:=r.dp;rw[make_depth];omega,by have:=r.un;rw[make_units];omega⟩
theorem Room.depth{k:Nat}{A:Around}(r:Room k A):A.depth<recursionLimit:=by have:=r.dp;omega
theorem Room.units{k:Nat}{A:Around}(r:Room k A):A.units+64<cLine:=by have:=r.un;omega
theorem Room.units0{k:Nat}{A:Around}(r:Room k A):A.units<cLine:=by have:=r.un;omega
def tNil:TA:=fun _ H Q=>Q [] H
def tCons(ta:TE)(tr:TA):TA:=fun σ H Q=>ta σ H fun x H1=>tr σ H1 fun xs H2=>Q (x::xs) H2
section
variable {X:Cx}{e:Expr}{es:List Expr}{te:TE}{t:TA}{pos:Pos}
theorem pa_nil:PA X [] tNil:=fun _ _ _ _ H Q I h=>Calls.spliced_nil ⟨[],H,I,.nil,h⟩
theorem pa_cons(ha:PE X e te)(hr:PA X es t)(hs:starEach (e::es) X.env=(false,eval e X.env)::starEach es X.env:=by rfl):PA X (e::es) (tCons te t):=by
 intro pos pins s σ H Q I h
 rw[hs]
 show wpAny _ _ (spliced ((false,eval e X.env)::backTo pos (starEach es X.env))) _ _ s
 refine Calls.spliced_cons (thn (ha pins s σ H _ I h) fun u s1 ⟨x,H1,I1,r1,q1⟩=>?_)
 exact thn (hr pos pins s1 σ H1 _ I1 q1) fun us s2 ⟨xs,H2,I2,r2,q2⟩=>⟨x::xs,H2,I2,.cons r1 r2,q2⟩
def tTup(t:TA):TE:=fun σ H Q=>t σ H fun xs H1=>xs.length<=sizeLine/\∀p,H1 p=none->Q (.ref p) (upd H1 p (.tup xs))
def tLst(t:TA):TE:=fun σ H Q=>t σ H fun xs H1=>xs.length<=sizeLine/\∀p,H1 p=none->Q (.ref p) (upd H1 p (.lst xs))
theorem pe_tup{x1}(h:PA X es t):PE X (.Tuple es x1 pos) (tTup t):=by
 intro pins s σ H Q I hq
 refine wpAny_Tuple_spliced (thn (h pos pins s σ H _ I hq) fun us s1 ⟨xs,H1,I1,r,z,q⟩=>⟨by rw[<-r.length];exact z,?_⟩)
 have hf:H1 s1.heap.objs.size=none:=I1.hok.fresh (Nat.le_refl _)
 refine⟨.ref s1.heap.objs.size,upd H1 s1.heap.objs.size (.tup xs),I1.laid (t':=s1.toks) (fun b u e=>Heap.get?_push_of_some _ e) (Nat.le_refl _) ?_,rfl,q _ hf⟩
 exact⟨z,us,r,⟨_,Heap.get?_push_size _ rfl,rfl,_,rfl⟩⟩
theorem pe_lst(h:PA X es t):PE X (.List es pos) (tLst t):=by
 intro pins s σ H Q I hq
 refine wpAny_List_spliced (thn (h pos pins s σ H _ I hq) fun us s1 ⟨xs,H1,I1,r,z,q⟩=>⟨by rw[<-r.length];exact z,?_⟩)
 have hf:H1 s1.heap.objs.size=none:=I1.hok.fresh (Nat.le_refl _)
 refine⟨.ref s1.heap.objs.size,upd H1 s1.heap.objs.size (.lst xs),I1.laid (t':=s1.toks) (fun b u e=>Heap.get?_push_of_some _ e) (Nat.le_refl _) ?_,rfl,q _ hf⟩
 exact⟨z,us,0,r,Heap.get?_push_size _ rfl⟩
end
abbrev Sp:=List V->Hp->VK->XK->Prop
abbrev CXT:=List Env->Hp->Shared->XK->Value->Shared->Prop
structure Env0(P:Program)(w:World)(K:Fg)(mg:Str->Option Value)(base:Heap)(A:Around)(outer:List Env)(s:Shared)(H:Hp):Prop where
 frames:A.frames=some outer
 mod:Mod K mg base
 bs:∀b o,base.get? b=some o->s.heap.get? b=some o/\H b=none
 bsz:base.objs.size<=s.heap.objs.size
 funs:s.heap.FunFrames base outer
 frf:∀b∈frs outer,H b=none
 hok:HOk P w H s.heap
 bare:AllBare s.gens
def CE(outer:List Env)(P:Program)(w:World)(H:Hp)(s:Shared)(Q:VK)(u:Value)(s':Shared):Prop:=
 ∃v H',s'.os=s.os/\AllBare s'.gens/\Un (frs outer) [] H H' s.heap s'.heap/\HOk P w H' s'.heap/\RelV v u/\Q v H'
def CR(CX:CXT)(outer:List Env)(P:Program)(w:World)(H:Hp)(s:Shared)(Q:VK)(E:XK)(r:Result)(s':Shared):Prop:=
 match r with
 | .ok (.ret u)=>CE outer P w H s Q u s'
 | .ok _=>False
 | .error e=>CX outer H s E e s'
structure FnOk(P:Program)(w:World)(K:Fg)(mg:Str->Option Value)(base:Heap)(CX:CXT)(k:Nat)(f:Addr)(fd:FuncData)(ps:List Str)(sp:Sp):Prop where
 len:∀vs H Q E,sp vs H Q E->vs.length=ps.length
 run:∀(A:Around) (outer:List Env) (s:Shared) (H:Hp) (args:Args) (us:List Value) (vs:List V) (Q:VK) (E:XK),Room k A->Env0 P w K mg base A outer s H->BindsTo s fd args (ps.zip us)->Vals vs us->sp vs H Q E ->
  codeAny (model P w) A (.call (.ref f) args) (CR CX outer P w H s Q E) s
theorem FnOk.mono{P:Program}{w:World}{K:Fg}{mg:Str->Option Value}{base:Heap}{CX:CXT}{j k:Nat}{f:Addr}{fd:FuncData}{ps:List Str}{sp:Sp}(F:FnOk P w K mg base CX j f fd ps sp)(h:j<=k) :
  FnOk P w K mg base CX k f fd ps sp:=⟨F.len,fun A outer s H args us vs Q E hr=>F.run A outer s H args us vs Q E (hr.mono h)⟩
theorem FnOk.imp{P:Program}{w:World}{K:Fg}{mg:Str->Option Value}{base:Heap}{CX:CXT}{k:Nat}{f:Addr}{fd:FuncData}{ps:List Str}{sp sp':Sp}(F:FnOk P w K mg base CX k f fd ps sp)
  (h:∀vs H Q E,sp' vs H Q E->sp vs H Q E):FnOk P w K mg base CX k f fd ps sp':=
 ⟨fun vs H Q E q=>F.len vs H Q E (h _ _ _ _ q),fun A outer s H args us vs Q E hr he hb hv hs=>F.run A outer s H args us vs Q E hr he hb hv (h _ _ _ _ hs)⟩
theorem Env0.make{P:Program}{w:World}{K:Fg}{mg:Str->Option Value}{base:Heap}{A:Around}{outer:List Env}{s:Shared}{H:Hp}(e:Env0 P w K mg base A outer s H)(C:Addr)(us:List Value)(kw:List (Str×Value)) :
  Env0 P w K mg base (A.under (.builtin "type.__call__" ⟨.ref C::us,kw⟩)) outer s H:=⟨by first | exact e.frames | (simpa[Around.under,Code.envs,Code.isFrame,pushEnvs]using e.frames),e.mod,e.bs,e.bsz,e.funs,e.frf,e.hok,e.bare⟩
theorem Env0.in1{P:Program}{w:World}{K:Fg}{mg:Str->Option Value}{base:Heap}{A:Around}{outer:List Env}{s:Shared}{H:Hp}(e:Env0 P w K mg base A outer s H) :
  Env0 P w K mg base A.in1 outer s H:=⟨e.frames,e.mod,e.bs,e.bsz,e.funs,e.frf,e.hok,e.bare⟩
section
variable {X:Cx}{pins:List (Addr×Obj)}{σ:St}{H:Hp}{s s':Shared}
theorem Inv.env0(I:Inv X pins σ H s):Env0 X.prog X.w X.K X.mg X.base X.A X.stack s H:=
 ⟨I.ok.frames,I.ok.mod,I.bs,Nat.le_trans I.ok.bsz I.sz,I.stack,I.stkFree,I.hok,I.bare⟩
theorem Inv.after{Q:VK}{u:Value}(I:Inv X pins σ H s)(h:CE X.stack X.prog X.w H s Q u s'):EP X pins σ Q u s':=by
 obtain⟨v,H',os,bare,un,hok,r,q⟩:=h
 obtain⟨hh,g,d,t,os'⟩:=s'
 obtain rfl:os'=s.os:=os
 exact⟨v,H',I.call (h':=hh) (g':=g) (d':=d) (t':=t) (ch:=[]) un hok bare (fun b z=>absurd z (by simp)),r,q⟩
end
def tCall(sp:Sp)(dvs:List V)(E:XK)(t:TA):TE:=fun σ H Q=>t σ H fun vs H1=>sp (vs++dvs) H1 Q E
def tMeth(C:Addr)(m:Str)(sp:Sp)(dvs:List V)(E:XK)(ta:TE)(t:TA):TE:=fun σ H Q=>ta σ H fun x H1=>∃a dx fs,x=.ref a/\H1 a=some (.ins C dx fs)/\fs.lookup m=none /\
 t σ H1 fun vs H2=>sp (x::(vs++dvs)) H2 Q E
def tMake(C:Addr)(sp:Sp)(dvs:List V)(E:XK)(t:TA):TE:=fun σ H Q=>t σ H fun vs H1=>∀x dx,H1 x=none->H1 dx=none->dx≠x ->
 sp (.ref x::(vs++dvs)) (upd (upd H1 dx (.own x)) x (.ins C dx [])) (fun v H2=>v=.non/\Q (.ref x) H2) E
def Binds(K:Fg)(fd:FuncData)(ps:List Str)(ds:List Value):Prop:=
 ∀(s:Shared) (us:List Value),K.In s.heap->(us++ds).length=ps.length->BindsTo s fd ⟨us,[]⟩ (ps.zip (us++ds))
theorem Binds.all{K:Fg}{fd:FuncData}{ps:List Str}(h:∀us:List Value,us.length=ps.length->bindArgs fd ⟨us,[]⟩=pure (ps.zip us)):Binds K fd ps []:=fun s us _ hl=>by
 rw[List.append_nil]at hl ⊢
 exact .of_eq (h us hl)
def Passes(CX:CXT)(X:Cx)(E:XK):Prop:=∀(pins:List (Addr×Obj)) (σ:St) (H:Hp) (s:Shared) (e:Value) (s':Shared),Inv X pins σ H s->CX X.stack H s E e s'->X.xe e s'
section
variable {X:Cx}{CX:CXT}{k:Nat}{f C:Addr}{fd:FuncData}{ps:List Str}{sp:Sp}{dvs:List V}{ds:List Value}{E:XK}{x m:Str}{p pos apos:Pos}{e o:Expr}{es:List Expr}{ta:TE}{t:TA}
theorem run_fn{pins:List (Addr×Obj)}{σ:St}{H:Hp}{s:Shared}{Q:VK}{us:List Value}{vs:List V}(F:FnOk X.prog X.w X.K X.mg X.base CX k f fd ps sp)(hr:Room k X.A)(hb:Binds X.K fd ps ds)(hd:Vals dvs ds)(hx:Passes CX X E)
  (I:Inv X pins σ H s) (r:Vals vs us) (h:sp (vs++dvs) H Q E):wpAny (model X.prog X.w) X.A (call (.ref f) us) (EP X pins σ Q) X.xe s:=by
 have r2:Vals (vs++dvs) (us++ds):=r.append hd
 have hl:(us++ds).length=ps.length:=by rw[<-r2.length];exact F.len _ _ _ _ h
 refine wpAny_call (codeAny_mono (F.run X.A X.stack s H ⟨us,[]⟩ (us++ds) (vs++dvs) Q E hr I.env0 (hb s us I.kIn hl) r2 h) fun r s' hq=>?_)
 cases r with
 | error e=>exact hx pins σ H s e s' I hq
 | ok fl=>
  cases fl with
  | ret u=>exact I.after hq
  | next=>exact False.elim hq
  | brk=>exact False.elim hq
  | cont=>exact False.elim hq
theorem pe_call(F:FnOk X.prog X.w X.K X.mg X.base CX k f fd ps sp)(hr:Room k X.A)(hg:Gl X x)(hm:X.mg x=some (.ref f))(hk:PySem.W.keepIn X.K (.ref f)=true)(hb:Binds X.K fd ps ds)(hd:Vals dvs ds)(hx:Passes CX X E)
  (ha:PA X (e::es) t) (hdb:(x == ("__debug__" : Str))=false:=by decide) (he:starEach (e::es) X.env=(false,eval e X.env)::starEach es X.env:=by rfl) (hpl:(backTo pos (starEach es X.env)).any (·.1)=false:=by rfl) :
  PE X (.Call (.Name x p) (e::es) [] pos) (tCall sp dvs E t):=by
 intro pins s σ H Q I h
 refine wpAny_Call_Name_kw (ld_glob I hg hm ?_ hdb)
 refine PySem.W.callWith_K (h₀:=X.base) I.ok.mod.kin hk (thn (ha pos pins s σ H _ I h) fun us s1 ⟨vs,H1,I1,r,q⟩=>⟨I1.kIn,?_⟩) he hpl
 exact run_fn F hr hb hd hx I1 r q
theorem pe_meth{pl:Sem Bool}(he:PE X o ta)(c:Cls X.K C)(hm:Meth X.K C m f)(F:FnOk X.prog X.w X.K X.mg X.base CX k f fd ps sp)(hr:Room k X.A)(hb:Binds X.K fd ps ds)(hd:Vals dvs ds)(hx:Passes CX X E)(ha:PA X (e::es) t)
  (hst:starEach (e::es) X.env=(false,eval e X.env)::starEach es X.env:=by rfl) (hpl:(backTo pos (starEach es X.env)).any (·.1)=false:=by rfl)
  (ht:eval (.Call (.Attribute o m apos) (e::es) [] pos) X.env=(do
   let ov <-eval o X.env
   standAt apos.atName
   let(f,first) <-holding [ov] (getMethod ov m pl)
   callWith pos f first (backTo pos (starEach (e::es) X.env)) (backToKw pos (keywordEach [] X.env))):=by rfl) :
  PE X (.Call (.Attribute o m apos) (e::es) [] pos) (tMeth C m sp dvs E ta t):=by
 intro pins s σ H Q I h
 refine PySem.W.methodCall_KW (pl:=pl) (thn (he pins s σ H _ I h) fun u s1 ⟨x,H1,I1,rx,a,dx,fs,ex,ea,l,q⟩=>?_) ht
 subst ex
 obtain rfl:u=Value.ref a:=rx
 refine getmeth_ok I1 ea c hm l ?_
 refine PySem.W.callWith_K (first:=[.ref a]) (h₀:=X.base) I.ok.mod.kin hm.kp (thn (ha pos pins s1 σ H1 _ I1 q) fun us s2 ⟨vs,H2,I2,r,q2⟩=>⟨I2.kIn,?_⟩) hst hpl
 exact run_fn (us:=.ref a::us) (vs:=.ref a::vs) F hr hb hd hx I2 (.cons rfl r) q2
structure Mk(K:Fg)(C f:Addr):Prop where
 makes:PySem.W.makesIn K C=true
 init:PySem.W.findIn K (.ref C) "__init__" = some (some (.ref f))
 fn:PySem.W.isFn K (.ref f)=true
 kp:PySem.W.keepIn K (.ref C)=true
theorem run_make{pins:List (Addr×Obj)}{σ:St}{H:Hp}{s:Shared}{Q:VK}{us:List Value}{vs:List V}(M:Mk X.K C f)(F:FnOk X.prog X.w X.K X.mg X.base CX k f fd ps sp)(hr:Room (k+1) X.A)(hb:Binds X.K fd ps ds)(hd:Vals dvs ds)
  (hx:Passes CX X E) (I:Inv X pins σ H s) (r:Vals vs us)
  (h:∀x dx,H x=none->H dx=none->dx≠x->sp (.ref x::(vs++dvs)) (upd (upd H dx (.own x)) x (.ins C dx [])) (fun v H2=>v=.non/\Q (.ref x) H2) E) :
  wpAny (model X.prog X.w) X.A (call (.ref C) us) (EP X pins σ Q) X.xe s:=by
 have hq:=h (s.heap.objs.size+1) s.heap.objs.size (I.hok.fresh (Nat.le_succ _)) (I.hok.fresh (Nat.le_refl _)) (Nat.ne_of_lt (Nat.lt_succ_self _))
 have I2:=Inv.made (C:=C) I
 have r2:Vals (V.ref (s.heap.objs.size+1)::(vs++dvs)) (Value.ref (s.heap.objs.size+1)::(us++ds)):=.cons rfl (r.append hd)
 have hl:(Value.ref (s.heap.objs.size+1)::us++ds).length=ps.length:=by
  have e:=r2.length
  rw[F.len _ _ _ _ hq]at e
  exact e.symm
 refine wpAny_call (make_map (f:=f) I.kIn M.makes M.init (beq_iff_eq.mp M.fn) (codeAny_mono (F.run _ X.stack _ _ ⟨Value.ref (s.heap.objs.size+1)::us,[]⟩ (Value.ref (s.heap.objs.size+1)::(us++ds)) _ _ E (hr.make C us [])
  (I2.env0.make C us []) (hb _ (Value.ref (s.heap.objs.size+1)::us) I2.kIn hl) r2 hq) fun r s' hq'=>?_))
 cases r with
 | error e=>exact hx pins σ _ _ e s' I2 hq'
 | ok fl=>
  cases fl with
  | ret u=>
   obtain⟨v,H',I3,rv,ev,q3⟩:=I2.after hq'
   subst ev
   exact⟨rv,⟨V.ref (s.heap.objs.size+1),H',I3,rfl,q3⟩⟩
  | next=>exact False.elim hq'
  | brk=>exact False.elim hq'
  | cont=>exact False.elim hq'
theorem pe_make(M:Mk X.K C f)(F:FnOk X.prog X.w X.K X.mg X.base CX k f fd ps sp)(hr:Room (k+1) X.A)(hg:Gl X x)(hm:X.mg x=some (.ref C))(hb:Binds X.K fd ps ds)(hd:Vals dvs ds)(hx:Passes CX X E)
  (ha:PA X (e::es) t) (hdb:(x == ("__debug__" : Str))=false:=by decide) (he:starEach (e::es) X.env=(false,eval e X.env)::starEach es X.env:=by rfl) (hpl:(backTo pos (starEach es X.env)).any (·.1)=false:=by rfl) :
  PE X (.Call (.Name x p) (e::es) [] pos) (tMake C sp dvs E t):=by
 intro pins s σ H Q I h
 refine wpAny_Call_Name_kw (ld_glob I hg hm ?_ hdb)
 refine PySem.W.callWith_K (h₀:=X.base) I.ok.mod.kin M.kp (thn (ha pos pins s σ H _ I h) fun us s1 ⟨vs,H1,I1,r,q⟩=>⟨I1.kIn,?_⟩) he hpl
 exact run_make M F hr hb hd hx I1 r q
end
def PK(X:Cx)(kws:List Keyword)(t:TA):Prop:=
 ∀(pos:Pos) (pins:List (Addr×Obj)) (s:Shared) (σ:St) (H:Hp) (Q:List V->Hp->Prop),Inv X pins σ H s->t σ H Q->wpAny (model X.prog X.w) X.A (evalAll ((backToKw pos (keywordEach kws X.env)).map (·.2))) (AP X pins σ Q) X.xe s
section
variable {X:Cx}{CX:CXT}{k:Nat}{f C:Addr}{fd:FuncData}{ps ks:List Str}{sp:Sp}{E:XK}{x m:Str}{p pos apos kpos:Pos}{e o:Expr}{es:List Expr}{kws:List Keyword}{te ta:TE}{t tk:TA}{nm:Option Str}
structure KBinds(K:Fg)(fd:FuncData)(ps ks:List Str)(g:List Value->List Value->List Value)(gV:List V->List V->List V):Prop where
 to:∀(s:Shared) (us ws:List Value),K.In s.heap->(g us ws).length=ps.length->BindsTo s fd ⟨us,ks.zip ws⟩ (ps.zip (g us ws))
 rel:∀ {vs:List V} {us:List Value} {zs:List V} {ws:List Value},Vals vs us->Vals zs ws->Vals (gV vs zs) (g us ws)
def tCallK(sp:Sp)(gV:List V->List V->List V)(E:XK)(t tk:TA):TE:=fun σ H Q=>t σ H fun vs H1=>tk σ H1 fun zs H2=>sp (gV vs zs) H2 Q E
variable {g:List Value->List Value->List Value}{gV:List V->List V->List V}
end
structure FnScope(N P:List Str)(sc:Scope):Prop where
 kind:sc.kind=.function
 co:sc.isCoroutine=false
 gen:sc.isGenerator=false
 nd:N.Nodup
 pre:N.take P.length=P
 par:∀x∈P,sc.names.lookup x=some .local\/sc.names.lookup x=some .cell
 nofree:∀y∈sc.names,y.2≠.free
theorem bindL_out{kindOf:Str->Option NameKind}{x:Str}:∀ {binds:List (Str×Value)} {m:Str->Option Value},(∀v,(x,v)∉binds)->bindL kindOf binds m x=m x
 | [],_,_=>rfl
 | (n,v)::r,m,h=>by
  unfold bindL
  rw[bindL_out fun w hw=>h w (List.mem_cons_of_mem _ hw)]
  split
  ·have:x≠n:=by rintro rfl;exact h v List.mem_cons_self
   simp[this]
  ·rfl
theorem bindC_out{kindOf:Str->Option NameKind}{x:Str}:∀ {binds:List (Str×Value)} {m:Str->Option Value},(∀v,(x,v)∉binds)->bindC kindOf binds m x=m x
 | [],_,_=>rfl
 | (n,v)::r,m,h=>by
  unfold bindC
  rw[bindC_out fun w hw=>h w (List.mem_cons_of_mem _ hw)]
  split
  ·rfl
  ·have:x≠n:=by rintro rfl;exact h v List.mem_cons_self
   simp[this]
theorem bindL_get{kindOf:Str->Option NameKind}{x:Str}{v:Value}:∀ {P:List Str} {vs:List Value} {i:Nat} {m:Str->Option Value},P.Nodup->P[i]? = some x->vs[i]? = some v->kindOf x=some .local ->
  bindL kindOf (P.zip vs) m x=some v
 | [],_,_,_,_,h,_,_=>by simp at h
 | _::_,[],_,_,_,_,h,_=>by simp at h
 | p::P,w::vs,0,m,nd,h1,h2,hk=>by
  simp at h1 h2;subst h1;subst h2
  show bindL kindOf ((p,w)::P.zip vs) m p=_
  unfold bindL
  rw[bindL_out fun v hv=>(List.nodup_cons.mp nd).1 (List.of_mem_zip hv).1,if_pos hk]
  simp
 | p::P,w::vs,i+1,m,nd,h1,h2,hk=>by
  show bindL kindOf ((p,w)::P.zip vs) m x=_
  unfold bindL
  exact bindL_get (i:=i) (List.nodup_cons.mp nd).2 (by simpa using h1) (by simpa using h2) hk
theorem bindC_get{kindOf:Str->Option NameKind}{x:Str}{v:Value}:∀ {P:List Str} {vs:List Value} {i:Nat} {m:Str->Option Value},P.Nodup->P[i]? = some x->vs[i]? = some v->kindOf x≠some .local ->
  bindC kindOf (P.zip vs) m x=some v
 | [],_,_,_,_,h,_,_=>by simp at h
 | _::_,[],_,_,_,_,h,_=>by simp at h
 | p::P,w::vs,0,m,nd,h1,h2,hk=>by
  simp at h1 h2;subst h1;subst h2
  show bindC kindOf ((p,w)::P.zip vs) m p=_
  unfold bindC
  rw[bindC_out fun v hv=>(List.nodup_cons.mp nd).1 (List.of_mem_zip hv).1,if_neg hk]
  simp
 | p::P,w::vs,i+1,m,nd,h1,h2,hk=>by
  show bindC kindOf ((p,w)::P.zip vs) m x=_
  unfold bindC
  exact bindC_get (i:=i) (List.nodup_cons.mp nd).2 (by simpa using h1) (by simpa using h2) hk
def start(N:List Str)(vs:List V):St:=vs.map some++List.replicate (N.length - vs.length) none
def cxOf(CX:CXT)(P:Program)(w:World)(K:Fg)(mg:Str->Option Value)(base:Heap)(N:List Str)(qual:Str)(scope:Scope)(f:Addr)(cd:Value)(A:Around)(outer:List Env)(s:Shared)(H:Hp)(E:XK):Cx where
 prog:=P
 w:=w
 K:=K
 mg:=mg
 base:=base
 A:=A.deeper (envOfC qual scope s.heap.objs.size f cd)
 N:=N
 s₀:=s
 H₀:=H
 env:=envOfC qual scope s.heap.objs.size f cd
 outer:=outer
 stack:=envOfC qual scope s.heap.objs.size f cd::outer
 ex:=[]
 calm:=true
 fn:=fun _=>true
 pn:=[]
 xe:=fun e s'=>wpAny (model P w) (A.deeper (envOfC qual scope s.heap.objs.size f cd)) (leaving (envOfC qual scope s.heap.objs.size f cd) e) (fun _ s''=>CX outer H s E e s'') (fun e' s''=>CX outer H s E e' s'') s'
theorem cell_has{sc:Scope}{n:Nat}{x:Str}(h:sc.names.lookup x=some .cell):∃c,(cellsFrom n sc.names []).lookup x=some c:=by
 have q:=PySem.W.cellsFrom_some sc.names n [] (.inl h)
 exact Option.isSome_iff_exists.mp q
theorem inv_start{CX:CXT}{P:Program}{w:World}{K:Fg}{mg:Str->Option Value}{base:Heap}{N ps:List Str}{qual:Str}{scope:Scope}{f:Addr}{cd:Value}{A:Around}{outer:List Env}{s s1:Shared}{H:Hp}{E:XK}{us:List Value}{vs:List V}
  (S:FnScope N ps scope) (hd:A.handled=none) (e0:Env0 P w K mg base A outer s H) (hl:vs.length=ps.length) (r:Vals vs us)
  (x:InCallC s s.heap.objs.size (bindL (envOfC qual scope s.heap.objs.size f cd).kindOf (ps.zip us) fun _=>none) (cellsFrom (s.heap.objs.size+1) scope.names []) (bindC (envOfC qual scope s.heap.objs.size f cd).kindOf (ps.zip us) fun _=>none) s1) :
  Inv (cxOf CX P w K mg base N qual scope f cd A outer s H E) [] (start N vs) H s1:=by
 have hpl:ps.length<=N.length:=by have:=congrArg List.length S.pre;rw[List.length_take]at this;omega
 obtain⟨h1,tk,rfl,hk⟩:=x.done
 have noA:∀b:Addr,b∉(cxOf CX P w K mg base N qual scope f cd A outer s H E).ex:=fun b z=>absurd (show b∈([]:List Addr)from z) (by simp)
 refine⟨⟨e0.mod,S.kind,rfl,rfl,Nat.le_refl _,fun y z c h1 h2=>?_,fun y hy=>?_,fun y c _ h=>?_,fun _=>hd,Around.frames_deeper e0.frames,.inr ⟨rfl,rfl⟩,fun b z=>absurd z (noA b),e0.bs,e0.bsz,fun b _ _=>noA b,fun b z=>absurd z (noA b),e0.funs,e0.frf⟩,
  rfl,e0.bare,Un.kept hk,⟨_,x.toInCall.ns,fun i y v h1 h2 h3=>?_⟩,fun y c h=>⟨_,x.cell y c h⟩,e0.hok.fresh (Nat.le_refl _),fun y c h=>?_,fun p hp=>absurd (show p∈([]:List (Addr×Obj))from hp) (by simp),e0.hok.kept hk,?_⟩
 ·exact name_of_addr x.apart (PySem.mem_of_lookup h1) (PySem.mem_of_lookup h2)
 ·have hy:scope.names.lookup y=some .cell\/scope.names.lookup y=some .free:=hy
  rcases hy with hy | hy
  ·exact cell_has hy
  ·exact absurd rfl (S.nofree _ (PySem.mem_of_lookup hy))
 ·exact Nat.le_of_lt (x.above y c (PySem.mem_of_lookup h))
 ·have hi:i<vs.length:=by
   unfold start at h2
   by_cases hi:i<vs.length
   ·exact hi
   ·rw[List.getElem?_append_right (by simpa using hi)]at h2
    rw[List.getElem?_replicate]at h2
    split at h2 <;> cases h2
  have ha:vs[i]? = some v:=by
   unfold start at h2
   rw[List.getElem?_append_left (by simpa using hi),List.getElem?_map]at h2
   cases e:vs[i]? with
   | none=>rw[e]at h2;cases h2
   | some a=>rw[e]at h2;cases h2;rfl
  obtain⟨u,hu,rv⟩:=r.get ha
  have hp:ps[i]? = some y:=by
   rw[<-S.pre,List.getElem?_take_of_lt (by omega)];exact h1
  have ndP:ps.Nodup:=by rw[<-S.pre];exact S.nd.sublist (List.take_sublist _ _)
  refine⟨u,rv,?_⟩
  rcases S.par y (List.mem_of_getElem? hp)with k | k
  ·exact .inl ⟨k,bindL_get ndP hp hu k⟩
  ·obtain⟨c,e⟩:=cell_has (n:=s.heap.objs.size+1) k
   refine .inr ⟨.inl k,c,e,?_⟩
   have q:=x.cell y c e
   rw[bindC_get ndP hp hu (by show scope.names.lookup y≠_;rw[k];decide)]at q
   exact q
 ·exact e0.hok.fresh (Nat.le_of_lt (x.above y c (PySem.mem_of_lookup h)))
 ·unfold start
  show _=N.length
  rw[List.length_append,List.length_map,List.length_replicate]
  omega
theorem fn_of{CX:CXT}{P:Program}{w:World}{K:Fg}{mg:Str->Option Value}{base:Heap}{k:Nat}{f:Addr}{name qual:Str}{params:Arguments}{body:List Stmt}{scope:Scope}{dV kV doc pm cdv ct oc:Value}{an od:Option Addr}
  {osl:Array (Option Value)} {N ps:List Str} {sp:Sp} (lk:K.lookup f=some ⟨oc,od,.func (PySem.W.fnOf name qual params body scope dV kV doc pm an cdv ct),osl⟩) (hcd:PySem.W.codeIn K cdv qual=true) (S:FnScope N ps scope)
  (len:∀vs H Q E,sp vs H Q E->vs.length=ps.length)
  (hbody:∀(A:Around) (outer:List Env) (s:Shared) (H:Hp) (vs:List V) (Q:VK) (E:XK),Room k (A.deeper (envOfC qual scope s.heap.objs.size f cdv))->sp vs H Q E ->
   ∃t,PSs (cxOf CX P w K mg base N qual scope f cdv A outer s H E) body t/\t { nx:=fun _ H'=>Q .non H',rt:=Q } (start N vs) H) :
  FnOk P w K mg base CX (k+1) f (PySem.W.fnOf name qual params body scope dV kV doc pm an cdv ct) ps sp:=by
 refine⟨len,fun A outer s H args us vs Q E hr e0 hb r hsp=>?_⟩
 have hl:=len _ _ _ _ hsp
 have KX:K.In s.heap:=e0.mod.kin.keeps fun b o e=>(e0.bs b o e).1
 have lim:s.heap.NoLimit:=e0.mod.nolimit.keeps fun b o e=>(e0.bs b o e).1
 have hkind:∀y∈ps.zip us,scope.names.lookup y.1=some .local\/(scope.names.lookup y.1=some .cell/\((cellsFrom (s.heap.objs.size+1) scope.names []).lookup y.1).isSome=true):=fun⟨n,v⟩ hy=>by
  rcases S.par n (List.of_mem_zip hy).1 with q | q
  ·exact .inl q
  ·exact .inr ⟨q,PySem.W.cellsFrom_some _ _ _ (.inl q)⟩
 refine codeAny_call_function hr.depth (KX _ _ lk) rfl S.co S.gen rfl (PySem.W.codeRec_of KX hcd) (hb _ _ _ _ ?_)
 refine wpAny_newFunctionEnv_cells S.kind hkind fun env he s1 x=>?_
 subst he
 refine⟨lim.keeps x.toInCall.keep,codeAny_func ?_⟩
 obtain⟨t,ht,hq⟩:=hbody A outer s H vs Q E (hr.deeper _) hsp
 have I:Inv (cxOf CX P w K mg base N qual scope f cdv A outer s H E) [] (start N vs) H s1:=inv_start S hr.hd e0 hl r x
 refine wpAny_mono (ht [] s1 (start N vs) H _ I hq) (fun fl s' hs=>?_) fun e s' hs=>hs
 have fin:∀ {σ':St} {H':Hp} {v:V} {u:Value},Inv (cxOf CX P w K mg base N qual scope f cdv A outer s H E) [] σ' H' s'->RelV v u->Q v H'->CE outer P w H s Q u s':=
  fun {σ' H' v u} J rv q=>⟨v,H',J.os,J.bare,J.base,J.hok,rv,q⟩
 cases fl with
 | ret u=>
  obtain⟨v,σ',H',J,rv,q⟩:=hs
  exact fin J rv q
 | next=>
  obtain⟨σ',H',J,q⟩:=hs
  exact fin (v:=V.non) (u:=Value.none) J rfl q
 | brk=>
  obtain⟨_,_,_,q⟩:=hs
  exact False.elim q
 | cont=>
  obtain⟨_,_,_,q⟩:=hs
  exact False.elim q
end L2
namespace L2
open PySem PySem.Spec PyProof.Rows
section
variable {X:Cx}{x:Str}{p pos:Pos}{e:Expr}{es:List Expr}{t:TA}{id T:String}{r:List V->Hp->VK->Prop}
def tCB(r:List V->Hp->VK->Prop)(t:TA):TE:=fun σ H Q=>t σ H fun vs H1=>r vs H1 Q
theorem pe_callB(hc:CallR X (.builtin id) r)(hg:Gl X x)(hm:X.mg x=none)(hv:bootBuiltins x=some (.builtin id))(ha:PA X (e::es) t)(hn:x ≠ "__name__" := by decide)(hdb:(x == ("__debug__" : Str))=false:=by decide)
  (he:starEach (e::es) X.env=(false,eval e X.env)::starEach es X.env:=by rfl) (hpl:(backTo pos (starEach es X.env)).any (·.1)=false:=by rfl):PE X (.Call (.Name x p) (e::es) [] pos) (tCB r t):=by
 intro pins s σ H Q I h
 refine wpAny_Call_Name_kw (ld_blt I hg hm hv ?_ hn hdb)
 exact PyProof.Rows.callWith_builtin1 (thn (ha pos pins s σ H _ I h) fun us s1 ⟨vs,H1,I1,r1,q1⟩=>hc pins s1 σ H1 vs us Q I1 r1 q1) he hpl
theorem pe_callTy(hc:CallR X (.type T) r)(hg:Gl X x)(hm:X.mg x=none)(hv:bootBuiltins x=some (.type T))(ha:PA X (e::es) t)(hn:x ≠ "__name__" := by decide)(hdb:(x == ("__debug__" : Str))=false:=by decide)
  (he:starEach (e::es) X.env=(false,eval e X.env)::starEach es X.env:=by rfl) (hpl:(backTo pos (starEach es X.env)).any (·.1)=false:=by rfl):PE X (.Call (.Name x p) (e::es) [] pos) (tCB r t):=by
 intro pins s σ H Q I h
 refine wpAny_Call_Name_kw (ld_blt I hg hm hv ?_ hn hdb)
 exact PyProof.Rows.callWith_type1 (thn (ha pos pins s σ H _ I h) fun us s1 ⟨vs,H1,I1,r1,q1⟩=>hc pins s1 σ H1 vs us Q I1 r1 q1) he hpl
end
end L2
namespace L2
open PySem PySem.Spec PyProof.Rows
section
variable {κ:Type}[DecidableEq κ]
def valV(kvs:List (κ×V))(k:κ):Option V:=(kvs.find? fun kv=>decide (kv.1=k)).map (·.2)
def putK(kvs:List (κ×V))(k:κ)(v:V):List (κ×V):=
 if(kvs.any fun kv=>decide (kv.1=k))=true then kvs.map (fun kv=>if kv.1=k then (kv.1,v)else kv)else kvs++[(k,v)]
def dropK(kvs:List (κ×V))(k:κ):List (κ×V):=kvs.filter fun kv=>decide (kv.1≠k)
theorem valV_pos{p:κ×V}{r:List (κ×V)}{k:κ}(e:p.1=k):valV (p::r) k=some p.2:=by simp[valV,List.find?_cons,e]
theorem valV_neg{p:κ×V}{r:List (κ×V)}{k:κ}(e:¬p.1=k):valV (p::r) k=valV r k:=by simp[valV,List.find?_cons,e]
theorem valV_any(k:κ):∀kvs:List (κ×V),(kvs.any fun kv=>decide (kv.1=k))=(valV kvs k).isSome
 | []=>rfl
 | p::r=>by
  rw[List.any_cons]
  by_cases e:p.1=k
  ·simp only[valV_pos e,decide_eq_true e,Bool.true_or,Option.isSome_some]
  ·rw[valV_neg e,decide_eq_false e,Bool.false_or];exact valV_any k r
theorem valV_map(k j:κ)(y:V):∀kvs:List (κ×V),valV (kvs.map fun kv=>if kv.1=k then (kv.1,y)else kv) j=(valV kvs j).map fun x=>if j=k then y else x
 | []=>rfl
 | p::r=>by
  have ih:=valV_map k j y r
  rw[List.map_cons]
  by_cases h:p.1=k
  ·rw[if_pos h]
   by_cases e:p.1=j
   ·rw[valV_pos (p:=(p.1,y)) e,valV_pos e,Option.map_some,if_pos (e.symm.trans h)]
   ·rw[valV_neg (p:=(p.1,y)) e,valV_neg e,ih]
  ·rw[if_neg h]
   by_cases e:p.1=j
   ·rw[valV_pos (p:=p) e,valV_pos e,Option.map_some,if_neg (fun z=>h (e.trans z))]
   ·rw[valV_neg (p:=p) e,valV_neg e,ih]
theorem valV_snoc(k j:κ)(y:V):∀kvs:List (κ×V),valV kvs k=none->valV (kvs++[(k,y)]) j=if j=k then some y else valV kvs j
 | [],_=>by
  by_cases e:k=j
  ·rw[if_pos e.symm];exact valV_pos (p:=(k,y)) e
  ·rw[if_neg (fun z=>e z.symm)];exact valV_neg (p:=(k,y)) e
 | p::r,hn=>by
  rw[List.cons_append]
  have hk:¬p.1=k:=fun z=>by rw[valV_pos z]at hn;cases hn
  rw[valV_neg hk]at hn
  have ih:=valV_snoc k j y r hn
  by_cases e:p.1=j
  ·rw[valV_pos e,valV_pos e,if_neg (fun z=>hk (e.trans z))]
  ·rw[valV_neg e,valV_neg e,ih]
theorem valV_put(kvs:List (κ×V))(k j:κ)(y:V):valV (putK kvs k y) j=if j=k then some y else valV kvs j:=by
 unfold putK
 by_cases a:(kvs.any fun kv=>decide (kv.1=k))=true
 ·rw[if_pos a,valV_map]
  rw[valV_any]at a
  by_cases e:j=k
  ·obtain⟨x,hx⟩:=Option.isSome_iff_exists.mp a
   rw[if_pos e,e,hx,Option.map_some,if_pos rfl]
  ·rw[if_neg e]
   cases valV kvs j with
   | none=>rfl
   | some x=>rw[Option.map_some,if_neg e]
 ·rw[if_neg a]
  refine valV_snoc k j y kvs ?_
  rw[valV_any]at a
  cases q:valV kvs k with
  | none=>rfl
  | some x=>rw[q]at a;exact(a rfl).elim
theorem length_putK(kvs:List (κ×V))(k:κ)(v:V):(putK kvs k v).length<=kvs.length+1:=by
 unfold putK
 split
 ·rw[List.length_map];omega
 ·rw[List.length_append,List.length_cons,List.length_nil];omega
theorem RelO.isSome_eq{o:Option V}{u:Option Value}(r:RelO o u):o.isSome=u.isSome:=by
 cases o with
 | none=>cases u with
  | none=>rfl
  | some _=>exact(show False from r).elim
 | some _=>cases u with
  | none=>exact(show False from r).elim
  | some _=>rfl
theorem RelO.getD{o:Option V}{u:Option Value}{d:V}{d':Value}(r:RelO o u)(rd:RelV d d'):RelV (o.getD d) (u.getD d'):=by
 cases o with
 | none=>cases u with
  | none=>exact rd
  | some _=>exact(show False from r).elim
 | some _=>cases u with
  | none=>exact(show False from r).elim
  | some _=>exact r
theorem KV.val{kvs:List (κ×V)}{vs:List (κ×Value)}(r:KV kvs vs)(k:κ):RelO (valV kvs k) (valueAt vs k):=by
 unfold KV at r
 induction r with
 | nil=>exact True.intro
 | @cons p q ps qs h t ih=>
  obtain⟨h1,h2⟩:=h
  by_cases e:p.1=k
  ·have e':q.1=k:=h1.symm.trans e
   have b:valueAt (q::qs) k=some q.2:=by simp[valueAt,List.find?_cons,e']
   rw[valV_pos e,b];exact h2
  ·have e':¬q.1=k:=fun z=>e (h1.trans z)
   have b:valueAt (q::qs) k=valueAt qs k:=by simp[valueAt,List.find?_cons,e']
   rw[valV_neg e,b];exact ih
theorem KV.any{kvs:List (κ×V)}{vs:List (κ×Value)}(r:KV kvs vs)(k:κ):(kvs.any fun kv=>decide (kv.1=k))=vs.any fun kv=>decide (kv.1=k):=by
 unfold KV at r
 induction r with
 | nil=>rfl
 | cons h t ih=>rw[List.any_cons,List.any_cons,ih,h.1]
theorem KV.repl{kvs:List (κ×V)}{vs:List (κ×Value)}(r:KV kvs vs)(k:κ){y:V}{u:Value}(ry:RelV y u) :
  KV (kvs.map fun kv=>if kv.1=k then (kv.1,y)else kv) (vs.map fun kv=>if kv.1=k then (kv.1,u)else kv):=by
 unfold KV at r ⊢
 induction r with
 | nil=>exact .nil
 | @cons p q ps qs h t ih=>
  rw[List.map_cons,List.map_cons]
  refine .cons ?_ ih
  obtain⟨h1,h2⟩:=h
  by_cases e:p.1=k
  ·rw[if_pos e,if_pos (h1.symm.trans e)];exact⟨h1,ry⟩
  ·rw[if_neg e,if_neg (fun z=>e (h1.trans z))];exact⟨h1,h2⟩
theorem KV.put{kvs:List (κ×V)}{vs:List (κ×Value)}(r:KV kvs vs)(k:κ){y:V}{u:Value}(ry:RelV y u):KV (putK kvs k y) (stored vs k u):=by
 unfold putK stored
 rw[r.any k]
 by_cases e:(vs.any fun kv=>decide (kv.1=k))=true
 ·rw[if_pos e,if_pos e];exact r.repl k ry
 ·rw[if_neg e,if_neg e];exact Paired.snoc r ⟨rfl,ry⟩
theorem KV.drop{kvs:List (κ×V)}{vs:List (κ×Value)}(r:KV kvs vs)(k:κ):KV (dropK kvs k) (without vs k):=by
 unfold KV at r ⊢
 unfold dropK without
 induction r with
 | nil=>exact .nil
 | @cons p q ps qs h t ih=>
  obtain⟨h1,h2⟩:=h
  rw[List.filter_cons,List.filter_cons]
  by_cases e:p.1=k
  ·have a:¬decide (p.1≠k)=true:=by simp[e]
   have b:¬decide (q.1≠k)=true:=by simp[h1.symm.trans e]
   rw[if_neg a,if_neg b];exact ih
  ·have e':¬q.1=k:=fun z=>e (h1.trans z)
   have a:decide (p.1≠k)=true:=by simp[e]
   have b:decide (q.1≠k)=true:=by simp[e']
   rw[if_pos a,if_pos b];exact .cons ⟨h1,h2⟩ ih
theorem KV.keys{kvs:List (κ×V)}{vs:List (κ×Value)}(r:KV kvs vs):kvs.map (·.1)=vs.map (·.1):=by
 unfold KV at r
 induction r with
 | nil=>rfl
 | cons h t ih=>rw[List.map_cons,List.map_cons,ih,h.1]
theorem KV.length{kvs:List (κ×V)}{vs:List (κ×Value)}(r:KV kvs vs):kvs.length=vs.length:=Paired.length r
end
theorem kV_is{P:Program}{w:World}{k:Key}{u:Value}(r:RelV (kV k) u):(mixKind P w).is k u=true:=by
 cases k with
 | inl i=>obtain⟨t,e⟩:=(show ∃t,u=Value.int i t from r);subst e;exact mixKind_int P w i t
 | inr x=>obtain⟨t,e⟩:=(show ∃t,u=Value.str x t from r);subst e;exact mixKind_str P w x t
theorem items_are{P:Program}{w:World}:∀ {ks:List Key} {us:List Value},Vals (ks.map kV) us->ItemsAre (mixKind P w) ks us
 | [],_,r=>by rw[List.map_nil]at r;cases r;exact .nil
 | k::ks,_,r=>by
  rw[List.map_cons]at r
  cases r with
  | cons h t=>exact .cons (kV_is h) (items_are t)
abbrev KT(H:Hp):List (List Key×V)->List (List Key×Addr×Value)->Prop:=Paired fun p q=>p.1=q.1/\H q.2.1=some (.tup (p.1.map kV))/\RelV p.2 q.2.2
theorem KT.val{H:Hp}{kvs:List (List Key×V)}{xs:List (List Key×Addr×Value)}(r:KT H kvs xs)(k:List Key):RelO (valV kvs k) ((atKey xs k).map (·.2)):=by
 induction r with
 | nil=>exact True.intro
 | @cons p q ps qs h t ih=>
  obtain⟨h1,_,h2⟩:=h
  by_cases e:p.1=k
  ·have e':q.1=k:=h1.symm.trans e
   have b:atKey (q::qs) k=some q.2:=by simp[atKey,List.find?_cons,e']
   rw[valV_pos e,b];exact h2
  ·have e':¬q.1=k:=fun z=>e (h1.trans z)
   have b:atKey (q::qs) k=atKey qs k:=by simp[atKey,List.find?_cons,e']
   rw[valV_neg e,b];exact ih
theorem KT.repl{H:Hp}{kvs:List (List Key×V)}{xs:List (List Key×Addr×Value)}(r:KT H kvs xs)(k:List Key){y:V}{u:Value}(ry:RelV y u) :
  KT H (kvs.map fun kv=>if kv.1=k then (kv.1,y)else kv) (xs.map (putAt k u)):=by
 induction r with
 | nil=>exact .nil
 | @cons p q ps qs h t ih=>
  rw[List.map_cons,List.map_cons]
  refine .cons ?_ ih
  obtain⟨h1,h2,h3⟩:=h
  unfold putAt
  by_cases e:p.1=k
  ·rw[if_pos e,if_pos (h1.symm.trans e)];exact⟨h1,h2,ry⟩
  ·rw[if_neg e,if_neg (fun z=>e (h1.trans z))];exact⟨h1,h2,h3⟩
theorem KT.put{H:Hp}{kvs:List (List Key×V)}{xs:List (List Key×Addr×Value)}(r:KT H kvs xs)(k:List Key){b:Addr}{y:V}{u:Value}(hb:H b=some (.tup (k.map kV)))(ry:RelV y u) :
  KT H (putK kvs k y) (storedH xs k b u):=by
 have e:(kvs.any fun kv=>decide (kv.1=k))=(atKey xs k).isSome:=by
  rw[valV_any,(r.val k).isSome_eq,Option.isSome_map]
 unfold putK storedH
 rw[e]
 by_cases q:(atKey xs k).isSome=true
 ·rw[if_pos q,if_pos q];exact r.repl k ry
 ·rw[if_neg q,if_neg q];exact Paired.snoc r ⟨rfl,hb,ry⟩
theorem KT.keeps{H H':Hp}{kvs:List (List Key×V)}{xs:List (List Key×Addr×Value)}(r:KT H kvs xs)(ht:∀b ys,H b=some (.tup ys)->H' b=some (.tup ys)):KT H' kvs xs:=
 Paired.mapP r fun _ _ z=>⟨z.1,ht _ _ z.2.1,z.2.2⟩
section
variable {P:Program}{w:World}{H:Hp}{h:Heap}{a:Addr}
theorem rd_of{u:HO}(ok:HOk P w H h)(e:Rd H a u):ObjOk P w H h a u:=e.ok ok
theorem dk_rd{kvs:List (Key×V)}(ok:HOk P w H h)(e:Rd H a (.dK kvs)):kvs.length<=sizeLine/\(a == sysModules)=false/\∃vs,KV kvs vs/\h.DictOf (mixKind P w) a vs:=
 show ObjOk P w H h a (.dK kvs)from rd_of ok e
theorem dk_of{kvs:List (Key×V)}(ok:HOk P w H h)(e:H a=some (.dK kvs)):kvs.length<=sizeLine/\(a == sysModules)=false/\∃vs,KV kvs vs/\h.DictOf (mixKind P w) a vs:=dk_rd ok (.inl e)
theorem key_of{ks:List Key}(ok:HOk P w H h)(e:H a=some (.tup (ks.map kV))):(tupleKind (mixKind P w)).is h ks a:=by
 obtain⟨_,its,r,o,h1,h2,n,h3⟩:=(show ObjOk P w H h a (.tup (ks.map kV))from ok a _ e)
 exact⟨o,its.toArray,n,h1,h2,h3,by simpa using items_are r⟩
theorem dt_rd{kvs:List (List Key×V)}(ok:HOk P w H h)(e:Rd H a (.dT kvs)):kvs.length<=sizeLine/\(a == sysModules)=false /\
  ∃xs,KT H kvs xs/\h.DictOfH (tupleKind (mixKind P w)) a xs:=by
 obtain⟨z,y,xs,r,o,es,ep,h1,h2,h3,h4,h5⟩:=(show ObjOk P w H h a (.dT kvs)from rd_of ok e)
 refine⟨z,y,xs,r,o,es,ep,h1,h2,h3,h4,fun x hx=>?_,h5⟩
 have all:∀ {l:List (List Key×V)} {m:List (List Key×Addr×Value)},KT H l m->∀x∈m,(tupleKind (mixKind P w)).is h x.1 x.2.1:=by
  intro l m q
  induction q with
  | nil=>intro x hx;exact nomatch hx
  | @cons p q ps qs hq t ih=>
   intro x hx
   rcases List.mem_cons.mp hx with e | hx
   ·subst e
    exact key_of ok (by rw[<-hq.1];exact hq.2.1)
   ·exact ih x hx
 exact all r x hx
theorem dt_of{kvs:List (List Key×V)}(ok:HOk P w H h)(e:H a=some (.dT kvs)):kvs.length<=sizeLine/\(a == sysModules)=false /\
  ∃xs,KT H kvs xs/\h.DictOfH (tupleKind (mixKind P w)) a xs:=dt_rd ok (.inl e)
end
def DGet(H:Hp)(a:Addr)(y:V)(r:Option V):Prop:=
 (∃kvs k,Rd H a (.dK kvs)/\y=kV k/\r=valV kvs k)\/∃kvs k b,Rd H a (.dT kvs)/\y=.ref b/\H b=some (.tup (k.map kV))/\r=valV kvs k
def DPut(H:Hp)(a:Addr)(y v:V)(H':Hp):Prop:=
 (∃kvs k,H a=some (.dK kvs)/\y=kV k/\kvs.length<sizeLine/\H'=upd H a (.dK (putK kvs k v))) \/
 ∃kvs k b,H a=some (.dT kvs)/\y=.ref b/\H b=some (.tup (k.map kV))/\kvs.length<sizeLine/\H'=upd H a (.dT (putK kvs k v))
theorem DGet.k{H:Hp}{a:Addr}{kvs:List (Key×V)}{k:Key}(e:H a=some (.dK kvs)):DGet H a (kV k) (valV kvs k):=.inl ⟨kvs,k,.inl e,rfl,rfl⟩
theorem DGet.t{H:Hp}{a b:Addr}{kvs:List (List Key×V)}{k:List Key}(e:H a=some (.dT kvs))(eb:H b=some (.tup (k.map kV))):DGet H a (.ref b) (valV kvs k):=.inr ⟨kvs,k,b,.inl e,rfl,eb,rfl⟩
theorem DPut.k{H:Hp}{a:Addr}{kvs:List (Key×V)}{k:Key}{v:V}(e:H a=some (.dK kvs))(hl:kvs.length<sizeLine):DPut H a (kV k) v (upd H a (.dK (putK kvs k v))):=.inl ⟨kvs,k,e,rfl,hl,rfl⟩
theorem DPut.t{H:Hp}{a b:Addr}{kvs:List (List Key×V)}{k:List Key}{v:V}(e:H a=some (.dT kvs))(eb:H b=some (.tup (k.map kV)))(hl:kvs.length<sizeLine) :
  DPut H a (.ref b) v (upd H a (.dT (putK kvs k v))):=.inr ⟨kvs,k,b,e,rfl,eb,hl,rfl⟩
section
variable {X:Cx}{pins:List (Addr×Obj)}{σ:St}{H:Hp}{s:Shared}{a:Addr}{y v:V}{u r:Value}{o:Option V}{A:Around}{E:Value->Shared->Prop}
theorem Inv.big(I:Inv X pins σ H s):sysModules<s.heap.objs.size:=by
 have h:mainGlobals<s.heap.objs.size:=(I.mod.glob.keeps I.bk).lt
 exact Nat.lt_trans (by decide) h
theorem d_getItem{Q:Value->Shared->Prop}(hu:A.units+1<cLine)(I:Inv X pins σ H s)(g:DGet H a y (some v))(ry:RelV y u)(h:∀w' s',Inv X pins σ H s'->RelV v w'->Q w' s') :
  wpAny (model X.prog X.w) A (getItem (.ref a) u) Q E s:=by
 rcases g with ⟨kvs,k,e,ey,l⟩ | ⟨kvs,k,b,e,ey,eb,l⟩
 ·subst ey
  obtain⟨z,hd,vs,rel,dd⟩:=dk_rd I.hok e
  obtain⟨w',hw,rw'⟩:=RelO.some_of (v:=v) (o:=valueAt vs k) (by rw[l];exact rel.val k)
  exact wpAny_getItem_of (kV_is ry) dd.mapOf hw (h w' _ (I.tok _) rw')
 ·subst ey
  cases (show u=Value.ref b from ry)
  obtain⟨z,hd,xs,rel,dd⟩:=dt_rd I.hok e
  obtain⟨w',hw,rw'⟩:=RelO.some_of (v:=v) (o:=(atKey xs k).map (·.2)) (by rw[l];exact rel.val k)
  obtain⟨p,hp,hp2⟩:=Option.map_eq_some_iff.mp hw
  refine wpAny_getItem_heap (tupleKind_room_in1 hu) (key_of I.hok eb) dd hp ?_
  rw[hp2]
  exact h w' _ (I.tok _) rw'
theorem d_in{Q:Value->Shared->Prop}(hu:A.units+1<cLine)(I:Inv X pins σ H s)(g:DGet H a y o)(ry:RelV y u)(h:∀s',Inv X pins σ H s'->Q (.bool o.isSome) s') :
  wpAny (model X.prog X.w) A (compareOp .In u (.ref a)) Q E s:=by
 rcases g with ⟨kvs,k,e,ey,l⟩ | ⟨kvs,k,b,e,ey,eb,l⟩
 ·subst ey
  obtain⟨z,hd,vs,rel,dd⟩:=dk_rd I.hok e
  refine wpAny_in_of (kV_is ry) hd dd.mapOf ?_
  rw[<-(rel.val k).isSome_eq,<-l]
  exact h _ (I.tok _)
 ·subst ey
  cases (show u=Value.ref b from ry)
  obtain⟨z,hd,xs,rel,dd⟩:=dt_rd I.hok e
  refine wpAny_in_heap (tupleKind_room_in1 hu) (key_of I.hok eb) hd dd ?_
  have q:=(rel.val k).isSome_eq
  rw[Option.isSome_map]at q
  rw[<-q,<-l]
  exact h _ (I.tok _)
theorem d_notIn{Q:Value->Shared->Prop}(hu:A.units+1<cLine)(I:Inv X pins σ H s)(g:DGet H a y o)(ry:RelV y u)(h:∀s',Inv X pins σ H s'->Q (.bool (!o.isSome)) s') :
  wpAny (model X.prog X.w) A (compareOp .NotIn u (.ref a)) Q E s:=by
 rcases g with ⟨kvs,k,e,ey,l⟩ | ⟨kvs,k,b,e,ey,eb,l⟩
 ·subst ey
  obtain⟨z,hd,vs,rel,dd⟩:=dk_rd I.hok e
  refine wpAny_notIn_of (kV_is ry) hd dd.mapOf ?_
  rw[<-(rel.val k).isSome_eq,<-l]
  exact h _ (I.tok _)
 ·subst ey
  cases (show u=Value.ref b from ry)
  obtain⟨z,hd,xs,rel,dd⟩:=dt_rd I.hok e
  refine wpAny_notIn_heap (tupleKind_room_in1 hu) (key_of I.hok eb) hd dd ?_
  have q:=(rel.val k).isSome_eq
  rw[Option.isSome_map]at q
  rw[<-q,<-l]
  exact h _ (I.tok _)
theorem d_write{h':Heap}{t':Nat}{ob:HO}(I:Inv X pins σ H s)(mu:Mut (H a))(hs:Heap.SameBut a s.heap h')(he:∃q,h'.get? a=some q)(new:ObjOk X.prog X.w (upd H a ob) h' a ob) :
  Inv X pins σ (upd H a ob) { s with heap:=h',toks:=t' }:=
 I.write (x:=a) (e:=a) mu (.inl rfl) (fun b q hb z=>(hs.2 b hb).trans z) he new
theorem dk_new{P:Program}{w:World}{H':Hp}{h':Heap}{kvs:List (Key×V)}{vs:List (Key×Value)}(z:kvs.length<=sizeLine)(hd:(a == sysModules)=false)(rel:KV kvs vs)(dd:h'.DictOf (mixKind P w) a vs) :
  ObjOk P w H' h' a (.dK kvs):=⟨z,hd,vs,rel,dd⟩
theorem d_setItem{H':Hp}{Q:Unit->Shared->Prop}(hu:A.units+1<cLine)(I:Inv X pins σ H s)(g:DPut H a y v H')(ry:RelV y u)(rv:RelV v r)(h:∀s',Inv X pins σ H' s'->Q () s') :
  wpAny (model X.prog X.w) A (setItem (.ref a) u r) Q E s:=by
 rcases g with ⟨kvs,k,e,ey,l,eH⟩ | ⟨kvs,k,b,e,ey,eb,l,eH⟩
 ·subst ey eH
  obtain⟨z,hd,vs,rel,dd⟩:=dk_of I.hok e
  have hz:vs.length<=sizeLine:=by rw[<-rel.length];exact z
  have hl:(putK kvs k v).length<=sizeLine:=by have:=length_putK kvs k v;omega
  refine wpAny_setItem_pairs (hsz:=hz) (kV_is ry) dd fun h' dd' hs=>h _ ?_
  have he:∃q,h'.get? a=some q:=let⟨q,_,_,hq,_⟩:=dd'; ⟨q,hq⟩
  exact d_write I (by rw[e];exact True.intro) hs he (dk_new hl hd (rel.put k rv) dd')
 ·subst ey eH
  cases (show u=Value.ref b from ry)
  obtain⟨z,hd,xs,rel,dd⟩:=dt_of I.hok e
  have hz:xs.length<=sizeLine:=by rw[<-Paired.length rel];exact z
  have hl:(putK kvs k v).length<=sizeLine:=by have:=length_putK kvs k v;omega
  refine wpAny_setItem_heap (hsz:=hz) (tupleKind_room_in1 hu) (key_of I.hok eb) dd fun h' dd' hs=>h _ ?_
  obtain⟨q,es,ep,hq,h2,h3,h4,_,h5⟩:=dd'
  refine d_write I (by rw[e];exact True.intro) hs ⟨q,hq⟩ ⟨hl,hd,_,(rel.put k eb rv).keeps fun c ys ec=>?_,q,es,ep,hq,h2,h3,h4,h5⟩
  rw[upd_ne (ne_of ec e (fun z=>nomatch z))]
  exact ec
end
section
variable {X:Cx}{pins:List (Addr×Obj)}{σ:St}{H:Hp}{s:Shared}{a:Addr}{kvs:List (Key×V)}{k:Key}{u:Value}{A:Around}{E:Value->Shared->Prop}
end
def NoSl(i:Expr):Prop:=∀ov iv,subscripted i false ov iv=operate [ov,iv] (getItem ov iv)
theorem subD_of{prog:Program}{w:World}{A:Around}{E:Value->Shared->Prop}{s:Shared}{env:Env}{value slice:Expr}{pos:Pos}{T id:String}{Q:Value->Shared->Prop}
  (hl:typeLookup (.type T) "__getitem__" = pure (some (.builtin id))) (hs:NoSl slice)
  (h:wpAny (model prog w) A (eval value env) (fun o s₁=>wpAny (model prog w) A (eval slice env) (fun i s₂=>s₂.TypeIs o T/\wpAny (model prog w) A (getItem o i) Q E s₂) E s₁) E s) :
  wpAny (model prog w) A (eval (.Subscript value slice pos) env) Q E s:=by
 refine Subscript_ (wpAny_mono h (fun o s₁ h₁=>wpAny_mono h₁ (fun i s₂ h₂=>?_) fun _ _ x=>x) fun _ _ x=>x)
 obtain⟨hT,h₂⟩:=h₂
 unfold subscriptTail
 refine wpAny_bind ?_
 rw[getitemInPython_of_ne hT.not_modules]
 refine wpAny_bind (wpAny_specialOf hT hl ?_)
 have fin:wpAny (model prog w) A (subscripted slice false o i) (fun r s₃=>wpAny (model prog w) A (letTemporaryGo value o r >>= fun _=>pure r) Q E s₃) E s₂:=by
  rw[hs o i]
  exact wpAny_operating (wpAny_mono h₂ (fun r s₃ h₃=>wpAny_bind (wpAny_letTemporaryGo (wpAny_pure h₃))) fun _ _ x=>x)
 first
  | exact wpAny_pure (wpAny_bind fin)
  | exact wpAny_bind (wpAny_pure (wpAny_bind fin))
  | exact wpAny_bind fin
theorem dict_typeIs{X:Cx}{pins:List (Addr×Obj)}{σ:St}{H:Hp}{s:Shared}{a:Addr}{y:V}{o:Option V}(I:Inv X pins σ H s)(g:DGet H a y o):s.TypeIs (.ref a) "dict" := by
 rcases g with ⟨kvs,k,e,_,_⟩ | ⟨kvs,k,b,e,_,_,_⟩
 ·obtain⟨_,_,vs,_,dd⟩:=dk_rd I.hok e
  exact dd.typeIs
 ·obtain⟨_,_,xs,_,dd⟩:=dt_rd I.hok e
  exact dd.typeIs
def tDGet(td ty:TE):TE:=fun σ H Q=>td σ H fun x H1=>ty σ H1 fun y H2=>∃a v,x=.ref a/\DGet H2 a y (some v)/\Q v H2
def tDIn(ty td:TE):TE:=fun σ H Q=>ty σ H fun y H1=>td σ H1 fun x H2=>∃a o,x=.ref a/\DGet H2 a y o/\Q (.bl o.isSome) H2
def tDNotIn(ty td:TE):TE:=fun σ H Q=>ty σ H fun y H1=>td σ H1 fun x H2=>∃a o,x=.ref a/\DGet H2 a y o/\Q (.bl (!o.isSome)) H2
def sDPut(td ty tv:TE):TS:=fun D σ H=>tv σ H fun v H1=>td σ H1 fun x H2=>ty σ H2 fun y H3=>∃a H4,x=.ref a/\DPut H3 a y v H4/\D.nx σ H4
def sDAug(td ty tv:TE)(rd:V->V->Hp->VK->Prop):TS:=fun D σ H=>td σ H fun x H1=>ty σ H1 fun y H2=>∃a v,x=.ref a/\DGet H2 a y (some v) /\
 tv σ H2 fun y2 H3=>rd v y2 H3 fun z H4=>∃H5,DPut H4 a y z H5/\D.nx σ H5
def sDDel(td ty:TE):TS:=fun D σ H=>td σ H fun x H1=>ty σ H1 fun y H2=>∃a kvs k,x=.ref a/\H2 a=some (.dK kvs)/\y=kV k/\(valV kvs k).isSome=true/\D.nx σ (upd H2 a (.dK (dropK kvs k)))
section
variable {X:Cx}{o i e value:Expr}{pos pos' tpos:Pos}{td ty tv:TE}
theorem pe_dget(hu:X.A.units+1<cLine)(ho:PE X o td)(hi:PE X i ty)(hs:NoSl i):PE X (.Subscript o i pos) (tDGet td ty):=by
 intro pins s σ H Q I h
 refine subD_of PySem.F.slot_dict_getitem.lookup hs (thn (ho pins s σ H _ I h) fun u s1 ⟨x,H1,I1,rx,q1⟩=>thn (hi pins s1 σ H1 _ I1 q1) fun iv s2 ⟨y,H2,I2,ry,a,v,ex,g,q2⟩=>?_)
 subst ex
 obtain rfl:u=Value.ref a:=rx
 exact⟨dict_typeIs I2 g,d_getItem hu I2 g ry fun w' s3 I3 rw'=>⟨v,H2,I3,rw',q2⟩⟩
theorem pc_din(hu:X.A.units+1<cLine)(hi:PE X i ty)(ho:PE X o td):PC X .In i o (tDIn ty td):=by
 intro pins s σ H Q I h
 refine thn (hi pins s σ H _ I h) fun iv s1 ⟨y,H1,I1,ry,q1⟩=>thn (ho pins s1 σ H1 _ I1 q1) fun u s2 ⟨x,H2,I2,rx,a,ov,ex,g,q2⟩=>?_
 subst ex
 obtain rfl:u=Value.ref a:=rx
 exact d_in hu I2 g ry fun s3 I3=>⟨.bl ov.isSome,H2,I3,rfl,q2⟩
theorem pc_dnotin(hu:X.A.units+1<cLine)(hi:PE X i ty)(ho:PE X o td):PC X .NotIn i o (tDNotIn ty td):=by
 intro pins s σ H Q I h
 refine thn (hi pins s σ H _ I h) fun iv s1 ⟨y,H1,I1,ry,q1⟩=>thn (ho pins s1 σ H1 _ I1 q1) fun u s2 ⟨x,H2,I2,rx,a,ov,ex,g,q2⟩=>?_
 subst ex
 obtain rfl:u=Value.ref a:=rx
 exact d_notIn hu I2 g ry fun s3 I3=>⟨.bl (!ov.isSome),H2,I3,rfl,q2⟩
theorem ps_dput(hu:X.A.units+1<cLine)(ho:PE X o td)(hi:PE X i ty)(hv:PE X value tv)(hs:swapsWith value (some (.Subscript o i pos')) pos.line X.env=pure false) :
  PS X (.Assign [.Subscript o i pos'] value pos) (sDPut td ty tv):=by
 intro pins s σ H D I h
 refine wpAny_Assign_Subscript (thn (hv pins s σ H _ I h) fun r s1 ⟨v,H1,I1,rv,q1⟩=>thn (ho pins s1 σ H1 _ I1 q1) fun u s2 ⟨x,H2,I2,rx,q2⟩=>thn (hi pins s2 σ H2 _ I2 q2) fun iv s3 ⟨y,H3,I3,ry,a,H4,ex,g,q3⟩=>?_) hs
 subst ex
 obtain rfl:u=Value.ref a:=rx
 exact d_setItem hu I3 g ry rv fun s4 I4=>⟨σ,H4,I4,q3⟩
end
theorem dk_empty{P:Program}{w:World}{H:Hp}(h:Heap)(hb:sysModules<h.objs.size):ObjOk P w H (h.push { cls:=.type "dict", data:=.dict #[] }) h.objs.size (.dK []):=
 ⟨Nat.zero_le _,beq_eq_false_iff_ne.mpr (Ne.symm (Nat.ne_of_lt hb)),[],.nil,Heap.DictOf.new h⟩
def tDNewK:TE:=fun _ H Q=>∀p,H p=none->Q (.ref p) (upd H p (.dK []))
def tDNewT:TE:=fun _ H Q=>∀p,H p=none->Q (.ref p) (upd H p (.dT []))
section
variable {X:Cx}{pos:Pos}
theorem pe_dnewK:PE X (.Dict [] [] pos) tDNewK:=fun pins s σ H Q I h=>
 wpAny_Dict_empty ⟨.ref s.heap.objs.size,_,I.laid (a:=s.heap.objs.size) (o:=.dK []) (t':=s.toks) (fun _ _ q=>Heap.get?_push_of_some _ q) (Nat.le_refl _) (dk_empty s.heap I.big),rfl,h _ (I.hok.fresh (Nat.le_refl _))⟩
end
def tPairs:List (TE×TE)->St->Hp->(List (V×V)->Hp->Prop)->Prop
 | [],_,H,Q=>Q [] H
 | (tk,tv)::r,σ,H,Q=>tk σ H fun x H1=>tv σ H1 fun y H2=>tPairs r σ H2 fun ps H3=>Q ((x,y)::ps) H3
abbrev VV:List (V×V)->List (Value×Value)->Prop:=Paired fun p q=>RelV p.1 q.1/\RelV p.2 q.2
def PPs(X:Cx)(pos:Pos)(keys:List (Option Expr))(values:List Expr)(trs:List (TE×TE)):Prop:=
 ∀(pins:List (Addr×Obj)) (s:Shared) (σ:St) (H:Hp) (Q:List (V×V)->Hp->Prop),Inv X pins σ H s->tPairs trs σ H Q ->
  wpAny (model X.prog X.w) X.A (evalPairs (pairTrees keys values X.env pos)) (fun vs s'=>∃ps H',Inv X pins σ H' s'/\VV ps vs/\Q ps H') X.xe s
theorem pps_nil{X:Cx}{pos:Pos}:PPs X pos [] [] []:=fun pins s σ H Q I h=>pairTrees_nil_walk ⟨[],H,I,.nil,h⟩
theorem pps_cons{X:Cx}{pos:Pos}{k v:Expr}{ks:List (Option Expr)}{vs:List Expr}{tk tv:TE}{trs:List (TE×TE)}(hk:PE X k tk)(hv:PE X v tv)(hr:PPs X pos ks vs trs) :
  PPs X pos (some k::ks) (v::vs) ((tk,tv)::trs):=fun pins s σ H Q I h=>
 pairTrees_cons_walk (thn (hk pins s σ H _ I h) fun u s1 ⟨x,H1,I1,rx,q1⟩=>thn (hv pins s1 σ H1 _ I1 q1) fun w2 s2 ⟨y,H2,I2,ry,q2⟩=>
  thn (hr pins s2 σ H2 _ I2 q2) fun ws s3 ⟨ps,H3,I3,rel,q3⟩=>⟨(x,y)::ps,H3,I3,.cons ⟨rx,ry⟩ rel,q3⟩)
def mergeK(kvs more:List (Key×V)):List (Key×V):=more.foldl (fun acc kv=>putK acc kv.1 kv.2) kvs
theorem KV.merge:∀ {more:List (Key×V)} {rs:List (Key×Value)} {kvs:List (Key×V)} {vs:List (Key×Value)},KV more rs->KV kvs vs->KV (mergeK kvs more) (merged vs rs):=by
 intro more rs kvs vs r
 unfold KV at r
 induction r generalizing kvs vs with
 | nil=>intro q;exact q
 | @cons p q ps qs h t ih=>
  intro r0
  have e:KV (putK kvs p.1 p.2) (stored vs q.1 q.2):=by
   have:=r0.put p.1 h.2
   rw[<-h.1];exact this
  exact ih e
theorem length_mergeK:∀(more kvs:List (Key×V)),(mergeK kvs more).length<=kvs.length+more.length
 | [],kvs=>by show kvs.length<=kvs.length+0;omega
 | p::r,kvs=>by
  have h1:=length_mergeK r (putK kvs p.1 p.2)
  have h2:=length_putK kvs p.1 p.2
  show(mergeK (putK kvs p.1 p.2) r).length<=_
  rw[List.length_cons];omega
theorem carries_of{P:Program}{w:World}:∀ {kvs:List (Key×V)} {ws:List (Value×Value)},VV (kvs.map fun kv=>(kV kv.1,kv.2)) ws->∃rs,Carries (mixKind P w) ws rs/\KV kvs rs
 | [],_,r=>by rw[List.map_nil]at r;cases r;exact⟨[],True.intro,.nil⟩
 | p::kvs,_,r=>by
  rw[List.map_cons]at r
  cases r with
  | @cons a b as bs h t=>
   obtain⟨rs,c,q⟩:=carries_of (P:=P) (w:=w) t
   obtain⟨b1,b2⟩:=b
   exact⟨(p.1,b2)::rs,⟨kV_is h.1,rfl,c⟩,.cons ⟨rfl,h.2⟩ q⟩
def tDisp(trs:List (TE×TE)):TE:=fun σ H Q=>∀p,H p=none->tPairs trs σ (upd H p (.dK [])) fun ps H2=>H2 p=some (.dK [])/\∃kvs:List (Key×V),ps=kvs.map (fun kv=>(kV kv.1,kv.2))/\kvs.length<=15/\Q (.ref p) (upd H2 p (.dK (mergeK [] kvs)))
theorem pe_disp{X:Cx}{pos:Pos}{keys:List (Option Expr)}{values:List Expr}{trs:List (TE×TE)}(h:PPs X pos keys values trs)(hall:keys.all (·.isSome)=true)(hl:keys.length=values.length)(h0:keys≠[])
  (h15:keys.length<=15):PE X (.Dict keys values pos) (tDisp trs):=by
 intro pins s σ H Q I q
 have hn:=I.hok.fresh (Nat.le_refl s.heap.objs.size)
 have I1:=I.laid (a:=s.heap.objs.size) (o:=.dK []) (h':=s.heap.push { cls:=.type "dict", data:=.dict #[] }) (t':=s.toks) (fun _ _ q=>Heap.get?_push_of_some _ q) (Nat.le_refl _) (dk_empty s.heap I.big)
 refine wpAny_Dict_walk (knd:=mixKind X.prog X.w) hall hl h0 h15 (thn (h pins _ σ _ _ I1 (q _ hn)) fun ws s2 ⟨ps,H2,I2,rel,e,kvs,ep,lk,q2⟩=>?_)
 subst ep
 obtain⟨rs,c,rk⟩:=carries_of (P:=X.prog) (w:=X.w) rel
 obtain⟨z,hd,vs0,r0,dd⟩:=dk_of I2.hok e
 cases r0
 refine⟨rs,c,dd,fun h' dd' hs=>⟨.ref s.heap.objs.size,_,?_,rfl,q2⟩⟩
 have hz:(mergeK [] kvs).length<=sizeLine:=by
  have h1:=length_mergeK kvs []
  rw[List.length_nil]at h1
  rw[sizeLine_eq];omega
 have he:∃q,h'.get? s.heap.objs.size=some q:=let⟨q,_,_,hq,_⟩:=dd'; ⟨q,hq⟩
 exact d_write I2 (by rw[e];exact True.intro) hs he (dk_new hz hd (rk.merge .nil) dd')
structure M1(X:Cx)(o:Expr)(m:Str)(apos:Pos)(e:Expr)(cpos:Pos):Prop where
 base:attributeBase o m X.env (eval o X.env)=eval o X.env
 few:((backTo cpos (starEach [e] X.env)).all (fun x => !x.1)&&(backToKw cpos (keywordEach [] X.env)).all (fun x=>x.1.isSome)
  && decide (([e]:List Expr).length+([]:List Keyword).length+(if([]:List Keyword).isEmpty then 0 else 1)<30))=true
 line:(apos.endLine == cpos.line)=true
 trees:backTo cpos (starEach [e] X.env)=[(false,eval e X.env)]
structure M2(X:Cx)(o:Expr)(m:Str)(apos:Pos)(e f:Expr)(cpos:Pos):Prop where
 base:attributeBase o m X.env (eval o X.env)=eval o X.env
 few:((backTo cpos (starEach [e,f] X.env)).all (fun x => !x.1)&&(backToKw cpos (keywordEach [] X.env)).all (fun x=>x.1.isSome)
  && decide (([e,f]:List Expr).length+([]:List Keyword).length+(if([]:List Keyword).isEmpty then 0 else 1)<30))=true
 line:(apos.endLine == cpos.line)=true
 trees:backTo cpos (starEach [e,f] X.env)=[(false,eval e X.env),(false,eval f X.env)]
def IsD(H:Hp)(a:Addr):Prop:=(∃kvs,Rd H a (.dK kvs))\/∃kvs,Rd H a (.dT kvs)
section
variable {X:Cx}{pins:List (Addr×Obj)}{σ:St}{H:Hp}{s:Shared}{a:Addr}{y d:V}{u r:Value}{o:Option V}{A:Around}{E:Value->Shared->Prop}
end
def tDGet1(td ty:TE):TE:=fun σ H Q=>td σ H fun x H1=>∃a,x=.ref a/\IsD H1 a/\ty σ H1 fun y H2=>∃o,DGet H2 a y o/\Q (o.getD .non) H2
def tDGet2(td ty tx:TE):TE:=fun σ H Q=>td σ H fun x H1=>∃a,x=.ref a/\IsD H1 a/\ty σ H1 fun y H2=>tx σ H2 fun z H3=>∃o,DGet H3 a y o/\Q (o.getD z) H3
def tDPop1(td ty:TE):TE:=fun σ H Q=>td σ H fun x H1=>∃a,x=.ref a/\IsD H1 a/\ty σ H1 fun y H2=>∃kvs k v,H2 a=some (.dK kvs)/\y=kV k/\valV kvs k=some v/\Q v (upd H2 a (.dK (dropK kvs k)))
def tDPop2(td ty tx:TE):TE:=fun σ H Q=>td σ H fun x H1=>∃a,x=.ref a/\IsD H1 a/\ty σ H1 fun y H2=>tx σ H2 fun z H3=>∃kvs k,H3 a=some (.dK kvs)/\y=kV k /\
 (∀v,valV kvs k=some v->Q v (upd H3 a (.dK (dropK kvs k))))/\(valV kvs k=none->Q z H3)
section
variable {X:Cx}{o e f:Expr}{apos cpos:Pos}{td ty tx:TE}
end
section
variable {X:Cx}{pins:List (Addr×Obj)}{σ:St}{H:Hp}{s:Shared}{a:Addr}{kvs:List (Key×V)}{A:Around}{E:Value->Shared->Prop}
end
section
variable {X:Cx}{pins:List (Addr×Obj)}{σ:St}{H:Hp}{s:Shared}{a:Addr}{y:V}{u:Value}{A:Around}{E:Value->Shared->Prop}
end
end L2
namespace HT
open PySem PyProof.Rows
def lexLt:List Int->List Int->Bool
 | [],[]=>false
 | [],_::_=>true
 | _::_,[]=>false
 | x::xs,y::ys=>if x=y then lexLt xs ys else decide (x<y)
section
open PySem.SeqAt
open PySem.AutoSeq1 (wpAny_loadPart')
open PySem.MeetsSeq PySem.MeetsSeq2 PySem.MeetsSeq3
end
section
variable {prog:Program}{w:World}{A:Around}{E:Value->Shared->Prop}{s:Shared}
theorem cat_tup{t b:Addr}{vs ws:List Value}{Q:Value->Shared->Prop}(ht:IsTup s.heap t vs.toArray)(hb:IsTup s.heap b ws.toArray)(hv:vs≠[])
  (h1:ws=[]->Q (.ref t) s) (h2:ws≠[]->Q (.ref s.heap.objs.size) { s with heap:=s.heap.push { cls:=.type "tuple", data:=.seq (vs++ws).toArray } })
  (hsz:vs.length+ws.length<=sizeLine):wpAny (model prog w) A (binaryOp .Add (.ref t) (.ref b)) Q E s:=by
 obtain⟨⟨cls,dd,data,sl⟩,ho,hc,n,hd⟩:=id ht
 obtain⟨⟨cls2,dd2,data2,sl2⟩,ho2,hc2,n2,hd2⟩:=id hb
 simp only at hc hd hc2 hd2
 subst hc hd hc2 hd2
 have e:vs.toArray++ws.toArray=(vs++ws).toArray:=by simp
 by_cases hw:ws=[]
 ·exact concat_meets ⟨_,ho,rfl⟩ ⟨_,ho2,rfl⟩ noFill_tuple_add seq_tuple_add PySem.F.slot_tuple_add PySem.F.entry_tuple_add (PySem.F.args_tuple_add_2 _ _)
   (tuple_addW1 t b vs.toArray ws.toArray n n2 dd dd2 sl sl2 (by simpa using hv) (by simp[hw])) ⟨ho,ho2,h1 hw⟩
 ·refine concat_meets ⟨_,ho,rfl⟩ ⟨_,ho2,rfl⟩ noFill_tuple_add seq_tuple_add PySem.F.slot_tuple_add PySem.F.entry_tuple_add (PySem.F.args_tuple_add_2 _ _)
   (tuple_addW2 t b vs.toArray ws.toArray n n2 dd dd2 sl sl2 (by simpa using hv) (by simpa using hw) (by rw[List.size_toArray,List.size_toArray];exact hsz)) ⟨ho,ho2,?_⟩
  rw[e]
  exact h2 hw
def sIx(n d:Nat):Option Int->Nat
 | none=>d
 | some v=>if v<0 then (v+(n:Int)).toNat else min v.toNat n
theorem sIx_nat(n d k:Nat):sIx n d (some (k:Int))=min k n:=by
 show(if(k:Int)<0 then ((k:Int)+(n:Int)).toNat else min (k:Int).toNat n)=min k n
 rw[if_neg (by omega),Int.toNat_natCast]
theorem sIx_le(n d:Nat)(hd:d<=n)(o:Option Int):sIx n d o<=n:=by
 cases o with
 | none=>exact hd
 | some v=>
  show(if v<0 then (v+(n:Int)).toNat else min v.toNat n)<=n
  by_cases hv:v<0
  ·rw[if_pos hv];omega
  ·rw[if_neg hv];exact Nat.min_le_right _ _
theorem clip_eq(v:Int)(n d:Nat):(if v<0 then max (v+(n:Int)) 0 else min v (n:Int))=((sIx n d (some v):Nat):Int):=by
 show(if v<0 then max (v+(n:Int)) 0 else min v (n:Int))=(((if v<0 then (v+(n:Int)).toNat else min v.toNat n):Nat):Int)
 by_cases hv:v<0
 ·simp only[if_pos hv];omega
 ·simp only[if_neg hv];omega
theorem adjust_gen(lo hi:Option Int)(n:Nat):Builtin.Slice.sliceAdjust lo hi 1 (n:Int)=(((sIx n 0 lo:Nat):Int),((sIx n n hi:Nat):Int)):=by
 have h1:¬((1:Int)<0):=by omega
 unfold Builtin.Slice.sliceAdjust
 simp only[h1,if_false]
 refine Prod.ext ?_ ?_
 ·cases lo with
  | none=>rfl
  | some v=>exact clip_eq v n 0
 ·cases hi with
  | none=>rfl
  | some v=>exact clip_eq v n n
theorem places_gen(i j:Nat):Builtin.Slice.slicePlaces (i:Int) (j:Int) 1=j - i:=by
 unfold Builtin.Slice.slicePlaces
 have h1:(1:Int) > 0:=by omega
 simp only[h1,if_true,Int.ediv_one]
 split <;> omega
theorem slicePart_{v:Value}{o:Option Int}{Q:Option Int->Shared->Prop}(p:IsPart v o)(h:Q o s):wpAny (model prog w) A (Builtin.Slice.slicePartIndex v) Q E s:=by
 cases p with
 | none=>exact slicePart_none h
 | int i t=>exact slicePart_int h
theorem sliceApplied_gen{sl:Addr}{vl vu:Value}{lo hi:Option Int}{n:Nat}{Q:Int×Int×Nat->Shared->Prop}(hs:s.heap.IsSliceOf sl vl vu .none)(pl:IsPart vl lo)(pu:IsPart vu hi)
  (h:Q (((sIx n 0 lo:Nat):Int),1,sIx n n hi - sIx n 0 lo) s):wpAny (model prog w) A (Builtin.Slice.sliceApplied (.ref sl) (pure (n:Int))) Q E s:=by
 obtain⟨os,hos,hcs,hds⟩:=id hs
 unfold Builtin.Slice.sliceApplied Builtin.Slice.sliceFields
 refine wpAny_bind (wpAny_bind (wpAny_field hos hds (x:=vl) rfl (wpAny_bind (wpAny_field hos hds (x:=vu) rfl (wpAny_bind (wpAny_field hos hds (x:=.none) rfl (wpAny_pure ?_)))))))
 refine wpAny_bind (slicePart_none ?_)
 show wpAny _ _ (if((1:Int) == 0)=true then _ else _) _ _ s
 rw[if_neg (by decide)]
 refine wpAny_bind (slicePart_ pl (wpAny_bind (slicePart_ pu (wpAny_bind (wpAny_pure ?_)))))
 show wpAny _ _ (match Builtin.Slice.sliceAdjust lo hi 1 (n:Int)with | (lo,hi)=>pure (lo,(1:Int),Builtin.Slice.slicePlaces lo hi 1)) _ _ s
 rw[adjust_gen lo hi n]
 show wpAny _ _ (pure (((sIx n 0 lo:Nat):Int),(1:Int),Builtin.Slice.slicePlaces ((sIx n 0 lo:Nat):Int) ((sIx n n hi:Nat):Int) 1)) _ _ s
 rw[places_gen]
 exact wpAny_pure h
theorem pick_gen(xs:Array Value)(i k:Nat):((List.range k).filterMap fun(m:Nat)=>xs[((i:Int)+(m:Int) * 1).toNat]?).toArray=((xs.toList.drop i).take k).toArray:=by
 have e:(fun(m:Nat)=>xs[((i:Int)+(m:Int) * 1).toNat]?)=fun m=>xs[i+m]?:=by
  funext m
  have:((i:Int)+(m:Int) * 1).toNat=i+m:=by omega
  rw[this]
 rw[e]
 have:=pick_run xs i k
 rw[List.filterMap_map]at this
 have e2:((fun x=>xs[x]?) ∘ fun x=>i+x)=fun m=>xs[i+m]?:=rfl
 rw[e2]at this
 rw[this]
theorem getItem_tuple_cut{t sl:Addr}{items:Array Value}{vl vu:Value}{lo hi:Option Int}{Q:Value->Shared->Prop}(ht:IsTup s.heap t items)(hs:s.heap.IsSliceOf sl vl vu .none)(pl:IsPart vl lo)(pu:IsPart vu hi)
  (hw:¬(sIx items.size 0 lo=0/\sIx items.size items.size hi=items.size))
  (h:Q (.ref s.heap.objs.size) { s with heap:=s.heap.push { cls:=.type "tuple", data:=.seq ((items.toList.drop (sIx items.size 0 lo)).take (sIx items.size items.size hi - sIx items.size 0 lo)).toArray } })
  (hsz:items.size<=sizeLine):wpAny (model prog w) A (getItem (.ref t) (.ref sl)) Q E s:=by
 have htake:sizeOk (.seq ((items.toList.drop (sIx items.size 0 lo)).take (sIx items.size items.size hi - sIx items.size 0 lo)).toArray):=by
  show((items.toList.drop (sIx items.size 0 lo)).take (sIx items.size items.size hi - sIx items.size 0 lo)).toArray.size<=sizeLine
  rw[List.size_toArray,List.length_take,List.length_drop,Array.length_toList]
  omega
 have hj:sIx items.size items.size hi<=items.size:=sIx_le _ _ (Nat.le_refl _) hi
 obtain⟨os,hos,hcs,hds⟩:=id hs
 have hTs:s.TypeIs (.ref sl) "slice" := ⟨os,hos,hcs⟩
 unfold getItem
 try with_reducible refine wpAny_holding ?_
 first | refine wpAny_bind (wpAny_pure ?_) | skip
 refine wpAny_bind (wpAny_sequenceKey ht.typeIs (by decide) ?_)
 refine wpAny_bind (wpAny_callSpecial?_slot (name:=Str.ofString "__getitem__") ht.typeIs PyProof.Rows.slot_tuple_getitem
  (wpAny_call_entry PyProof.Rows.slot_tuple_getitem ht.typeIs entry_tuple_getitem ?_ (args_tuple_getitem _ _)))
 show wpAny _ _ (Builtin.Tuple.tupleItemsOf (.ref t) >>= _) _ _ s
 refine wpAny_bind (tupleItemsOf_ ht ?_)
 refine wpAny_bind (wpAny_typeOf hTs ?_)
 rw[if_pos (by decide)]
 refine wpAny_bind (sliceApplied_gen hs pl pu ?_)
 have hno:¬((((sIx items.size 0 lo:Nat):Int) == 0&&(1:Int) == 1&&(sIx items.size items.size hi - sIx items.size 0 lo) == items.size)=true):=by
  intro q
  rw[Bool.and_eq_true,Bool.and_eq_true]at q
  have q1:((sIx items.size 0 lo:Nat):Int)=0:=eq_of_beq q.1.1
  have q2:sIx items.size items.size hi - sIx items.size 0 lo=items.size:=eq_of_beq q.2
  exact hw ⟨by omega,by omega⟩
 show wpAny _ _ (if(((sIx items.size 0 lo:Nat):Int) == 0&&(1:Int) == 1&&(sIx items.size items.size hi - sIx items.size 0 lo) == items.size)=true then _ else _) _ _ s
 rw[if_neg hno,pick_gen]
 first
  | exact wpAny_bind (m:=Builtin.Tuple.tupleExact _) (wpAny_newObj_type (wpAny_pure ⟨_,rfl,wpAny_pure h⟩) htake)
  | exact wpAny_bind (m:=Builtin.Tuple.tupleExact _) (wpAny_newObj_type (wpAny_bind (wpAny_pure (wpAny_pure ⟨_,rfl,wpAny_pure h⟩))) htake)
  | exact wpAny_bind (wpAny_bind (m:=Builtin.Tuple.tupleExact _) (wpAny_newObj_type (wpAny_pure (wpAny_pure ⟨_,rfl,wpAny_pure h⟩)) htake))
  | exact wpAny_bind (wpAny_bind (m:=Builtin.Tuple.tupleExact _) (wpAny_newObj_type (wpAny_pure ⟨_,rfl,wpAny_pure h⟩) htake))
end
end HT
namespace L2
open PySem PySem.Spec PyProof.Rows
abbrev TO:=St->Hp->(Option Int->Hp->Prop)->Prop
def PO(X:Cx)(e:Option Expr)(t:TO):Prop:=
 ∀(pins:List (Addr×Obj)) (s:Shared) (σ:St) (H:Hp) (Q:Option Int->Hp->Prop),Inv X pins σ H s->t σ H Q ->
  wpAny (model X.prog X.w) X.A (evalPart e X.env) (fun u s'=>∃o H',Inv X pins σ H' s'/\IsPart u o/\Q o H') X.xe s
def tNoPart:TO:=fun _ H Q=>Q none H
def tPart(t:TE):TO:=fun σ H Q=>t σ H fun x H1=>∃i,x=.int i/\Q (some i) H1
section
variable {X:Cx}{e:Expr}{te:TE}{lo hi:Option Expr}{tl th:TO}{pos p2:Pos}
theorem po_none:PO X none tNoPart:=by
 intro pins s σ H Q I h
 rw[evalPart_none]
 exact wpAny_pure ⟨none,H,I,.none,h⟩
theorem po_some(h:PE X e te):PO X (some e) (tPart te):=by
 intro pins s σ H Q I hw
 rw[evalPart_some]
 refine thn (h pins s σ H _ I hw) fun u s1 ⟨x,H1,I1,r1,q1⟩=>?_
 obtain⟨i,rfl,q⟩:=q1
 obtain⟨t,rfl⟩:=r1
 exact⟨some i,H1,I1,.int i t,q⟩
def SlR(X:Cx)(r:V->Option Int->Option Int->Hp->VK->Prop):Prop:=
 ∀(pins:List (Addr×Obj)) (s:Shared) (σ:St) (H:Hp) (x:V) (v vl vu:Value) (lo hi:Option Int) (sl:Addr) (Q:VK),Inv X pins σ H s->RelV x v->s.heap.IsSliceOf sl vl vu .none->IsPart vl lo->IsPart vu hi->r x lo hi H Q ->
  ∃T id,typeLookup (.type T) "__getitem__" = pure (some (.builtin id))/\s.TypeIs v T/\wpAny (model X.prog X.w) X.A (getItem v (.ref sl)) (EP X pins σ Q) X.xe s
theorem SlR.or{r r':V->Option Int->Option Int->Hp->VK->Prop}(h:SlR X r)(h':SlR X r'):SlR X (fun x lo hi H Q=>r x lo hi H Q\/r' x lo hi H Q):=by
 intro pins s σ H x v vl vu lo hi sl Q I rx hs pl pu q
 rcases q with q | q
 ·exact h pins s σ H x v vl vu lo hi sl Q I rx hs pl pu q
 ·exact h' pins s σ H x v vl vu lo hi sl Q I rx hs pl pu q
def tSl(r:V->Option Int->Option Int->Hp->VK->Prop)(te:TE)(tl th:TO):TE:=fun σ H Q=>te σ H fun x H1=>tl σ H1 fun l H2=>th σ H2 fun u H3=>r x l u H3 Q
theorem pe_slice{r:V->Option Int->Option Int->Hp->VK->Prop}(hr:SlR X r)(he:PE X e te)(hl:PO X lo tl)(hu:PO X hi th):PE X (.Subscript e (.Slice lo hi none p2) pos) (tSl r te tl th):=by
 intro pins s σ H Q I h
 refine Subscript_ (thn (he pins s σ H _ I h) fun v s1 ⟨x,H1,I1,r1,q1⟩=>?_)
 refine wpAny_Slice (thn (hl pins s1 σ H1 _ I1 q1) fun vl s2 ⟨l,H2,I2,pl,q2⟩=>thn (hu pins s2 σ H2 _ I2 q2) fun vu s3 ⟨u,H3,I3,pu,q3⟩=>?_)
 rw[evalPart_none]
 refine wpAny_pure ?_
 have I4:Inv X pins σ H3 { s3 with heap:=s3.heap.push { cls:=.type "slice", data:=.fields #[vl,vu,.none] } }:=I3.kept (t':=s3.toks) fun b ob q=>Heap.get?_push_of_some _ q
 obtain⟨T,id,hT,ht,hg⟩:=hr pins { s3 with heap:=s3.heap.push { cls:=.type "slice", data:=.fields #[vl,vu,.none] } } σ H3 x v vl vu l u s3.heap.objs.size Q I4 r1 (Heap.IsSliceOf.new ..) pl pu q3
 show wpAny (model X.prog X.w) X.A (subscriptTail e (.Slice lo hi none p2) v (.ref s3.heap.objs.size)) (EP X pins σ Q) X.xe { s3 with heap:=s3.heap.push { cls:=.type "slice", data:=.fields #[vl,vu,.none] } }
 exact tail_any (ops:=[.ref s3.heap.objs.size,v]) ht hT hg (by with_unfolding_all rfl)
def cutV(xs:List V)(lo hi:Option Int):List V:=(xs.drop (HT.sIx xs.length 0 lo)).take (HT.sIx xs.length xs.length hi - HT.sIx xs.length 0 lo)
theorem cutV_length(xs:List V)(lo hi:Option Int):(cutV xs lo hi).length<=xs.length:=by
 unfold cutV
 rw[List.length_take,List.length_drop]
 omega
def rSlT(K:Fg):V->Option Int->Option Int->Hp->VK->Prop:=fun x lo hi H Q=>∃a xs,x=.ref a/\SqT K H a xs /\
 ¬(HT.sIx xs.length 0 lo=0/\HT.sIx xs.length xs.length hi=xs.length)/\∀p,H p=none->Q (.ref p) (upd H p (.tup (cutV xs lo hi)))
theorem sl_tup:SlR X (rSlT X.K):=by
 intro pins s σ H x v vl vu lo hi sl Q I rx hs pl pu h
 obtain⟨a,xs,rfl,hx,hw,q⟩:=h
 cases rx
 obtain⟨its,r,ht,hz⟩:=I.tuple hx
 have hlen:its.toArray.size=xs.length:=by rw[List.size_toArray];exact r.length.symm
 refine⟨"tuple", _,PyProof.Rows.slot_tuple_getitem.lookup,ht.typeIs,?_⟩
 refine HT.getItem_tuple_cut ht hs pl pu (by rw[hlen];exact hw) ?_ (by rw[hlen];exact hz)
 rw[hlen]
 refine⟨.ref s.heap.objs.size,_,I.laid (t':=s.toks) (o:=.tup (cutV xs lo hi)) (fun b ob q=>Heap.get?_push_of_some _ q) (Nat.le_refl _) ?_,rfl,q _ (I.hok.fresh (Nat.le_refl _))⟩
 exact⟨Nat.le_trans (cutV_length xs lo hi) hz,_,(r.drop (HT.sIx xs.length 0 lo)).take (HT.sIx xs.length xs.length hi - HT.sIx xs.length 0 lo),IsTup.new _ _⟩
def rLtT(K:Fg):R2:=fun x y H Q=>∃a b ns ms,x=.ref a/\y=.ref b/\SqT K H a (ns.map V.int)/\SqT K H b (ms.map V.int)/\Q (.bl (HT.lexLt ns ms)) H
def rCatT(K:Fg):R2:=fun x y H Q=>∃a b xs ys,x=.ref a/\y=.ref b/\SqT K H a xs/\SqT K H b ys/\xs≠[]/\xs.length+ys.length<=sizeLine /\
 (ys=[]->Q (.ref a) H)/\(ys≠[]->∀p,H p=none->Q (.ref p) (upd H p (.tup (xs++ys))))
theorem Vals.nil_iff{xs:List V}{us:List Value}(r:Vals xs us):us=[]↔xs=[]:=by
 cases r with
 | nil=>simp
 | cons _ _=>simp
theorem op_catT:OpR X (binaryOp .Add) (rCatT X.K):=by
 intro pins s σ H x y v u Q I rx ry h
 obtain⟨a,b,xs,ys,rfl,rfl,ha,hb,hx,hz,q1,q2⟩:=h
 cases rx
 cases ry
 obtain⟨its,r1,p1,_⟩:=I.tuple ha
 obtain⟨its2,r2,p2,_⟩:=I.tuple hb
 refine HT.cat_tup p1 p2 (fun z=>hx (r1.nil_iff.mp z)) (fun z=>⟨.ref a,H,I,rfl,q1 (r2.nil_iff.mp z)⟩) (fun z=>?_) (by rw[<-r1.length,<-r2.length];exact hz)
 refine⟨.ref s.heap.objs.size,_,I.laid (t':=s.toks) (o:=.tup (xs++ys)) (fun b ob q=>Heap.get?_push_of_some _ q) (Nat.le_refl _) ?_,rfl,q2 (fun w=>z (r2.nil_iff.mpr w)) _ (I.hok.fresh (Nat.le_refl _))⟩
 exact⟨by rw[List.length_append];exact hz,_,r1.append r2,IsTup.new _ _⟩
end
end L2
namespace L2
open PySem PySem.Spec PyProof.Rows
def ixN(n:Nat)(i:Int):Option Nat:=if 0<=i then (if i<n then some i.toNat else none)else if -(n:Int)<=i then some (i+n).toNat else none
def atI{α:Type}(xs:List α)(i:Int):Option α:=(ixN xs.length i).bind fun j=>xs[j]?
theorem ixN_seq{n:Nat}{i:Int}{j:Nat}(h:ixN n i=some j):seqIndex? i n=some j/\j<n /\ -(n:Int)<=i/\i<n:=by
 unfold ixN at h
 by_cases h0:0<=i
 ·rw[if_pos h0]at h
  by_cases h1:i<n
  ·rw[if_pos h1]at h
   have e:i.toNat=j:=Option.some.inj h
   exact⟨by rw[seqIndex_of h0 h1,e],by omega,by omega,h1⟩
  ·rw[if_neg h1]at h;cases h
 ·rw[if_neg h0]at h
  by_cases h1 : -(n:Int)<=i
  ·rw[if_pos h1]at h
   have e:(i+n).toNat=j:=Option.some.inj h
   exact⟨by rw[seqIndex_neg (by omega) h1,e],by omega,h1,by omega⟩
  ·rw[if_neg h1]at h;cases h
theorem atI_get{α:Type}{xs:List α}{i:Int}{v:α}(h:atI xs i=some v):∃j,seqIndex? i xs.length=some j/\xs[j]? = some v/\j<xs.length /\ -(xs.length:Int)<=i/\i<xs.length:=by
 unfold atI at h
 cases e:ixN xs.length i with
 | none=>rw[e]at h;cases h
 | some j=>
  rw[e]at h
  obtain⟨h1,h2,h3,h4⟩:=ixN_seq e
  exact⟨j,h1,h,h2,h3,h4⟩
theorem atI_nat{α:Type}{xs:List α}{j:Nat}{v:α}(h:xs[j]? = some v):atI xs (j:Int)=some v:=by
 have hj:j<xs.length:=(List.getElem?_eq_some_iff.mp h).1
 have e:ixN xs.length (j:Int)=some j:=by
  unfold ixN
  rw[if_pos (by omega),if_pos (by omega)];simp
 unfold atI;rw[e];exact h
theorem atI_last{α:Type}(xs:List α)(v:α):atI (xs++[v]) (-1)=some v:=by
 have hl:(xs++[v]).length=xs.length+1:=by simp
 have e:ixN (xs++[v]).length (-1)=some xs.length:=by
  unfold ixN
  rw[hl,if_neg (by decide),if_pos (by omega)]
  congr 1
  omega
 unfold atI
 rw[e]
 show(xs++[v])[xs.length]? = some v
 simp
def PlainIx(b:Expr):Prop:=∀o i,subscripted b false o i=operate [o,i] (getItem o i)
def IxR(X:Cx)(r:R2):Prop:=
 ∀(value slice:Expr) (pins:List (Addr×Obj)) (s:Shared) (σ:St) (H:Hp) (x y:V) (v u:Value) (Q:VK),Inv X pins σ H s->RelV x v->RelV y u->r x y H Q ->
  subscripted slice false v u=operate [v,u] (getItem v u)->wpAny (model X.prog X.w) X.A (subscriptTail value slice v u) (EP X pins σ Q) X.xe s
def MtR(X:Cx)(id:String)(r:V->List V->Hp->VK->Prop):Prop:=
 ∀(pins:List (Addr×Obj)) (s:Shared) (σ:St) (H:Hp) (x:V) (xs:List V) (v:Value) (us:List Value) (Q:VK),Inv X pins σ H s->RelV x v->Vals xs us->r x xs H Q ->
  wpAny (model X.prog X.w) X.A (call (.builtin id) (v::us)) (EP X pins σ Q) X.xe s
section
variable {X:Cx}{a b:Expr}{ta tb:TE}{pos:Pos}
theorem IxR.or{r r':R2}(h:IxR X r)(h':IxR X r'):IxR X (fun x y H Q=>r x y H Q\/r' x y H Q):=by
 intro value slice pins s σ H x y v u Q I rx ry q hs
 rcases q with q | q
 ·exact h value slice pins s σ H x y v u Q I rx ry q hs
 ·exact h' value slice pins s σ H x y v u Q I rx ry q hs
theorem MtR.or{id:String}{r r':V->List V->Hp->VK->Prop}(h:MtR X id r)(h':MtR X id r'):MtR X id (fun x xs H Q=>r x xs H Q\/r' x xs H Q):=by
 intro pins s σ H x xs v us Q I rx rs q
 rcases q with q | q
 ·exact h pins s σ H x xs v us Q I rx rs q
 ·exact h' pins s σ H x xs v us Q I rx rs q
theorem pe_ix{r:R2}(hr:IxR X r)(ha:PE X a ta)(hb:PE X b tb)(hs:PlainIx b):PE X (.Subscript a b pos) (tOp r ta tb):=by
 intro pins s σ H Q I h
 exact Subscript_ (binT ha hb I h fun v u s2 x y H2 I2 rx ry q=>hr a b pins s2 σ H2 x y v u Q I2 rx ry q (hs _ _))
def rIxL(K:Fg):R2:=fun x y H Q=>∃p xs i v,x=.ref p/\y=.int i/\SqL K H p xs/\atI xs i=some v/\Q v H
def rIxT(K:Fg):R2:=fun x y H Q=>∃p xs i v,x=.ref p/\y=.int i/\SqT K H p xs/\atI xs i=some v/\Q v H
def rIxS:R2:=fun x y H Q=>∃z i c,x=.str z/\y=.int i/\z.length<=sizeLine/\atI z.cps.toList i=some c/\Q (.str ⟨#[c]⟩) H
theorem ix_list:IxR X (rIxL X.K):=by
 intro value slice pins s σ H x y v u Q I rx ry h hs
 obtain⟨p,xs,i,z,rfl,rfl,hq,he,q⟩:=h
 cases rx
 obtain⟨t,rfl⟩:=ry
 obtain⟨its,r,pl,hz⟩:=I.list hq
 obtain⟨j,h1,h2,h3,h4,h5⟩:=atI_get he
 obtain⟨w,ew,rw'⟩:=r.get h2
 have hl:=r.length
 have hn:=line63
 have fin:EP X pins σ Q w s:=⟨z,H,I,rw',q⟩
 by_cases h0:0<=i
 ·have hj:i.toNat=j:=by
   rw[seqIndex_of h0 h5]at h1
   exact Option.some.inj h1
  exact item_listR pl.isList h0 (by omega) (by rw[hj];simpa using ew) fin hs
 ·have hj:(i+(its.toArray.size:Int)).toNat=j:=by
   rw[seqIndex_neg (by omega) h4]at h1
   rw[List.size_toArray,<-hl]
   exact Option.some.inj h1
  exact subscriptTail_builtinR (x:=w) pl.isList.typeIs slot_list_getitem.lookup
   (wpAny_getItem_list_neg (Q:=fun r s'=>r=w/\EP X pins σ Q r s') pl.isList (by omega) (by rw[List.size_toArray] <;> omega) (by omega) (by rw[hj];simpa using ew) ⟨rfl,fin⟩) hs
theorem ix_tup:IxR X (rIxT X.K):=by
 intro value slice pins s σ H x y v u Q I rx ry h hs
 obtain⟨p,xs,i,z,rfl,rfl,hq,he,q⟩:=h
 cases rx
 obtain⟨t,rfl⟩:=ry
 obtain⟨its,r,pl,hz⟩:=I.tuple hq
 obtain⟨j,h1,h2,h3,h4,h5⟩:=atI_get he
 obtain⟨w,ew,rw'⟩:=r.get h2
 have hl:=r.length
 have hn:=line63
 have fin:EP X pins σ Q w s:=⟨z,H,I,rw',q⟩
 exact subscriptTail_builtinR (x:=w) pl.typeIs slot_tuple_getitem.lookup
  (getItem_tuple (j:=j) (Q:=fun r s'=>r=w/\EP X pins σ Q r s') pl (by omega) (by omega) (by rw[List.size_toArray,<-hl];exact h1) (by simpa using ew) ⟨rfl,fin⟩) hs
theorem ix_str:IxR X rIxS:=by
 intro value slice pins s σ H x y v u Q I rx ry h hs
 obtain⟨z,i,c,rfl,rfl,hz,he,q⟩:=h
 obtain⟨t,rfl⟩:=rx
 obtain⟨t',rfl⟩:=ry
 obtain⟨j,h1,h2,h3,h4,h5⟩:=atI_get he
 have hl:z.cps.toList.length=z.length:=by simp[Str.length]
 rw[hl]at h1 h4 h5
 have hn:=line63
 exact tail_any (typeIs_str s z t) slot_str_getitem.lookup (getItem_str (c:=c) (by
  have e1:decide (i < -(2 ^ 63:Int))=false:=decide_eq_false (by omega)
  have e2:decide (i ≥ 2 ^ 63)=false:=decide_eq_false (by omega)
  rw[e1,e2,Bool.or_false]) (by rw[h1];simpa using h2) ⟨.str ⟨#[c]⟩,H,I.tok _,⟨_,rfl⟩,q⟩) hs
def rIx(K:Fg):R2:=fun x y H Q=>rIxL K x y H Q\/rIxT K x y H Q\/rIxS x y H Q
theorem ix_seq:IxR X (rIx X.K):=ix_list.or (ix_tup.or ix_str)
theorem mapSeq_set(its:List Value)(n j:Nat)(u:Value):Obj.mapSeq (·.setIfInBounds j u) { cls:=.type "list", data:=.seq its.toArray n }={ cls:=.type "list", data:=.seq (its.set j u).toArray n }:=by
 simp[Obj.mapSeq]
theorem Inv.lst{pins:List (Addr×Obj)}{σ:St}{H:Hp}{s:Shared}{p:Addr}{xs:List V}(I:Inv X pins σ H s)(h:H p=some (.lst xs)) :
  ∃(its:List Value) (n:Nat),Vals xs its/\s.heap.get? p=some { cls:=.type "list", data:=.seq its.toArray n }/\xs.length<=sizeLine:=by
 obtain⟨z,its,n,r,e⟩:=I.hok p _ h
 exact⟨its,n,r,e,z⟩
theorem Inv.lstUpd{pins:List (Addr×Obj)}{σ:St}{H:Hp}{s:Shared}{p:Addr}{xs ys:List V}{its its':List Value}{n n':Nat}{f:Obj->Obj}(I:Inv X pins σ H s)(h:H p=some (.lst xs))
  (ho:s.heap.get? p=some { cls:=.type "list", data:=.seq its.toArray n }) (hf:f { cls:=.type "list", data:=.seq its.toArray n }={ cls:=.type "list", data:=.seq its'.toArray n' }) (r:Vals ys its') (hz:ys.length<=sizeLine) (t:Nat) :
  Inv X pins σ (upd H p (.lst ys)) { s with heap:=s.heap.update p f,toks:=t }:=by
 have e:(s.heap.update p f).get? p=some { cls:=.type "list", data:=.seq its'.toArray n' }:=by
  rw[Heap.get?_update_self f ho (by rw[hf] <;> rfl),hf]
 refine I.write (x:=p) (e:=p) (by rw[h];trivial) (.inl rfl) (fun b u hb q=>(Heap.get?_update_other _ _ (Ne.symm hb)).trans q) ⟨_,e⟩ ?_
 exact⟨hz,its',n',r,e⟩
def rSetL:V->V->V->Hp->(Hp->Prop)->Prop:=fun o i v H Q=>∃p xs k j,o=.ref p/\i=.int k/\H p=some (.lst xs)/\ixN xs.length k=some j/\Q (upd H p (.lst (xs.set j v)))
theorem set_list:PSet X rSetL:=by
 intro pins s σ H o i v ov iv u Q I ro ri rv h
 obtain⟨p,xs,k,j,rfl,rfl,hp,hj,q⟩:=h
 cases ro
 obtain⟨t,rfl⟩:=ri
 obtain⟨its,n,r,ho,hz⟩:=I.lst hp
 obtain⟨h1,h2,h3,h4⟩:=ixN_seq hj
 have hl:=r.length
 have hn:=line63
 have I':Inv X pins σ (upd H p (.lst (xs.set j v))) { s with heap:=s.heap.update p (Obj.mapSeq (·.setIfInBounds j u)) }:=
  I.lstUpd hp ho (mapSeq_set its n j u) (r.set rv j) (by rw[List.length_set];exact hz) s.toks
 by_cases h0:0<=k
 ·have hk:k.toNat=j:=by
   rw[seqIndex_of h0 h4]at h1
   exact Option.some.inj h1
  exact PySem.W.ki_setAt ho h0 (by omega) (by rw[List.size_toArray,<-hl];exact h4) (by rw[hk];exact⟨_,I',q⟩)
 ·have hk:(k+(its.toArray.size:Int)).toNat=j:=by
   rw[seqIndex_neg (by omega) h3]at h1
   rw[List.size_toArray,<-hl]
   exact Option.some.inj h1
  exact PySem.W.ki_setBack ho (by omega) (by rw[List.size_toArray,<-hl];exact h3) (by omega) (by rw[hk];exact⟨_,I',q⟩)
theorem slice_bounds(lo hi:Option Int)(n:Nat):(sliceBounds lo hi none n).1=((HT.sIx n 0 lo:Nat):Int)/\(sliceBounds lo hi none n).2.1=((HT.sIx n n hi:Nat):Int)/\(sliceBounds lo hi none n).2.2=1:=by
 refine⟨?_,?_,rfl⟩
 ·cases lo with
  | none=>simp[sliceBounds,HT.sIx]
  | some i=>
   simp only[sliceBounds,HT.sIx,Option.getD_none,show(1:Int) > 0 by decide,if_true]
   by_cases h:i<0
   ·simp only[h,if_true] <;> omega
   ·simp only[h,if_false] <;> omega
 ·cases hi with
  | none=>simp[sliceBounds,HT.sIx]
  | some i=>
   simp only[sliceBounds,HT.sIx,Option.getD_none,show(1:Int) > 0 by decide,if_true]
   by_cases h:i<0
   ·simp only[h,if_true] <;> omega
   ·simp only[h,if_false] <;> omega
theorem slicePick_cut(its:List Value)(lo hi:Option Int):slicePick its.toArray lo hi none=((its.drop (HT.sIx its.length 0 lo)).take (HT.sIx its.length its.length hi - HT.sIx its.length 0 lo)).toArray:=by
 obtain⟨h1,h2,h3⟩:=slice_bounds lo hi its.toArray.size
 unfold slicePick
 rw[h1,h2,h3]
 simp only[sliceRange_one,pick_run,List.size_toArray] <;> rfl
def rSlL(K:Fg):V->Option Int->Option Int->Hp->VK->Prop:=fun x lo hi H Q=>∃a xs,x=.ref a/\SqL K H a xs/\∀p,H p=none->Q (.ref p) (upd H p (.lst (cutV xs lo hi)))
theorem sl_list:SlR X (rSlL X.K):=by
 intro pins s σ H x v vl vu lo hi sl Q I rx hs pl pu h
 obtain⟨a,xs,rfl,hx,q⟩:=h
 cases rx
 obtain⟨its,r,ht,hz⟩:=I.list hx
 have hlen:=r.length
 refine⟨"list", _,slot_list_getitem.lookup,ht.isList.typeIs,?_⟩
 refine wpAny_getItem_list_slice ht.isList hs pl pu .none (by simp) ?_ (by rw[List.size_toArray] <;> omega)
 rw[slicePick_cut,<-hlen]
 refine⟨.ref s.heap.objs.size,_,I.laid (t':=s.toks) (o:=.lst (cutV xs lo hi)) (fun b ob q=>Heap.get?_push_of_some _ q) (Nat.le_refl _) ?_,rfl,q _ (I.hok.fresh (Nat.le_refl _))⟩
 exact⟨Nat.le_trans (cutV_length xs lo hi) hz,_,0,(r.drop (HT.sIx xs.length 0 lo)).take (HT.sIx xs.length xs.length hi - HT.sIx xs.length 0 lo),Heap.get?_push_size _ rfl⟩
def flatV:V->Bool
 | .non=>true
 | .bl _=>true
 | .int _=>true
 | .str _=>true
 | _=>false
def eqV:V->V->Bool
 | .non,.non=>true
 | .bl a,.bl b=>a == b
 | .bl a,.int b=>(if a then 1 else 0) == b
 | .int a,.bl b=>a == (if b then 1 else 0)
 | .int a,.int b=>a == b
 | .str a,.str b=>a == b
 | _,_=>false
theorem eqAt_V{A:Around}{s:Shared}{y x:V}{u v:Value}(ry:RelV y u)(rx:RelV x v)(fy:flatV y=true)(fx:flatV x=true):SeqAt.EqAt A s u v (eqV y x):=by
 cases y with
 | non=>
  cases ry
  cases x with
  | non=>cases rx;exact SeqAt.EqAt.same _
  | bl b=>cases rx;exact SeqAt.EqAt.none_bool b
  | int b=>obtain⟨t,rfl⟩:=rx;exact SeqAt.EqAt.none_int b t
  | str b=>obtain⟨t,rfl⟩:=rx;exact SeqAt.EqAt.none_str b t
  | _=>exact absurd (show false=true from fx) Bool.false_ne_true
 | bl a=>
  cases ry
  cases x with
  | non=>cases rx;exact SeqAt.EqAt.bool_none a
  | bl b=>cases rx;exact SeqAt.EqAt.bool_bool a b
  | int b=>obtain⟨t,rfl⟩:=rx;exact SeqAt.EqAt.bool_int a b t
  | str b=>obtain⟨t,rfl⟩:=rx;exact SeqAt.EqAt.bool_str a b t
  | _=>exact absurd (show false=true from fx) Bool.false_ne_true
 | int a=>
  obtain⟨t',rfl⟩:=ry
  cases x with
  | non=>cases rx;exact SeqAt.EqAt.int_none a t'
  | bl b=>cases rx;exact SeqAt.EqAt.int_bool a t' b
  | int b=>obtain⟨t,rfl⟩:=rx;exact SeqAt.EqAt.int_int a t' b t
  | str b=>obtain⟨t,rfl⟩:=rx;exact SeqAt.EqAt.int_str a t' b t
  | _=>exact absurd (show false=true from fx) Bool.false_ne_true
 | str a=>
  obtain⟨t',rfl⟩:=ry
  cases x with
  | non=>cases rx;exact SeqAt.EqAt.str_none a t'
  | bl b=>cases rx;exact SeqAt.EqAt.str_bool a t' b
  | int b=>obtain⟨t,rfl⟩:=rx;exact SeqAt.EqAt.str_int a t' b t
  | str b=>obtain⟨t,rfl⟩:=rx;exact SeqAt.EqAt.str_str a t' b t
  | _=>exact absurd (show false=true from fx) Bool.false_ne_true
 | _=>exact absurd (show false=true from fy) Bool.false_ne_true
def eqU(x:V)(u:Value):Bool:=match u with
 | .none=>eqV .non x
 | .bool b=>eqV (.bl b) x
 | .int i _=>eqV (.int i) x
 | .str z _=>eqV (.str z) x
 | _=>false
theorem eqU_of{x y:V}{u:Value}(r:RelV y u)(f:flatV y=true):eqU x u=eqV y x:=by
 cases y with
 | non=>cases r;rfl
 | bl b=>cases r;rfl
 | int i=>obtain⟨t,rfl⟩:=r;rfl
 | str z=>obtain⟨t,rfl⟩:=r;rfl
 | _=>exact absurd (show false=true from f) Bool.false_ne_true
theorem any_eqU{x:V}:∀ {xs:List V} {us:List Value},Vals xs us->xs.all flatV=true->us.any (eqU x)=xs.any fun y=>eqV y x
 | _,_,.nil,_=>rfl
 | y::xs,u::us,.cons r t,f=>by
  rw[List.all_cons,Bool.and_eq_true]at f
  rw[List.any_cons,List.any_cons,eqU_of r f.1,any_eqU t f.2]
theorem mem_eqAt{A:Around}{s:Shared}{x:V}{v:Value}(rx:RelV x v)(fx:flatV x=true):∀ {xs:List V} {us:List Value},Vals xs us->xs.all flatV=true->∀u∈us,SeqAt.EqAt A s u v (eqU x u)
 | _,_,.nil,_=>fun u hu=>by cases hu
 | y::xs,u::us,.cons r t,f=>fun u' hu=>by
  rw[List.all_cons,Bool.and_eq_true]at f
  rcases List.mem_cons.mp hu with rfl | hu
  ·rw[eqU_of r f.1];exact eqAt_V r rx f.1 fx
  ·exact mem_eqAt rx fx t f.2 u' hu
def inV(x:V)(xs:List V):Bool:=xs.any fun y=>eqV y x
def rIn(K:Fg)(neg:Bool):R2:=fun x y H Q=>∃p xs,y=.ref p/\(SqL K H p xs\/SqT K H p xs)/\flatV x=true/\xs.all flatV=true/\Q (.bl (if neg then !inV x xs else inV x xs)) H
theorem op_in_seq:OpR X (compareOp .In) (rIn X.K false):=by
 intro pins s σ H x y v u Q I rx ry h
 obtain⟨p,xs,rfl,hq,fx,fs,q⟩:=h
 cases ry
 rcases hq with hq | hq
 ·obtain⟨its,r,pl,hz⟩:=I.list hq
  refine SeqAt.in_listAt (eqU x) pl.isList (fun w hw=>mem_eqAt rx fx r fs w (by simpa using hw)) ⟨.bl _,H,I,rfl,?_⟩
  rw[show its.toArray.any (eqU x)=its.any (eqU x) by simp,any_eqU r fs]
  exact q
 ·obtain⟨its,r,pl,hz⟩:=I.tuple hq
  refine SeqAt.in_tupleAt (eqU x) pl (fun w hw=>mem_eqAt rx fx r fs w (by simpa using hw)) ⟨.bl _,H,I,rfl,?_⟩
  rw[show its.toArray.any (eqU x)=its.any (eqU x) by simp,any_eqU r fs]
  exact q
theorem op_notIn_seq:OpR X (compareOp .NotIn) (rIn X.K true):=by
 intro pins s σ H x y v u Q I rx ry h
 obtain⟨p,xs,rfl,hq,fx,fs,q⟩:=h
 cases ry
 rcases hq with hq | hq
 ·obtain⟨its,r,pl,hz⟩:=I.list hq
  refine SeqAt.notIn_listAt (eqU x) pl.isList (fun w hw=>mem_eqAt rx fx r fs w (by simpa using hw)) ⟨.bl _,H,I,rfl,?_⟩
  rw[show its.toArray.any (eqU x)=its.any (eqU x) by simp,any_eqU r fs]
  exact q
 ·obtain⟨its,r,pl,hz⟩:=I.tuple hq
  refine SeqAt.notIn_tupleAt (eqU x) pl (fun w hw=>mem_eqAt rx fx r fs w (by simpa using hw)) ⟨.bl _,H,I,rfl,?_⟩
  rw[show its.toArray.any (eqU x)=its.any (eqU x) by simp,any_eqU r fs]
  exact q
theorem op_notIn_str:OpR X (compareOp .NotIn) (fun x y H Q=>∃i j,x=.str i/\y=.str j/\Q (.bl (!(!(Builtin.Str.occurrences j i 0 j.length 1).isEmpty))) H):=by
 intro pins s σ H x y v u Q I rx ry h
 obtain⟨i,j,rfl,rfl,q⟩:=h
 obtain⟨t,rfl⟩:=rx
 obtain⟨t',rfl⟩:=ry
 exact notIn_str ⟨.bl _,H,I,rfl,q⟩
theorem call_len_seq:CallR X (.builtin "len") (fun xs H Q=>∃p ys,xs=[.ref p]/\(SqL X.K H p ys\/SqT X.K H p ys)/\Q (.int ys.length) H):=by
 intro pins s σ H xs us Q I r h
 obtain⟨p,ys,rfl,hq,q⟩:=h
 obtain⟨u,rfl,rx⟩:=vals1 r
 cases rx
 have hn:=line63
 rcases hq with hq | hq
 ·obtain⟨its,r',pl,hz⟩:=I.list hq
  have hlen:=r'.length
  exact Calls.call_len_list pl.isList (by simp only[List.size_toArray] <;> omega) ⟨.int ys.length,H,I.tok _,⟨s.toks+1,by rw[List.size_toArray,hlen]⟩,q⟩
 ·obtain⟨its,r',pl,hz⟩:=I.tuple hq
  have hlen:=r'.length
  exact len_tuple pl (by simp only[List.size_toArray] <;> omega) ⟨.int ys.length,H,I.tok _,⟨s.toks+1,by rw[List.size_toArray,hlen]⟩,q⟩
theorem call_len_str:CallR X (.builtin "len") (fun xs H Q=>∃z,xs=[.str z]/\z.length<=sizeLine/\Q (.int z.length) H):=by
 intro pins s σ H xs us Q I r h
 obtain⟨z,rfl,hz,q⟩:=h
 obtain⟨u,rfl,t,rfl⟩:=vals1 r
 have hn:=line63
 exact len_str (by omega) ⟨.int z.length,H,I.tok _,⟨_,rfl⟩,q⟩
theorem CallR.or{f:Value}{r r':List V->Hp->VK->Prop}(h:CallR X f r)(h':CallR X f r'):CallR X f (fun xs H Q=>r xs H Q\/r' xs H Q):=by
 intro pins s σ H xs us Q I rs q
 rcases q with q | q
 ·exact h pins s σ H xs us Q I rs q
 ·exact h' pins s σ H xs us Q I rs q
theorem call_list_of:CallR X (.type "list") (fun xs H Q=>∃p ys,xs=[.ref p]/\(SqL X.K H p ys\/SqT X.K H p ys)/\∀l,H l=none->Q (.ref l) (upd H l (.lst ys))):=by
 intro pins s σ H xs us Q I r h
 obtain⟨p,ys,rfl,hq,q⟩:=h
 obtain⟨u,rfl,rx⟩:=vals1 r
 cases rx
 have fin:∀(its:List Value),Vals ys its->ys.length<=sizeLine->∀(h':Heap) (c':Nat),(∀b o',s.heap.get? b=some o'->h'.get? b=some o') ->
   h'.get? s.heap.objs.size=some { cls:=.type "list", dict:=none,data:=.seq its.toArray c',slots := #[] }->EP X pins σ Q (.ref s.heap.objs.size) { s with heap:=h' }:=fun its r' hz h' c' kp e=>
  ⟨.ref s.heap.objs.size,_,I.laid (t':=s.toks) kp (Nat.le_refl _) (show ObjOk X.prog X.w _ h' _ (.lst ys)from⟨hz,its,c',r',e⟩),rfl,q _ (I.hok.fresh (Nat.le_refl _))⟩
 rcases hq with hq | hq
 ·obtain⟨its,r',pl,hz⟩:=I.list hq
  have hlen:=r'.length
  obtain⟨o,ho,hc,n,hd⟩:=pl.isList
  exact call_list_seq p (.inl rfl) ho hc hd (fun h' c' kp e=>fin its r' hz h' c' kp e) (by simp only[List.size_toArray] <;> omega)
 ·obtain⟨its,r',pl,hz⟩:=I.tuple hq
  have hlen:=r'.length
  obtain⟨o,ho,hc,n,hd⟩:=pl
  exact call_list_seq p (.inr rfl) ho hc hd (fun h' c' kp e=>fin its r' hz h' c' kp e) (by simp only[List.size_toArray] <;> omega)
theorem call_tuple_of:CallR X (.type "tuple") (fun xs H Q=>∃p ys,xs=[.ref p]/\((SqL X.K H p ys/\∀l,H l=none->Q (.ref l) (upd H l (.tup ys)))\/(SqT X.K H p ys/\Q (.ref p) H))):=by
 intro pins s σ H xs us Q I r h
 obtain⟨p,ys,rfl,h⟩:=h
 obtain⟨u,rfl,rx⟩:=vals1 r
 cases rx
 rcases h with ⟨hq,q⟩ | ⟨hq,q⟩
 ·obtain⟨its,r',pl,hz⟩:=I.list hq
  have hlen:=r'.length
  refine call_tuple_list pl.isList (fun h' kp=>?_) (by simp only[List.size_toArray] <;> omega)
  have I1:Inv X pins σ H { s with heap:=h' }:=I.kept (t':=s.toks) kp
  have I2:Inv X pins σ (upd H h'.objs.size (.tup ys)) { s with heap:=h'.push { cls:=.type "tuple", data:=.seq its.toArray } }:=
   I1.laid (t':=s.toks) (fun b o e=>Heap.get?_push_of_some _ e) (Nat.le_refl _) (show ObjOk X.prog X.w _ _ _ (.tup ys)from⟨hz,its,r',IsTup.new _ _⟩)
  exact⟨.ref h'.objs.size,_,I2,rfl,q _ (I1.hok.fresh (Nat.le_refl _))⟩
 ·obtain⟨its,r',pl,hz⟩:=I.tuple hq
  exact call_tuple_same pl ⟨.ref p,H,I,rfl,q⟩
def tyV(K:Fg)(T:String)(x:V)(H:Hp):Prop:=match x with
 | .str _=>T = "str"
 | .int _=>T = "int"
 | .ref p=>(T = "list" /\ ∃xs,SqL K H p xs)\/(T = "tuple" /\ ∃o,K.lookup p=some o/\o.cls=.type "tuple" /\ o.dict=none) \/
   (T = "dict" /\ ((∃kvs,H p=some (.dK kvs))\/∃kvs,H p=some (.dT kvs)))\/(T = "set" /\ ∃S n,H p=some (.set S n))
 | _=>False
theorem tyV_is{pins:List (Addr×Obj)}{σ:St}{H:Hp}{s:Shared}{T:String}{x:V}{v:Value}(I:Inv X pins σ H s)(r:RelV x v)(ty:tyV X.K T x H) :
  s.TypeIs v T/\∀a,v=.ref a->∃ob,s.heap.get? a=some ob/\ob.dict=none:=by
 cases x with
 | str z=>
  obtain⟨t,rfl⟩:=r
  cases (show T = "str" from ty)
  exact⟨typeIs_str s z t,fun _ e=>nomatch e⟩
 | int i=>
  obtain⟨t,rfl⟩:=r
  cases (show T = "int" from ty)
  exact⟨typeIs_int s i t,fun _ e=>nomatch e⟩
 | ref p=>
  cases r
  rcases ty with ⟨rfl,xs,hq⟩ | ⟨rfl,o,hk,hc,hd⟩ | ⟨rfl,hk⟩ | ⟨rfl,S,n,hk⟩
  ·obtain⟨its,_,pl,_⟩:=I.list hq
   refine⟨pl.isList.typeIs,fun a e=>?_⟩
   cases e
   obtain⟨o,n,e,c,hd,_⟩:=pl
   exact⟨o,e,hd⟩
  ·refine⟨⟨o,I.kIn p o hk,hc⟩,fun a e=>?_⟩
   cases e
   exact⟨o,I.kIn _ o hk,hd⟩
  ·have z:∃o,s.heap.get? p=some o/\o.ExactDict:=by
    rcases hk with ⟨kvs,hk⟩ | ⟨kvs,hk⟩
    ·obtain⟨_,_,_,_,o,_,_,e,ex,_⟩:=I.hok p _ hk
     exact⟨o,e,ex⟩
    ·obtain⟨_,_,_,_,o,_,_,e,ex,_⟩:=I.hok p _ hk
     exact⟨o,e,ex⟩
   obtain⟨o,e,ex⟩:=z
   refine⟨⟨o,e,ex.1⟩,fun a e2=>?_⟩
   cases e2
   exact⟨o,e,ex.2.1⟩
  ·obtain⟨o,_,_,_,e,ex,_⟩:=I.hok p _ hk
   refine⟨⟨o,e,ex.1⟩,fun a e2=>?_⟩
   cases e2
   exact⟨o,e,ex.2.1⟩
 | _=>exact False.elim ty
def tBM0(K:Fg)(T:String)(r:V->List V->Hp->VK->Prop)(to:TE):TE:=fun σ H Q=>to σ H fun x H1=>tyV K T x H1/\r x [] H1 Q
def tBM(K:Fg)(T:String)(r:V->List V->Hp->VK->Prop)(to:TE)(t:TA):TE:=fun σ H Q=>to σ H fun x H1=>tyV K T x H1/\t σ H1 fun xs H2=>r x xs H2 Q
variable {o e:Expr}{es:List Expr}{to:TE}{t:TA}{name:Str}{apos cpos:Pos}{T id:String}{r:V->List V->Hp->VK->Prop}
theorem pe_bm0(pa:PlainAttrs T)(slot:Slot T name id)(hty:typeOf (.builtin id)=pure (.type "method_descriptor"))(hm:MtR X id r)(ho:PE X o to)
  (hbase:attributeBase o name X.env (eval o X.env)=eval o X.env:=by rfl) (hline:(apos.endLine == cpos.line)=true:=by rfl):PE X (.Call (.Attribute o name apos) [] [] cpos) (tBM0 X.K T r to):=by
 intro pins s σ H Q I h
 refine wpAny_Call_method0_late hbase hline (thn (ho pins s σ H _ I h) fun v s1 ⟨x,H1,I1,r1,ty,q1⟩=>?_)
 obtain⟨h1,h2⟩:=tyV_is I1 r1 ty
 exact⟨T,id,pa,slot,hty,h1,h2,Calls.callWith_builtin rfl (PySem.evalArgs_none (hm pins s1 σ H1 x [] v [] Q I1 r1 .nil q1))⟩
theorem pe_bm(pa:PlainAttrs T)(slot:Slot T name id)(hty:typeOf (.builtin id)=pure (.type "method_descriptor"))(hm:MtR X id r)(ho:PE X o to)(ha:PA X (e::es) t)
  (hbase:attributeBase o name X.env (eval o X.env)=eval o X.env:=by rfl)
  (hfew:((backTo cpos (starEach (e::es) X.env)).all (fun x => !x.1)&&(backToKw cpos (keywordEach [] X.env)).all (fun x=>x.1.isSome)
   && decide ((e::es).length+([]:List Keyword).length+(if([]:List Keyword).isEmpty then 0 else 1)<30))=true:=by rfl)
  (hline:(apos.endLine == cpos.line)=true:=by rfl) (hs:starEach (e::es) X.env=(false,eval e X.env)::starEach es X.env:=by rfl) (hplain:(backTo cpos (starEach es X.env)).any (·.1)=false:=by rfl) :
  PE X (.Call (.Attribute o name apos) (e::es) [] cpos) (tBM X.K T r to t):=by
 intro pins s σ H Q I h
 refine wpAny_Call_method_late hbase hfew hline rfl (thn (ho pins s σ H _ I h) fun v s1 ⟨x,H1,I1,r1,ty,q1⟩=>?_)
 obtain⟨h1,h2⟩:=tyV_is I1 r1 ty
 refine⟨T,id,pa,slot,hty,h1,h2,?_⟩
 have hA:=ha cpos pins s1 σ H1 _ I1 q1
 rw[hs]at hA ⊢
 refine Calls.callWith_builtin (by show(false||(backTo cpos (starEach es X.env)).any (·.1))=false;rw[hplain] <;> rfl) (Calls.evalArgs_plain ?_)
 exact thn hA fun us s2 ⟨vs,H2,I2,r2,q2⟩=>hm pins s2 σ H2 x vs v us Q I2 r1 r2 q2
end
end L2
namespace L2
open PySem PySem.Spec PyProof.Rows
def MtM(X:Cx)(id:String)(r:V->List V->Hp->VK->Prop):Prop:=
 ∀(pins:List (Addr×Obj)) (s:Shared) (σ:St) (H:Hp) (x:V) (xs:List V) (v:Value) (us:List Value) (Q:VK),Inv X pins σ H s->RelV x v->Vals xs us->r x xs H Q ->
  wpAny (model X.prog X.w) X.A (call (.builtin id) (v::us)) (EP X pins σ Q) X.xe s
theorem Vals.one:∀ {x:V} {us:List Value},Vals [x] us->∃u,us=[u]/\RelV x u
 | _,_,.cons r .nil=>⟨_,rfl,r⟩
theorem Vals.two:∀ {x y:V} {us:List Value},Vals [x,y] us->∃u v,us=[u,v]/\RelV x u/\RelV y v
 | _,_,_,.cons r (.cons q .nil)=>⟨_,_,rfl,r,q⟩
theorem Vals.zero:∀ {us:List Value},Vals [] us->us=[]
 | _,.nil=>rfl
theorem Vals.dropLast{xs:List V}{us:List Value}(h:Vals xs us):Vals xs.dropLast us.dropLast:=by
 induction h with
 | nil=>exact .nil
 | cons r t ih=>
  cases t with
  | nil=>exact .nil
  | cons q t'=>exact .cons r ih
theorem Vals.eraseIdx:∀ {xs:List V} {us:List Value} (i:Nat),Vals xs us->Vals (xs.eraseIdx i) (us.eraseIdx i)
 | _,_,_,.nil=>.nil
 | _,_,0,.cons _ t=>t
 | _,_,i+1,.cons r t=>.cons r (Vals.eraseIdx i t)
theorem Vals.reverse{xs:List V}{us:List Value}(h:Vals xs us):Vals xs.reverse us.reverse:=by
 induction h with
 | nil=>exact .nil
 | cons r t ih=>rw[List.reverse_cons,List.reverse_cons];exact Vals.append ih (.cons r .nil)
theorem erase_last{α:Type}(l:List α):l.eraseIdx (l.length - 1)=l.dropLast:=by
 induction l with
 | nil=>rfl
 | cons a r ih=>
  cases r with
  | nil=>rfl
  | cons b r=>
   have e:(a::b::r).length - 1=((b::r).length - 1)+1:=by
    have h1:(a::b::r).length=r.length+2:=rfl
    have h2:(b::r).length=r.length+1:=rfl
    omega
   rw[e,List.eraseIdx_cons_succ,ih]
   all_goals rfl
section
variable {X:Cx}{pins:List (Addr×Obj)}{σ:St}{H:Hp}{s:Shared}{l b:Addr}{xs ys zs:List V}
theorem Inv.lset{its its':List Value}{n:Nat}{f:Array Value->Array Value}{t':Nat}(I:Inv X pins σ H s)(hH:H l=some (.lst xs))
  (e:s.heap.get? l=some { cls:=.type "list", data:=.seq its.toArray n }) (hf:f its.toArray=its'.toArray) (hv:Vals ys its') (hz:ys.length<=sizeLine) :
  Inv X pins σ (upd H l (.lst ys)) { s with heap:=s.heap.update l (Obj.mapSeq f),toks:=t' }:=by
 have q:=PySem.IsL.update e f
 rw[hf]at q
 refine I.write (x:=l) (e:=l) (by rw[hH];exact trivial) (.inl rfl) (fun b' u hb hu=>(Heap.get?_update_other s.heap (Obj.mapSeq f) (Ne.symm hb)).trans hu) ⟨_,q⟩ ?_
 exact⟨hz,its',_,hv,q⟩
theorem Inv.lnew{its:List Value}{t':Nat}(I:Inv X pins σ H s)(hv:Vals ys its)(hz:ys.length<=sizeLine) :
  Inv X pins σ (upd H s.heap.objs.size (.lst ys)) { s with heap:=s.heap.push { cls:=.type "list", data:=.seq its.toArray },toks:=t' }:=
 I.laid (fun _ _ q=>Heap.get?_push_of_some _ q) (Nat.le_refl _) ⟨hz,its,0,hv,Heap.get?_push_size _ rfl⟩
theorem Inv.fresh(I:Inv X pins σ H s):H s.heap.objs.size=none:=I.hok.fresh (Nat.le_refl _)
theorem Inv.lstM(I:Inv X pins σ H s)(hH:H l=some (.lst xs)):xs.length<=sizeLine/\∃(its:List Value) (n:Nat),Vals xs its/\xs.length=its.length/\s.heap.get? l=some { cls:=.type "list", data:=.seq its.toArray n }:=by
 obtain⟨z,its,n,r,e⟩:=I.hok l _ hH
 exact⟨z,its,n,r,r.length,e⟩
theorem notLongL{n:Nat}(h:n<=sizeLine):Builtin.List.listTooLong n=false:=by
 unfold Builtin.List.listTooLong
 exact decide_eq_false (by omega)
end
section
variable {X:Cx}
def rAppend:V->List V->Hp->VK->Prop:=fun x vs H Q=>∃l xs y,x=.ref l/\vs=[y]/\H l=some (.lst xs)/\xs.length<sizeLine/\Q .non (upd H l (.lst (xs++[y])))
theorem mt_append:MtM X "list.append" rAppend:=by
 intro pins s σ H x vs v us Q I rx rv h
 obtain⟨l,xs,y,rfl,rfl,hH,hz,q⟩:=h
 cases rx
 obtain⟨u,rfl,ru⟩:=rv.one
 obtain⟨z,its,n,r,hl,e⟩:=I.lstM hH
 refine call_meets F.slot_list_append ⟨_,e,rfl⟩ F.entry_list_append (F.args_list_append_2 _ _) (PySem.list_append l its.toArray n u (by rw[List.size_toArray];omega)) ⟨e,?_⟩
 refine⟨.non,_,I.lset (its':=its++[u]) hH e (by simp) (r.append (.cons ru .nil)) ?_,rfl,q⟩
 rw[List.length_append,List.length_singleton]
 omega
def rExtend:V->List V->Hp->VK->Prop:=fun x vs H Q=>∃l b xs zs,x=.ref l/\vs=[.ref b]/\H l=some (.lst xs)/\H b=some (.lst zs)/\xs.length+zs.length<=sizeLine/\Q .non (upd H l (.lst (xs++zs)))
theorem mt_extend:MtM X "list.extend" rExtend:=by
 intro pins s σ H x vs v us Q I rx rv h
 obtain⟨l,b,xs,zs,rfl,rfl,hH,hB,hz,q⟩:=h
 cases rx
 obtain⟨u,rfl,ru⟩:=rv.one
 cases ru
 obtain⟨z,its,n,r,hl,e⟩:=I.lstM hH
 obtain⟨z2,its2,n2,r2,hl2,e2⟩:=I.lstM hB
 have hsz:its.toArray.size+its2.toArray.size<=sizeLine:=by rw[List.size_toArray,List.size_toArray];omega
 have hlong:¬(!its.toArray.isEmpty&&Builtin.List.listTooLong (its.toArray.size+its2.toArray.size))=true:=by
  rw[notLongL hsz,Bool.and_false]
  exact Bool.false_ne_true
 refine call_meets F.slot_list_extend ⟨_,e,rfl⟩ F.entry_list_extend (F.args_list_extend_2 _ _)
  (AutoSeq1.list_extend_list_list_0 l its.toArray n b its2.toArray n2 hlong (by rw[List.size_toArray];omega) (by omega)) ⟨e,e2,?_⟩
 refine⟨.non,_,I.lset (its':=its++its2) hH e (by simp) (r.append r2) ?_,rfl,q⟩
 rw[List.length_append]
 omega
def rPop:V->List V->Hp->VK->Prop:=fun x vs H Q=>∃l xs y,x=.ref l/\vs=[]/\H l=some (.lst xs)/\xs[xs.length - 1]? = some y/\Q y (upd H l (.lst xs.dropLast))
theorem mt_pop:MtM X "list.pop" rPop:=by
 intro pins s σ H x vs v us Q I rx rv h
 obtain⟨l,xs,y,rfl,rfl,hH,hy,q⟩:=h
 cases rx
 have hus:=rv.zero
 subst hus
 obtain⟨z,its,n,r,hl,e⟩:=I.lstM hH
 obtain⟨u,hu,ru⟩:=r.get hy
 have hy':its.toArray[its.toArray.size - 1]? = some u:=by
  show its.toArray[its.length - 1]? = some u
  rw[<-Array.getElem?_toList,<-hl]
  exact hu
 refine call_meets F.slot_list_pop ⟨_,e,rfl⟩ F.entry_list_pop (F.args_list_pop_1 _) (MeetsSeq.list_pop_last l its.toArray n u hy' (by rw[List.size_toArray];omega)) ⟨e,?_⟩
 refine⟨y,_,I.lset (its':=its.dropLast) hH e ?_ r.dropLast ?_,ru,q⟩
 ·show its.toArray.eraseIdxIfInBounds (its.toArray.size - 1)=its.dropLast.toArray
  rw[List.size_toArray,List.eraseIdxIfInBounds_toArray,erase_last]
 ·rw[List.length_dropLast]
  omega
def rPopAt:V->List V->Hp->VK->Prop:=fun x vs H Q=>∃l xs i k y,x=.ref l/\vs=[.int i]/\H l=some (.lst xs) /\ -(2 ^ 63)<=i/\i<2 ^ 63/\seqIndex? i xs.length=some k/\xs[k]? = some y/\Q y (upd H l (.lst (xs.eraseIdx k)))
def rReverse:V->List V->Hp->VK->Prop:=fun x vs H Q=>∃l xs,x=.ref l/\vs=[]/\H l=some (.lst xs)/\Q .non (upd H l (.lst xs.reverse))
def rClear:V->List V->Hp->VK->Prop:=fun x vs H Q=>∃l xs,x=.ref l/\vs=[]/\H l=some (.lst xs)/\Q .non (upd H l (.lst []))
theorem mt_clear:MtM X "list.clear" rClear:=by
 intro pins s σ H x vs v us Q I rx rv h
 obtain⟨l,xs,rfl,rfl,hH,q⟩:=h
 cases rx
 have hus:=rv.zero
 subst hus
 obtain⟨z,its,n,r,hl,e⟩:=I.lstM hH
 refine call_meets F.slot_list_clear ⟨_,e,rfl⟩ F.entry_list_clear (F.args_list_clear_1 _) (AutoSeq1.list_clear_list_0 l its.toArray n (by rw[List.size_toArray];omega)) ⟨e,?_⟩
 exact⟨.non,_,I.lset (its':=[]) (ys:=[]) hH e rfl .nil (Nat.zero_le _),rfl,q⟩
def rCat:R2:=fun x y H Q=>∃l b xs zs,x=.ref l/\y=.ref b/\H l=some (.lst xs)/\H b=some (.lst zs)/\xs.length+zs.length<=sizeLine/\∀p,H p=none->Q (.ref p) (upd H p (.lst (xs++zs)))
theorem op_cat:OpR X (binaryOp .Add) rCat:=by
 intro pins s σ H x y v u Q I rx ry h
 obtain⟨l,b,xs,zs,rfl,rfl,hH,hB,hz,q⟩:=h
 cases rx
 cases ry
 obtain⟨z,its,n,r,hl,e⟩:=I.lstM hH
 obtain⟨z2,its2,n2,r2,hl2,e2⟩:=I.lstM hB
 refine PySem.P.add_list e e2 ?_ (by rw[List.size_toArray,List.size_toArray];omega)
 have ea:its.toArray++its2.toArray=(its++its2).toArray:=by simp
 rw[ea]
 exact⟨.ref _,_,I.lnew (t':=s.toks) (r.append r2) (by rw[List.length_append];omega),rfl,q _ I.fresh⟩
def rRep:R2:=fun x y H Q=>∃l k xs,x=.ref l/\y=.int k/\H l=some (.lst xs) /\ -(2 ^ 63)<=k/\k<2 ^ 63/\xs.length * k.toNat<=sizeLine /\
 ∀p,H p=none->Q (.ref p) (upd H p (.lst (List.replicate k.toNat xs).flatten))
end
section
variable {prog:Program}{w:World}{A:Around}{E:Value->Shared->Prop}{s:Shared}
set_option maxRecDepth 100000 in
end
section
variable {X:Cx}
end
end L2
namespace Att
open PySem PySem.W PySem.Calls PyProof.Rows
theorem ints_of_wellAll{P:Params}{h:Heap}:∀(ns:List Int) (vs:List Value),WellAll P h vs (ns.map WData.int)->IntsAre vs ns:=by
 intro ns
 induction ns with
 | nil=>
  intro vs w
  rw[List.map_nil]at w
  cases w
  exact .nil
 | cons n ns ih=>
  intro vs w
  rw[List.map_cons]at w
  cases w with
  | cons a b=>
   cases a
   exact .cons _ _ (ih _ b)
theorem script_of{l:OpenLaw}{n:Nat}(hn:l.most=some n){P:Params}{h:Heap}{args:List WData}{vals:List Value}
  (hpre:l.row.toRowW.claim.pre args=true) (hwl:WellAll P h vals args) :
  ∃a vs ns,vals=[Value.ref a]/\args=[WData.list (ns.map WData.int)]/\h.get? a=some { cls:=.type "list", data:=.seq vs.toArray }/\IntsAre vs ns/\ns.length<=n:=by
 have hsh:WShape.hasAll [] args [.list .int]=true:=(pre_splitW hpre).1
 have hc:l.pre.holds [] { args:=args }=true:=(pre_splitW hpre).2
 obtain⟨d,r,rfl,h1,h2⟩:=hasAllW_cons hsh
 obtain rfl:=hasAllW_nil h2
 obtain⟨xs,rfl,h3⟩:=hasW_list h1
 obtain⟨ns,rfl⟩:=items_int h3
 have hlen:ns.length<=n:=by
  unfold OpenLaw.pre at hc
  have h4:(WTm.not (.lt (.lit (.int (n:Int))) (.len (.arg 0)))).holds [] { args:=[.list (ns.map .int)] }=true:=by
   have h4:=(holds_andW hc).1
   rw[hn]at h4
   exact h4
  have h5:=condW_of h4 (w_not (w_lt w_lit (w_len_list (w_arg rfl))))
  rw[List.length_map]at h5
  refine Nat.le_of_not_lt fun q=>?_
  have q':(n:Int)<((ns.length:Nat):Int):=by omega
  first
   | (rw[decide_eq_true q']at h5;exact absurd h5 (by decide))
   | (simp at h5;omega)
 cases hwl with
 | cons w1 w2=>
  cases w2
  cases w1 with
  | list ho hall=>exact⟨_,_,ns,rfl,rfl,ho,ints_of_wellAll ns _ hall,hlen⟩
theorem post_true(l:OpenLaw)(args:List WData):l.row.toRowW.claim.post args (.bool true) args=true:=
 postW_of (r:=l.row.toRowW) (X:=(true == true))
  (show WShape.has [] (.bool true) .bool=true by first | rfl | decide | simp[WShape.has,WShape.arms,WShape.armsAll])
  (show(WTm.eq .res (.lit (.bool true))).value [] { args:=args,res:=some (.bool true),after:=args }=some (.bool (true == true))from w_eq_bool (w_res rfl) w_lit) rfl
theorem attach_call{l:OpenLaw}{n:Nat}{q:Program}{loose:List Str}{XP:(Str->Option Value)->Heap->Prop}{YP:World->Heap->Prop}{d:DefRec}
  (hn:l.most=some n) (hdf:d.params.defaults=[])
  (call:∀(w:World) (s₀ s₁:Shared) (mg mb:Str->Option Value) (fa:Addr) (o:Obj) (pm cd doc:Value) (a:Addr) (vs:List Value) (ns:List Int),
   Ground q loose [] XP w s₀ mg mb s₁.heap->YP w s₁.heap ->
   s₁.heap.get? fa=some o->o.data=.func (docDef d.name d.params d.body d.scope pm cd doc)->s₁.heap.CodeRec cd d.name->mg d.name=some (.ref fa) ->
   s₁.heap.get? a=some { cls:=.type "list", data:=.seq vs.toArray }->IntsAre vs ns->ns.length<=n->s₁.gens = #[] ->
   codeAny (model l.prog w) callerA (.call (.ref fa) ⟨[.ref a],[]⟩) (fun r s'=>r=.ok (.ret (.bool true))/\OldK s₁.heap s'.heap/\s'.os=s₁.os/\AllBare s'.gens) s₁) :
  WalkO q loose XP YP l.row.toRowW d [] (fun f vs=>PySem.call f vs):=by
 intro w s₀ s₁ mg mb G Y fa o pm cd doc dV kV ho hd hcd hD hmg hg args vals as hpre hlay hrd hwl hlo
 obtain rfl:dV=.none:=Dflts.none hD hdf
 obtain rfl:kV=.none:=Dflts.noKw hD
 obtain⟨a,vs,ns,rfl,rfl,hobj,hints,hlen⟩:=script_of hn hpre hwl
 refine enter_call (codeAny_mono (call w s₀ s₁ mg mb fa o pm cd doc a vs ns G Y ho (fd_plain hd) hcd hmg hobj hints hlen hg) fun r s' hq=>?_)
 obtain⟨rfl,h2,h3,h4⟩:=hq
 exact⟨.inl ⟨.bool true,.bool true,[],rfl,fun _=>rfl,.bool true,post_true l _,fun _=>⟨List.Pairwise.nil,fun _ hm=>(nomatch hm)⟩⟩,h2,h3,h4⟩
section
variable {prog:Program}{w:World}{A:Around}{E:Value->Shared->Prop}{s:Shared}{K:Frag}
def noObjs(h:Heap):Heap:={ h with objs := #[] }
def ledger(h:Heap)(L d:Addr):List (Addr×Obj):=(List.range h.objs.size).filterMap fun a=>if a=L\/a=d then none else (h.get? a).map fun o=>(a,o)
end
end Att
namespace L2
open PySem PySem.Spec PyProof.Rows
theorem vals_ints:∀ {vs:List Value} {ns:List Int},IntsAre vs ns->Vals (ns.map V.int) vs
 | _,_,.nil=>.nil
 | _,_,.cons n t h=>.cons ⟨t,rfl⟩ (vals_ints h)
def Only(H:Hp):Prop:=∀b,H b=none\/∃o xs,H b=some (.frz o (.lst xs))
theorem law_call{P:Program}{w:World}{K:Fg}{mg mb:Str->Option Value}{CX:CXT}{k:Nat}{fa a:Addr}{fd:FuncData}{x:Str}{sp:Sp}{s₁:Shared}{vs:List Value}{ns:List Int}
  (KX:K.In s₁.heap) (hns:s₁.heap.Ns mainGlobals mg) (hb:s₁.heap.Ns builtinsNs mb) (hbb:∀x:Str,x ≠ "__name__" -> mb x=bootBuiltins x) (hlim:s₁.heap.NoLimit) (hg:s₁.gens = #[])
  (ha:s₁.heap.get? a=some { cls:=.type "list", data:=.seq vs.toArray }) (hi:IntsAre vs ns) (hl:ns.length<=sizeLine) (hr:Room k callerA)
  (F:∀base:Heap,K.In base->base.Ns mainGlobals mg->FnOk P w K mg base CX k fa fd [x] sp) (hbind:∀(s:Shared) (u:Value),BindsTo s fd ⟨[u],[]⟩ [(x,u)])
  (hsp:∀H:Hp,Only H->SqL K H a (ns.map V.int)->sp [.ref a] H (fun v _=>v=.bl true) fun _ _ _=>False)
  (hCX:∀H e s',CX [] H s₁ (fun _ _ _=>False) e s'->False) :
  codeAny (model P w) callerA (.call (.ref fa) ⟨[.ref a],[]⟩) (fun r s'=>r=.ok (.ret (.bool true))/\OldK s₁.heap s'.heap/\s'.os=s₁.os/\AllBare s'.gens) s₁:=by
 have rv:=vals_ints hi
 have lenV:=hi.length
 have core:∀H:Hp,Only H->SqL K H a (ns.map V.int)->HOk P w H s₁.heap->(∀b,H b≠none->b=a)->(H a≠none->K.lookup a=none) ->
   codeAny (model P w) callerA (.call (.ref fa) ⟨[.ref a],[]⟩) (fun r s'=>r=.ok (.ret (.bool true))/\OldK s₁.heap s'.heap/\s'.os=s₁.os/\AllBare s'.gens) s₁:=by
  intro H hO hS hok hA hK
  have base_of:∀ {b:Addr} {o:Obj},s₁.heap.get? b=some o->H b=none->(hidT s₁.heap H).get? b=some o:=fun e n=>hidT_get e n
  have noA:∀ {b:Addr} {o:Obj} {es:Array DictEntry} {ep:Nat},s₁.heap.get? b=some o->o.data=.dict es ep->H b=none:=fun {b o es ep} e d=>by
   cases q:H b with
   | none=>rfl
   | some u=>
    have e':b=a:=hA b (by rw[q];simp)
    subst e'
    rw[ha]at e;cases e
    have d':Data.seq vs.toArray _=Data.dict es ep:=d
    cases d'
  have nsK:∀ {b:Addr} {m:Str->Option Value},s₁.heap.Ns b m->(hidT s₁.heap H).Ns b m:=fun {b m} ⟨o,es,ep,e,d,r⟩=>⟨o,es,ep,base_of e (noA e d),d,r⟩
  have hKb:K.In (hidT s₁.heap H):=fun b o e=>base_of (KX b o e) (by
   cases q:H b with
   | none=>rfl
   | some u=>
    have e':b=a:=hA b (by rw[q];simp)
    subst e'
    rw[hK (by rw[q];simp)]at e;cases e)
  have hM:Mod K mg (hidT s₁.heap H):=⟨hKb,nsK hns,⟨mb,nsK hb,hbb⟩,let⟨mc,h1,h2⟩:=hlim; ⟨mc,nsK h1,h2⟩⟩
  have e0:Env0 P w K mg (hidT s₁.heap H) callerA [] s₁ H:=⟨rfl,hM,fun b o e=>of_hidT e,Nat.le_of_eq (hidT_size _ _),trivial,fun b hb=>absurd (show b∈([]:List Addr)from hb) (by simp),hok,.of_eq hg⟩
  refine codeAny_mono ((F _ hKb (nsK hns)).run callerA [] s₁ H ⟨[.ref a],[]⟩ [.ref a] [.ref a] _ _ hr e0 (hbind s₁ (.ref a)) (.cons rfl .nil) (hsp H hO hS)) fun r s' h=>?_
  cases r with
  | error e=>exact(hCX H e s' h).elim
  | ok fl=>
   cases fl with
   | next=>exact False.elim h
   | brk=>exact False.elim h
   | cont=>exact False.elim h
   | ret u=>
    obtain⟨v,H',os,bare,un,hok',r',q⟩:=h
    have q':v=.bl true:=q
    subst q'
    obtain rfl:u=Value.bool true:=r'
    refine⟨rfl,OldK.of_keep fun b o e=>?_,os,bare⟩
    cases q:H b with
    | none=>exact un.keep b o e q (by intro z;exact absurd (show b∈([]:List Addr)from z) (by simp)) (by simp)
    | some u=>
     rcases hO b with z | ⟨ob,xs,z⟩
     ·rw[q]at z;cases z
     ·have z2:=un.frzs b ob _ z
      obtain⟨e1,_⟩:=hok b _ z
      obtain⟨e2,_⟩:=hok' b _ z2
      rw[e]at e1;cases e1
      exact e2
 cases hk:K.lookup a with
 | some o=>
  have e:=KX a o hk
  rw[ha]at e
  cases e
  refine core (fun _=>none) (fun _=>.inl rfl) (.inr ⟨_,vs.toArray,_,hk,rfl,rfl,rfl,by rw[List.size_toArray,lenV];exact hl,by simpa using rv⟩) (fun b u z=>by have z':(none:Option HO)=some u:=z;cases z') (fun b z=>absurd rfl z) fun z=>absurd rfl z
 | none=>
  refine core (fun b=>if b=a then some (.frz { cls:=.type "list", data:=.seq vs.toArray } (.lst (ns.map V.int)))else none) (fun b=>?_) (.inl (.inr ⟨{ cls:=.type "list", data:=.seq vs.toArray },if_pos rfl⟩)) (fun b u z=>?_) (fun b z=>?_) fun _=>hk
  ·by_cases hb:b=a
   ·exact .inr ⟨_,_,if_pos hb⟩
   ·exact .inl (if_neg hb)
  ·by_cases hb:b=a
   ·have z':=(if_pos hb).symm.trans z
    cases z'
    subst hb
    exact⟨ha,by rw[List.length_map];exact hl,vs,_,rv,ha⟩
   ·have z':=(if_neg hb).symm.trans z
    cases z'
  ·by_cases hb:b=a
   ·exact hb
   ·exact absurd (if_neg hb) z
end L2
namespace L2
open PySem PySem.Spec PyProof.Rows
abbrev KOf{K:Fg}{h:Heap}(_:K.In h):Fg:=K
theorem walk_of{l:PySem.W.OpenLaw}{n k:Nat}{q:Program}{loose:List Str}{XP:(Str->Option Value)->Heap->Prop}{YP:World->Heap->Prop}{d:DefRec}{K:Params->Fg}{CX:World->CXT}{sp:World->Sp}{x:Str}
  (hn:l.most=some n) (hn2:n<=sizeLine) (hdf:d.params.defaults=[]) (hr:Room k callerA)
  (hY:∀(w:World) (h:Heap),YP w h->(K w.params).In h)
  (F:∀(w:World) (mg:Str->Option Value) (fa:Addr) (h:Heap),(K w.params).In h->h.Ns mainGlobals mg->mg d.name=some (.ref fa) ->
   ∃fd:FuncData,(∀(s:Shared) (u:Value),BindsTo s fd ⟨[u],[]⟩ [(x,u)]) /\
    ∀base:Heap,(K w.params).In base->base.Ns mainGlobals mg->FnOk l.prog w (K w.params) mg base (CX w) k fa fd [x] (sp w))
  (hsp:∀(w:World) (H:Hp) (a:Addr) (ns:List Int),ns.length<=n->Only H->SqL (K w.params) H a (ns.map V.int)->sp w [.ref a] H (fun v _=>v=.bl true) fun _ _ _=>False)
  (hCX:∀(w:World) (H:Hp) (s:Shared) (e:Value) (s':Shared),CX w [] H s (fun _ _ _=>False) e s'->False) :
  PySem.W.WalkO q loose XP YP l.row.toRowW d [] (fun f vs=>PySem.call f vs):=by
 refine Att.attach_call hn hdf fun w s₀ s₁ mg mb fa o pm cd doc a vs ns G Y ho hd hcd hmg hobj hints hlen hg=>?_
 have KX:=hY w _ Y
 obtain⟨fd,hb,hF⟩:=F w mg fa _ KX G.T.g hmg
 exact law_call KX G.T.g G.T.b G.T.builtins G.T.nolimit hg hobj hints (Nat.le_trans hlen hn2) hr hF hb (fun H hO hS=>hsp w H a ns hlen hO hS) fun H e s'=>hCX w H s₁ e s'
end L2
namespace L2
open PySem PySem.Spec PyProof.Rows
def inClass(s:Stmt)(j:Nat):Stmt:=match s with
 | .ClassDef _ _ _ body _ _ _ _ _ _ _=>body.getD j (.Pass ⟨0,0,0,0⟩)
 | _=>.Pass ⟨0,0,0,0⟩
def defArgs(s:Stmt):Arguments:=match s with
 | .FunctionDef _ a _ _ _ _ _ _ _ _=>a
 | _=>{ posonlyargs:=[],args:=[],vararg:=none,kwonlyargs:=[],kw_defaults:=[],kwarg:=none,defaults:=[] }
def defBody(s:Stmt):List Stmt:=match s with
 | .FunctionDef _ _ b _ _ _ _ _ _ _=>b
 | _=>[]
def defScope(s:Stmt):Scope:=match s with
 | .FunctionDef _ _ _ _ _ _ sc _ _ _=>sc
 | _=>{ kind:=.function,names:=[],isGenerator:=false,isCoroutine:=false }
abbrev CX0:CXT:=fun _ _ _ _ _ _=>False
abbrev E0:XK:=fun _ _ _=>False
theorem pass0{X:Cx}:Passes CX0 X E0:=fun _ _ _ _ _ _ _ h=>h.elim
structure Fun(K:Fg)(x qual:Str)(st:Stmt)(f:Addr)(fd:FuncData):Prop where
 ex:∃(oc:Value) (od:Option Addr) (kV doc pm:Value) (an:Option Addr) (cdv ct:Value) (osl:Array (Option Value)),
  fd=PySem.W.fnOf x qual (defArgs st) (defBody st) (defScope st) .none kV doc pm an cdv ct/\K.lookup f=some ⟨oc,od,.func fd,osl⟩/\PySem.W.codeIn K cdv qual=true
 kp:PySem.W.keepIn K (.ref f)=true
section
variable {P:Program}{w:World}{K:Fg}{mg:Str->Option Value}{base:Heap}
theorem Fun.ok{x qual:Str}{st:Stmt}{f:Addr}{fd:FuncData}{N ps:List Str}{k:Nat}{sp:Sp}(F:Fun K x qual st f fd)(S:FnScope N ps (defScope st))(len:∀vs H Q E,sp vs H Q E->vs.length=ps.length)
  (hbody:∀(cdv:Value) (A:Around) (outer:List Env) (s:Shared) (H:Hp) (vs:List V) (Q:VK) (E:XK),Room k (A.deeper (envOfC qual (defScope st) s.heap.objs.size f cdv))->sp vs H Q E ->
   ∃t,PSs (cxOf CX0 P w K mg base N qual (defScope st) f cdv A outer s H E).nox (defBody st) t/\t { nx:=fun _ H'=>Q .non H',rt:=Q } (start N vs) H):FnOk P w K mg base CX0 (k+1) f fd ps sp:=by
 obtain⟨oc,od,kV,doc,pm,an,cdv,ct,osl,rfl,lk,hcd⟩:=F.ex
 refine fn_of lk hcd S len fun A outer s H vs Q E hr hsp=>?_
 obtain⟨t,h,q⟩:=hbody cdv A outer s H vs Q E hr hsp
 exact⟨t,h.nox,q⟩
theorem Fun.binds{x qual:Str}{st:Stmt}{f:Addr}{fd:FuncData}{ps:List Str}(F:Fun K x qual st f fd)
  (h:∀(kV doc pm:Value) (an:Option Addr) (cdv ct:Value) (us:List Value),us.length=ps.length->bindArgs (PySem.W.fnOf x qual (defArgs st) (defBody st) (defScope st) .none kV doc pm an cdv ct) ⟨us,[]⟩=pure (ps.zip us)):Binds K fd ps []:=by
 obtain⟨oc,od,kV,doc,pm,an,cdv,ct,osl,rfl,lk,hcd⟩:=F.ex
 exact .all (h kV doc pm an cdv ct)
theorem fun_mk{x qual:Str}{st:Stmt}{f:Addr}{oc:Value}{od an:Option Addr}{osl:Array (Option Value)}{kV doc pm cdv ct:Value}(l:K.lookup f=some ⟨oc,od,.func (PySem.W.fnOf x qual (defArgs st) (defBody st) (defScope st) .none kV doc pm an cdv ct),osl⟩)
  (c:PySem.W.codeIn K cdv qual=true) (k:PySem.W.keepIn K (.ref f)=true):Fun K x qual st f (PySem.W.fnOf x qual (defArgs st) (defBody st) (defScope st) .none kV doc pm an cdv ct):=⟨⟨oc,od,kV,doc,pm,an,cdv,ct,osl,rfl,l,c⟩,k⟩
end
theorem hu_of{A:Around}{k:Nat}(hr:Room k A):A.units+1<cLine:=Nat.lt_of_le_of_lt (Nat.add_le_add_left (by decide:1<=64) _) hr.units
section
variable {X:Cx}
theorem pv(i:Nat){x:Str}{pos:Pos}(hN:X.N[i]? = some x:=by rfl)(hv:Vis X.env.scope x:=by first | exact Or.inl rfl | exact Or.inr (Or.inl rfl) | exact Or.inr (Or.inr rfl))(hd:(x == ("__debug__" : Str))=false:=by decide)
  (hcd:(x == ("__classdict__" : Str))=false:=by decide):PE X (.Name x pos) (tVar i):=pe_var hN hv hd hcd
end
theorem iteF{A B:Prop}(h:B):if false=true then A else B:=by
 rw[if_neg Bool.false_ne_true]
 exact h
theorem iteT{A B:Prop}(h:A):if true=true then A else B:=by
 rw[if_pos rfl]
 exact h
theorem ite2{c A B:Prop}[Decidable c](h1:c->A)(h2:¬c->B):if c then A else B:=by
 by_cases h:c
 ·rw[if_pos h]
  exact h1 h
 ·rw[if_neg h]
  exact h2 h
def Same(H H':Hp):Prop:=∀b o,H b=some o->H' b=some o
theorem Same.refl(H:Hp):Same H H:=fun _ _ h=>h
theorem Same.trans{H H1 H2:Hp}(a:Same H H1)(b:Same H1 H2):Same H H2:=fun c o h=>b c o (a c o h)
theorem Same.free{H H':Hp}(e:Same H H'){l:Addr}(h:H' l=Option.none):H l=Option.none:=by
 cases q:H l with
 | none=>rfl
 | some o=>
  rw[e l o q]at h
  cases h
theorem Same.seq{K:Fg}{H H':Hp}{a:Addr}{xs:List V}(e:Same H H')(h:SqL K H a xs):SqL K H' a xs:=by
 rcases h with (h | ⟨o,h⟩) | h
 ·exact .inl (.inl (e _ _ h))
 ·exact .inl (.inr ⟨o,e _ _ h⟩)
 ·exact .inr h
section
variable {κ:Type}[DecidableEq κ]
theorem valV_in{kvs:List (κ×V)}{k:κ}{v:V}(h:valV kvs k=some v):k∈kvs.map (·.1):=by
 have q:(kvs.any fun kv=>decide (kv.1=k))=true:=by
  rw[valV_any,h]
  all_goals rfl
 obtain⟨p,hp,e⟩:=List.any_eq_true.mp q
 exact List.mem_map.mpr ⟨p,hp,of_decide_eq_true e⟩
theorem nd_snoc:∀ {l:List κ} {k:κ},l.Nodup->¬k∈l->(l++[k]).Nodup
 | [],k,_,_=>by simp
 | a::r,k,h,hk=>by
  obtain⟨h1,h2⟩:=List.nodup_cons.mp h
  show(a::(r++[k])).Nodup
  refine List.nodup_cons.mpr ⟨fun m=>?_,nd_snoc h2 fun m=>hk (List.mem_cons.mpr (Or.inr m))⟩
  rcases List.mem_append.mp m with q | q
  ·exact h1 q
  ·exact hk (List.mem_cons.mpr (Or.inl (List.mem_singleton.mp q).symm))
end
end L2
set_option maxHeartbeats 0
namespace HD
open PySem PySem.W L2
abbrev P:Program:=PySem.Challenge.pw_oncedone_k24_ways_known
def top(i:Nat):Stmt:=P.main.body.getD i (.Pass ⟨0,0,0,0⟩)
def kE(Q:Params)(n:Str)(t:Nat)(v:Value):DictEntry:=⟨PyData.keyHash Q n,.str n t,v⟩
def kD(es:List DictEntry)(n:Nat):Obj:=⟨.type "dict", none,.dict es.toArray n,#[]⟩
def kF(x qual:Str)(st:Stmt)(pm cd:Value):Obj:=⟨.type "function", none,.func (fnOf x qual (defArgs st) (defBody st) (defScope st) .none .none .none pm none cd .none),#[]⟩
def kC(n q:Str)(a b c:Nat)(i3 i4 i5 i6 i7:Int)(r8:Nat)(i10:Int)(r11 r13 r14 r15:Nat)(i16 i17:Int)(d:Nat):Obj:=⟨.type "code", none,.fields ([.str n a,.str q b,.str "/claim/cut.py" c,.int i3 0,.int i4 0,.int i5 0,.int i6 0,.int i7 0,.ref r8,.bool true,.int i10 0,.ref r11,.none,.ref r13,.ref r14,.ref r15,.int i16 0,.int i17 0,.str "/claim/cut.py" d]:List Value).toArray,([]:List (Option Value)).toArray⟩
def kN(n q:Str)(a b c:Nat)(i3 i4 i5 i6 i7:Int)(r8:Nat)(i10:Int)(r11 r15:Nat)(i16 i17:Int)(d:Nat):Obj:=⟨.type "code", none,.fields ([.str n a,.str q b,.str "/claim/cut.py" c,.int i3 0,.int i4 0,.int i5 0,.int i6 0,.int i7 0,.ref r8,.bool true,.int i10 0,.ref r11,.none,.none,.none,.ref r15,.int i16 0,.int i17 0,.str "/claim/cut.py" d]:List Value).toArray,([]:List (Option Value)).toArray⟩
def K(Q:Params):Frag:=[
 (3,kD [kE Q "__name__" 165 (.str "law_oncedone_k24_ways_known" 563),kE Q "__doc__" 166 .none,kE Q "__package__" 167 .none,kE Q "__loader__" 168 (.builtin "__main__.__loader__#opaque"),kE Q "__spec__" 169 .none,kE Q "__annotations__" 170 (.ref 6),kE Q "__builtins__" 171 (.ref 4),kE Q "__file__" 173 (.str "/claim/cut.py" 172),kE Q "__cached__" 174 .none,kE Q "_wall" 193 (.ref 21),kE Q "OnceError" 213 (.ref 31),kE Q "Wrong" 238 (.ref 51),kE Q "NoThing" 263 (.ref 70),kE Q "TooMany" 288 (.ref 89),kE Q "NoWay" 313 (.ref 108),kE Q "BOUND" 317 (.int (1000000000000) 316),kE Q "LETTERS" 319 (.str "abcdefghijklmnopqrstuvwxyz" 318),kE Q "FIGURES" 321 (.str "0123456789" 320),kE Q "LONGEST_NAME" 323 (.int (8) 322),kE Q "DEED_KINDS" 329 (.ref 111),kE Q "is_whole" 336 (.ref 118),kE Q "is_value" 343 (.ref 125),kE Q "is_name" 349 (.ref 130),kE Q "is_operand" 356 (.ref 137),kE Q "is_deed" 363 (.ref 144),kE Q "is_row" 372 (.ref 151),kE Q "MOST" 376 (.int (400) 375),kE Q "is_below" 384 (.ref 158),kE Q "check_length" 393 (.ref 165),kE Q "check_each" 402 (.ref 172),kE Q "FIRST_STEP" 408 (.ref 173),kE Q "are_nexts" 414 (.ref 178),kE Q "check_nexts" 420 (.ref 183),kE Q "stops_of" 426 (.ref 188),kE Q "turned" 432 (.ref 193),kE Q "reached" 443 (.ref 200),kE Q "check_ways" 453 (.ref 207),kE Q "steps_of" 459 (.ref 212),kE Q "Plan" 532 (.ref 269),kE Q "is_step" 542 (.ref 280),kE Q "is_way" 548 (.ref 285),kE Q "is_whole_way" 556 (.ref 292),kE Q "places_of" 562 (.ref 297),kE Q "_law_bag" 570 (.ref 302),kE Q "_law_take" 583 (.ref 309),kE Q "_law_whole" 590 (.ref 316),kE Q "_law_name" 596 (.ref 321),kE Q "_law_names" 609 (.ref 328),kE Q "_law_value" 616 (.ref 335),kE Q "_law_operand" 624 (.ref 342),kE Q "_law_deed" 635 (.ref 349),kE Q "_law_row" 647 (.ref 356),kE Q "_law_net" 660 (.ref 363),kE Q "_law_mended" 666 (.ref 368),kE Q "_law_drawn" 672 (.ref 373),kE Q "_law_step" 680 (.ref 380),kE Q "_law_places" 691 (.ref 387),kE Q "_law_shortest" 703 (.ref 394),kE Q "_law_walk" 715 (.ref 401),kE Q "_law_spoilt" 730 (.ref 408),kE Q "_law_asked" 744 (.ref 415),kE Q "law" 758 (.ref 422)] 62),
 (20,kC "_wall" "_wall" 187 188 189 1 1 0 0 3 15 181 16 17 18 19 191 1 192),
 (21,kF "_wall" "_wall" (top 0) (.str "__main__" 164) (.ref 20)),
 (30,kD [kE Q "__module__" 203 (.str "oncedone.errors" 194),kE Q "__firstlineno__" 207 (.int (5) 206),kE Q "__static_attributes__" 208 (.ref 29),kE Q "__weakref__" 210 (.ref 32),kE Q "__doc__" 211 .none] 3),
 (31,⟨(.type "type"),none,.cls { name := "OnceError", bases:=[(.type "ValueError")],mro:=[(.ref 31),(.type "ValueError"),(.type "Exception"),(.type "BaseException"),(.type "object")],ns:=30,qualname := "OnceError", hasDict:=true,subclasses:=[(.ref 51),(.ref 70),(.ref 89),(.ref 108)] },([some (.ref 22),none,some (.str "OnceError" 196),some (.str "OnceError" 204),some (.builtin "ValueError.__new__"),some (.bool true)]:List (Option Value)).toArray⟩),
 (47,kC "__init__" "Wrong.__init__" 226 227 228 9 2 0 0 3 42 181 43 44 45 46 231 9 232),
 (48,kF "__init__" "Wrong.__init__" (inClass (top 3) 0) (.str "oncedone.errors" 194) (.ref 47)),
 (50,kD [kE Q "__module__" 221 (.str "oncedone.errors" 194),kE Q "__firstlineno__" 225 (.int (7) 224),kE Q "__init__" 233 (.ref 48),kE Q "__static_attributes__" 235 (.ref 49),kE Q "__doc__" 236 .none] 2),
 (51,⟨(.type "type"),none,.cls { name := "Wrong", bases:=[(.ref 31)],mro:=[(.ref 51),(.ref 31),(.type "ValueError"),(.type "Exception"),(.type "BaseException"),(.type "object")],ns:=50,qualname := "Wrong", hasDict:=true,subclasses:=[] },([some (.ref 35),none,some (.str "Wrong" 214),some (.str "Wrong" 222),some (.builtin "ValueError.__new__"),some (.bool true)]:List (Option Value)).toArray⟩),
 (66,kC "__init__" "NoThing.__init__" 251 252 253 13 2 0 0 3 61 181 62 63 64 65 256 13 257),
 (67,kF "__init__" "NoThing.__init__" (inClass (top 4) 0) (.str "oncedone.errors" 194) (.ref 66)),
 (69,kD [kE Q "__module__" 246 (.str "oncedone.errors" 194),kE Q "__firstlineno__" 250 (.int (11) 249),kE Q "__init__" 258 (.ref 67),kE Q "__static_attributes__" 260 (.ref 68),kE Q "__doc__" 261 .none] 2),
 (70,⟨(.type "type"),none,.cls { name := "NoThing", bases:=[(.ref 31)],mro:=[(.ref 70),(.ref 31),(.type "ValueError"),(.type "Exception"),(.type "BaseException"),(.type "object")],ns:=69,qualname := "NoThing", hasDict:=true,subclasses:=[] },([some (.ref 54),none,some (.str "NoThing" 239),some (.str "NoThing" 247),some (.builtin "ValueError.__new__"),some (.bool true)]:List (Option Value)).toArray⟩),
 (85,kC "__init__" "TooMany.__init__" 276 277 278 17 2 0 0 3 80 181 81 82 83 84 281 17 282),
 (86,kF "__init__" "TooMany.__init__" (inClass (top 5) 0) (.str "oncedone.errors" 194) (.ref 85)),
 (88,kD [kE Q "__module__" 271 (.str "oncedone.errors" 194),kE Q "__firstlineno__" 275 (.int (15) 274),kE Q "__init__" 283 (.ref 86),kE Q "__static_attributes__" 285 (.ref 87),kE Q "__doc__" 286 .none] 2),
 (89,⟨(.type "type"),none,.cls { name := "TooMany", bases:=[(.ref 31)],mro:=[(.ref 89),(.ref 31),(.type "ValueError"),(.type "Exception"),(.type "BaseException"),(.type "object")],ns:=88,qualname := "TooMany", hasDict:=true,subclasses:=[] },([some (.ref 73),none,some (.str "TooMany" 264),some (.str "TooMany" 272),some (.builtin "ValueError.__new__"),some (.bool true)]:List (Option Value)).toArray⟩),
 (104,kC "__init__" "NoWay.__init__" 301 302 303 21 2 0 0 3 99 181 100 101 102 103 306 21 307),
 (105,kF "__init__" "NoWay.__init__" (inClass (top 6) 0) (.str "oncedone.errors" 194) (.ref 104)),
 (107,kD [kE Q "__module__" 296 (.str "oncedone.errors" 194),kE Q "__firstlineno__" 300 (.int (19) 299),kE Q "__init__" 308 (.ref 105),kE Q "__static_attributes__" 310 (.ref 106),kE Q "__doc__" 311 .none] 2),
 (108,⟨(.type "type"),none,.cls { name := "NoWay", bases:=[(.ref 31)],mro:=[(.ref 108),(.ref 31),(.type "ValueError"),(.type "Exception"),(.type "BaseException"),(.type "object")],ns:=107,qualname := "NoWay", hasDict:=true,subclasses:=[] },([some (.ref 92),none,some (.str "NoWay" 289),some (.str "NoWay" 297),some (.builtin "ValueError.__new__"),some (.bool true)]:List (Option Value)).toArray⟩),
 (111,⟨(.type "tuple"),none,.seq ([(.str "plus" 324),(.str "minus" 325),(.str "times" 326),(.str "less" 327),(.str "same" 328)]:List Value).toArray 0,([]:List (Option Value)).toArray⟩),
 (117,kC "is_whole" "is_whole" 330 331 332 29 1 0 0 3 112 181 113 114 115 116 334 29 335),
 (118,kF "is_whole" "is_whole" (top 13) (.str "oncedone.words" 314) (.ref 117)),
 (124,kC "is_value" "is_value" 337 338 339 31 1 0 0 3 119 181 120 121 122 123 341 31 342),
 (125,kF "is_value" "is_value" (top 14) (.str "oncedone.words" 314) (.ref 124)),
 (129,kN "is_name" "is_name" 344 345 346 33 1 0 0 3 126 181 127 128 347 33 348),
 (130,kF "is_name" "is_name" (top 15) (.str "oncedone.words" 314) (.ref 129)),
 (136,kC "is_operand" "is_operand" 350 351 352 37 1 0 0 3 131 181 132 133 134 135 354 37 355),
 (137,kF "is_operand" "is_operand" (top 16) (.str "oncedone.words" 314) (.ref 136)),
 (143,kC "is_deed" "is_deed" 357 358 359 39 1 0 0 3 138 181 139 140 141 142 361 39 362),
 (144,kF "is_deed" "is_deed" (top 17) (.str "oncedone.words" 314) (.ref 143)),
 (150,kC "is_row" "is_row" 364 365 366 43 1 0 0 3 145 181 146 147 148 149 370 43 371),
 (151,kF "is_row" "is_row" (top 18) (.str "oncedone.words" 314) (.ref 150)),
 (157,kC "is_below" "is_below" 377 378 379 59 2 0 0 3 152 181 153 154 155 156 382 59 383),
 (158,kF "is_below" "is_below" (top 21) (.str "oncedone.checks" 373) (.ref 157)),
 (164,kC "check_length" "check_length" 385 386 387 61 3 0 0 3 159 181 160 161 162 163 391 61 392),
 (165,kF "check_length" "check_length" (top 22) (.str "oncedone.checks" 373) (.ref 164)),
 (171,kC "check_each" "check_each" 394 395 396 66 1 0 0 3 166 181 167 168 169 170 400 66 401),
 (172,kF "check_each" "check_each" (top 23) (.str "oncedone.checks" 373) (.ref 171)),
 (173,⟨(.type "tuple"),none,.seq ([(.int (-1) 406),(.int (0) 407)]:List Value).toArray 0,([]:List (Option Value)).toArray⟩),
 (177,kN "are_nexts" "are_nexts" 409 410 411 72 3 0 0 3 174 181 175 176 412 72 413),
 (178,kF "are_nexts" "are_nexts" (top 26) (.str "oncedone.plans" 403) (.ref 177)),
 (182,kN "check_nexts" "check_nexts" 415 416 417 77 2 0 0 3 179 181 180 181 418 77 419),
 (183,kF "check_nexts" "check_nexts" (top 27) (.str "oncedone.plans" 403) (.ref 182)),
 (187,kN "stops_of" "stops_of" 421 422 423 81 1 0 0 3 184 181 185 186 424 81 425),
 (188,kF "stops_of" "stops_of" (top 28) (.str "oncedone.plans" 403) (.ref 187)),
 (192,kN "turned" "turned" 427 428 429 83 1 0 0 3 189 181 190 191 430 83 431),
 (193,kF "turned" "turned" (top 29) (.str "oncedone.plans" 403) (.ref 192)),
 (199,kC "reached" "reached" 433 434 435 89 2 0 0 3 194 181 195 196 197 198 441 89 442),
 (200,kF "reached" "reached" (top 30) (.str "oncedone.plans" 403) (.ref 199)),
 (206,kC "check_ways" "check_ways" 444 445 446 98 1 0 0 3 201 181 202 203 204 205 451 98 452),
 (207,kF "check_ways" "check_ways" (top 31) (.str "oncedone.plans" 403) (.ref 206)),
 (211,kN "steps_of" "steps_of" 454 455 456 104 1 0 0 3 208 181 209 210 457 104 458),
 (212,kF "steps_of" "steps_of" (top 32) (.str "oncedone.plans" 403) (.ref 211)),
 (223,kN "__init__" "Plan.__init__" 472 473 474 111 3 0 0 3 220 181 221 222 475 111 476),
 (224,kF "__init__" "Plan.__init__" (inClass (top 33) 0) (.str "oncedone.plans" 403) (.ref 223)),
 (230,kC "steps" "Plan.steps" 478 479 480 122 1 0 0 3 225 181 226 227 228 229 482 122 483),
 (231,kF "steps" "Plan.steps" (inClass (top 33) 1) (.str "oncedone.plans" 403) (.ref 230)),
 (237,kC "leads_to" "Plan.leads_to" 485 486 487 125 2 0 0 3 232 181 233 234 235 236 490 125 491),
 (238,kF "leads_to" "Plan.leads_to" (inClass (top 33) 2) (.str "oncedone.plans" 403) (.ref 237)),
 (244,kC "steps_into" "Plan.steps_into" 493 494 495 130 2 0 0 3 239 181 240 241 242 243 498 130 499),
 (245,kF "steps_into" "Plan.steps_into" (inClass (top 33) 3) (.str "oncedone.plans" 403) (.ref 244)),
 (251,kC "stops" "Plan.stops" 501 502 503 133 1 0 0 3 246 181 247 248 249 250 505 133 506),
 (252,kF "stops" "Plan.stops" (inClass (top 33) 4) (.str "oncedone.plans" 403) (.ref 251)),
 (258,kC "deeds" "Plan.deeds" 508 509 510 136 1 0 0 3 253 181 254 255 256 257 512 136 513),
 (259,kF "deeds" "Plan.deeds" (inClass (top 33) 5) (.str "oncedone.plans" 403) (.ref 258)),
 (265,kC "names" "Plan.names" 515 516 517 139 1 0 0 3 260 181 261 262 263 264 519 139 520),
 (266,kF "names" "Plan.names" (inClass (top 33) 6) (.str "oncedone.plans" 403) (.ref 265)),
 (268,kD [kE Q "__module__" 467 (.str "oncedone.plans" 403),kE Q "__firstlineno__" 471 (.int (109) 470),kE Q "__init__" 477 (.ref 224),kE Q "steps" 484 (.ref 231),kE Q "leads_to" 492 (.ref 238),kE Q "steps_into" 500 (.ref 245),kE Q "stops" 507 (.ref 252),kE Q "deeds" 514 (.ref 259),kE Q "names" 521 (.ref 266),kE Q "__static_attributes__" 525 (.ref 267),kE Q "__dict__" 527 (.ref 270),kE Q "__weakref__" 529 (.ref 271),kE Q "__doc__" 530 .none] 4),
 (269,⟨(.type "type"),none,.cls { name := "Plan", bases:=[(.type "object")],mro:=[(.ref 269),(.type "object")],ns:=268,qualname := "Plan", hasDict:=true,subclasses:=[] },([none,none,some (.str "Plan" 460),some (.str "Plan" 468),some (.builtin "object.__new__"),some (.bool true)]:List (Option Value)).toArray⟩),
 (279,kC "is_step" "is_step" 535 536 537 142 2 0 0 3 274 181 275 276 277 278 540 142 541),
 (280,kF "is_step" "is_step" (top 35) (.str "oncedone.ways" 533) (.ref 279)),
 (284,kN "is_way" "is_way" 543 544 545 150 2 0 0 3 281 181 282 283 546 150 547),
 (285,kF "is_way" "is_way" (top 36) (.str "oncedone.ways" 533) (.ref 284)),
 (291,kC "is_whole_way" "is_whole_way" 549 550 551 156 2 0 0 3 286 181 287 288 289 290 554 156 555),
 (292,kF "is_whole_way" "is_whole_way" (top 37) (.str "oncedone.ways" 533) (.ref 291)),
 (296,kN "places_of" "places_of" 557 558 559 160 2 0 0 3 293 181 294 295 560 160 561),
 (297,kF "places_of" "places_of" (top 38) (.str "oncedone.ways" 533) (.ref 296)),
 (301,kN "_law_bag" "_law_bag" 565 566 567 163 1 0 0 3 298 181 299 300 568 163 569),
 (302,kF "_law_bag" "_law_bag" (top 40) (.str "law_oncedone_k24_ways_known" 563) (.ref 301)),
 (308,kC "_law_take" "_law_take" 571 572 573 165 2 0 0 3 303 181 304 305 306 307 581 165 582),
 (309,kF "_law_take" "_law_take" (top 41) (.str "law_oncedone_k24_ways_known" 563) (.ref 308)),
 (315,kC "_law_whole" "_law_whole" 584 585 586 184 1 0 0 3 310 181 311 312 313 314 588 184 589),
 (316,kF "_law_whole" "_law_whole" (top 42) (.str "law_oncedone_k24_ways_known" 563) (.ref 315)),
 (320,kN "_law_name" "_law_name" 591 592 593 186 1 0 0 3 317 181 318 319 594 186 595),
 (321,kF "_law_name" "_law_name" (top 43) (.str "law_oncedone_k24_ways_known" 563) (.ref 320)),
 (327,kC "_law_names" "_law_names" 597 598 599 190 1 0 0 3 322 181 323 324 325 326 607 190 608),
 (328,kF "_law_names" "_law_names" (top 44) (.str "law_oncedone_k24_ways_known" 563) (.ref 327)),
 (334,kC "_law_value" "_law_value" 610 611 612 203 1 0 0 3 329 181 330 331 332 333 614 203 615),
 (335,kF "_law_value" "_law_value" (top 45) (.str "law_oncedone_k24_ways_known" 563) (.ref 334)),
 (341,kC "_law_operand" "_law_operand" 617 618 619 205 2 0 0 3 336 181 337 338 339 340 622 205 623),
 (342,kF "_law_operand" "_law_operand" (top 46) (.str "law_oncedone_k24_ways_known" 563) (.ref 341)),
 (348,kC "_law_deed" "_law_deed" 625 626 627 209 2 0 0 3 343 181 344 345 346 347 633 209 634),
 (349,kF "_law_deed" "_law_deed" (top 47) (.str "law_oncedone_k24_ways_known" 563) (.ref 348)),
 (355,kC "_law_row" "_law_row" 636 637 638 216 4 0 0 3 350 181 351 352 353 354 645 216 646),
 (356,kF "_law_row" "_law_row" (top 48) (.str "law_oncedone_k24_ways_known" 563) (.ref 355)),
 (362,kC "_law_net" "_law_net" 648 649 650 228 2 0 0 3 357 181 358 359 360 361 658 228 659),
 (363,kF "_law_net" "_law_net" (top 49) (.str "law_oncedone_k24_ways_known" 563) (.ref 362)),
 (367,kN "_law_mended" "_law_mended" 661 662 663 246 1 0 0 3 364 181 365 366 664 246 665),
 (368,kF "_law_mended" "_law_mended" (top 50) (.str "law_oncedone_k24_ways_known" 563) (.ref 367)),
 (372,kN "_law_drawn" "_law_drawn" 667 668 669 261 1 0 0 3 369 181 370 371 670 261 671),
 (373,kF "_law_drawn" "_law_drawn" (top 51) (.str "law_oncedone_k24_ways_known" 563) (.ref 372)),
 (379,kC "_law_step" "_law_step" 673 674 675 269 2 0 0 3 374 181 375 376 377 378 678 269 679),
 (380,kF "_law_step" "_law_step" (top 52) (.str "law_oncedone_k24_ways_known" 563) (.ref 379)),
 (386,kC "_law_places" "_law_places" 681 682 683 277 2 0 0 3 381 181 382 383 384 385 689 277 690),
 (387,kF "_law_places" "_law_places" (top 53) (.str "law_oncedone_k24_ways_known" 563) (.ref 386)),
 (393,kC "_law_shortest" "_law_shortest" 692 693 694 287 2 0 0 3 388 181 389 390 391 392 701 287 702),
 (394,kF "_law_shortest" "_law_shortest" (top 54) (.str "law_oncedone_k24_ways_known" 563) (.ref 393)),
 (400,kC "_law_walk" "_law_walk" 704 705 706 297 2 0 0 3 395 181 396 397 398 399 713 297 714),
 (401,kF "_law_walk" "_law_walk" (top 55) (.str "law_oncedone_k24_ways_known" 563) (.ref 400)),
 (407,kC "_law_spoilt" "_law_spoilt" 716 717 718 311 3 0 0 3 402 181 403 404 405 406 728 311 729),
 (408,kF "_law_spoilt" "_law_spoilt" (top 56) (.str "law_oncedone_k24_ways_known" 563) (.ref 407)),
 (414,kC "_law_asked" "_law_asked" 731 732 733 331 3 0 0 3 409 181 410 411 412 413 742 331 743),
 (415,kF "_law_asked" "_law_asked" (top 57) (.str "law_oncedone_k24_ways_known" 563) (.ref 414)),
 (421,kC "law" "law" 745 746 747 350 1 0 0 3 416 181 417 418 419 420 756 350 757),
 (422,kF "law" "law" (top 58) (.str "law_oncedone_k24_ways_known" 563) (.ref 421))]
def adr:List Addr:=[3,20,21,30,31,47,48,50,51,66,67,69,70,85,86,88,89,104,105,107,108,111,117,118,124,125,129,130,136,137,143,144,150,151,157,158,164,165,171,172,173,177,178,182,183,187,188,192,193,199,200,206,207,211,212,223,224,230,231,237,238,244,245,251,252,258,259,265,266,268,269,279,280,284,285,291,292,296,297,301,302,308,309,315,316,320,321,327,328,334,335,341,342,348,349,355,356,362,363,367,368,372,373,379,380,386,387,393,394,400,401,407,408,414,415,421,422]
def q:Program:=view P [58]
def loose:List Str:=(["_wall", "OnceError", "Wrong", "NoThing", "TooMany", "NoWay", "BOUND", "LETTERS", "FIGURES", "LONGEST_NAME", "DEED_KINDS", "is_whole", "is_value", "is_name", "is_operand", "is_deed", "is_row", "MOST", "is_below", "check_length", "check_each", "FIRST_STEP", "are_nexts", "check_nexts", "stops_of", "turned", "reached", "check_ways", "steps_of", "Plan", "is_step", "is_way", "is_whole_way", "places_of", "_law_bag", "_law_take", "_law_whole", "_law_name", "_law_names", "_law_value", "_law_operand", "_law_deed", "_law_row", "_law_net", "_law_mended", "_law_drawn", "_law_step", "_law_places", "_law_shortest", "_law_walk", "_law_spoilt", "_law_asked"]:List String).map Str.ofString
theorem left_one{p q:Program}{loose:List Str}{Xt:Shared->Bool}{α:Type}{Yf:Shared->α}{Ya:World->α}{N m₀:Nat}{ann:Option Value}(e:opening p=plainProg p.main.scope.names)(hN:Nat.ble 600 N=true)(f:∀s,fenceModules? p s=some s)
  (size:∀w:World,((boot_heap w.params).isNs mainGlobals,(boot_heap w.params).objs.size,(boot_heap w.params).nsMap mainGlobals "__annotations__")=(true,m₀,ann))
  (run:∀(w:World) (os:OsState),(topRun treeTable p w m₀ ann N ⟨boot_heap w.params,Array.mk [],boot_drawn,boot_toks,os⟩ (topStub p)).map (fun s₁=>(staticsOk (importedModules p.main.body) (boot_heap w.params) s₁.heap&&namesBound p s₁.heap&&gensDone s₁&&laidKept (boot_heap w.params) s₁.heap,openSeen q loose (importedModules p.main.body) Xt true s₁,Yf s₁))=some (true,openGood q loose,Ya w)) :
  LeftO p q loose Xt Yf Ya N:=fun w=>by
 obtain⟨⟨h,gs,d,k,os⟩,e1,e2⟩:=Option.map_eq_some_iff.mp (boot_open e hN f w)
 obtain⟨rfl,rfl,rfl,rfl⟩:h=boot_heap w.params/\gs=Array.mk []/\d=boot_drawn/\k=boot_toks:=by simpa using e2
 obtain⟨z1,z2,z3⟩:_/\_/\_:=by simpa only[Prod.mk.injEq]using size w
 obtain⟨s₁,r1,r2⟩:=Option.map_eq_some_iff.mp (run w os)
 have r3:=congrArg Prod.fst r2
 have r4:=congrArg Prod.snd r2
 dsimp only at r3 r4
 have t:topFrom treeTable p w N ⟨boot_heap w.params,Array.mk [],boot_drawn,boot_toks,os⟩=some s₁:=by
  unfold topFrom
  dsimp only
  rw[z1,z2,z3,r1]
  show(match staticsOk (importedModules p.main.body) (boot_heap w.params) s₁.heap&&namesBound p s₁.heap&&gensDone s₁&&laidKept (boot_heap w.params) s₁.heap with | true=>some s₁ | false=>none)=_
  rw[r3]
 unfold openEnds
 rw[e1]
 show(topFrom treeTable p w N _).map _=_
 rw[t]
 exact congrArg some r4
abbrev hook:Hook:=kHook K adr (fun _=>by kernel_rfl)
abbrev row:OpenLaw:=PySem.Challenge.rw_oncedone_k24_ways_known
set_option maxRecDepth 100000 in
theorem left:LeftO P q loose (fun s=>xlAt q [] s&&recOk (RowW.records row.row.toRowW) s) (Hook.obs hook) (Hook.val hook) 6546:=
 left_one (m₀:=11) (ann:=(some (.ref 6))) (by kernel_rfl) (by kernel_rfl) (fun s=>by kernel_rfl) (fun w=>by kernel_rfl) (by
  rw[PySem.W.Fast.te14082659384304107361,PySem.W.Fast.te14364793385576792824,PySem.W.Fast.te4187177175401517315]
  intro w os
  kernel_rfl)
set_option maxRecDepth 100000 in
theorem said0:row.wellSaid=true:=by
 rw[PySem.W.Fast.te9446332074065402090]
 kernel_rfl
set_option maxRecDepth 100000 in
theorem fin(hc:∀d:DefRec,d.name = "law" -> d.params.defaults=[]->WalkO q loose (XL q []) (Hook.says hook) row.row.toRowW d [] (fun f vs=>PySem.call f vs)):row.Holds:=by
 refine holds_law (l:=row) said0 fun said=>?_
 refine holds_open (q:=q) (loose:=loose) (Xt:=fun s=>xlAt q [] s&&recOk (RowW.records row.row.toRowW) s) (XP:=XL q []) (Yf:=Hook.obs hook) (Ya:=Hook.val hook) (YP:=Hook.says hook) (N:=6546) left (Hook.of hook) (Hook.keeps hook) (fun s e=>xl_of s (Bool.and_eq_true_iff.mp e).1) XL.keeps (by rfl) (by rfl) (by rfl) (fun s e=>recFacts_of (Bool.and_eq_true_iff.mp e).2) (by rfl) said (by decide +kernel) ⟨rfl,rfl,rfl,rfl,rfl,by decide +kernel⟩ ?hw (hc _ rfl rfl)
 case hw=>w_witness2
end HD
set_option maxHeartbeats 4000000
namespace L2
open PySem PySem.Spec PyProof.Rows
theorem clos_ex{env:Env}:∀(names:List (Str×NameKind)) (cs:List (Str×Addr)),(∀y∈names,y.2=.free->∃c,env.cells.lookup y.1=some c) ->
  (∀y c,cs.lookup y=some c->env.cells.lookup y=some c) ->
  ∃cl,(forIn names cs (fun(x:Str×NameKind) (r:List (Str×Addr))=>(if(x.2 == NameKind.free)=true then (do let c <-cellOf env x.1;pure (ForInStep.yield ((x.1,c)::r)))else pure (ForInStep.yield r):Sem (ForInStep (List (Str×Addr)))))=(pure cl:Sem (List (Str×Addr)))) /\
   (∀y c,cl.lookup y=some c->env.cells.lookup y=some c)/\(∀y,(y,NameKind.free)∈names\/(cs.lookup y).isSome=true->(cl.lookup y).isSome=true)
 | [],cs,_,h=>⟨cs,rfl,h,fun y q=>q.elim (fun z=>absurd z (by simp)) id⟩
 | (n,k)::r,cs,hc,h=>by
  by_cases e:(k == NameKind.free)=true
  ·have ek:k=.free:=by simpa using e
   obtain⟨c,hcc⟩:=hc (n,k) List.mem_cons_self ek
   have h':∀y d,((n,c)::cs).lookup y=some d->env.cells.lookup y=some d:=by
    intro y d q
    rw[List.lookup_cons]at q
    cases eq:y == n with
    | true=>
     rw[eq]at q
     have e2:y=n:=by simpa using eq
     cases q;rw[e2];exact hcc
    | false=>rw[eq]at q;exact h y d q
   obtain⟨cl,h1,h2,h3⟩:=clos_ex r ((n,c)::cs) (fun y hy=>hc y (List.mem_cons_of_mem _ hy)) h'
   refine⟨cl,?_,h2,fun y q=>h3 y ?_⟩
   ·rw[List.forIn_cons]
    show((if(k == NameKind.free)=true then (do let c <-cellOf env n;pure (ForInStep.yield ((n,c)::cs)))else pure (ForInStep.yield cs):Sem (ForInStep (List (Str×Addr)))) >>= _)=_
    rw[if_pos e]
    have ec:cellOf env n=pure c:=by unfold cellOf;rw[hcc]
    rw[ec]
    exact h1
   ·rcases q with q | q
    ·rcases List.mem_cons.mp q with q | q
     ·cases q
      right
      simp[List.lookup_cons]
     ·exact .inl q
    ·right
     rw[List.lookup_cons]
     cases y == n
     ·exact q
     ·rfl
  ·obtain⟨cl,h1,h2,h3⟩:=clos_ex r cs (fun y hy=>hc y (List.mem_cons_of_mem _ hy)) h
   refine⟨cl,?_,h2,fun y q=>h3 y ?_⟩
   ·rw[List.forIn_cons]
    show((if(k == NameKind.free)=true then (do let c <-cellOf env n;pure (ForInStep.yield ((n,c)::cs)))else pure (ForInStep.yield cs):Sem (ForInStep (List (Str×Addr)))) >>= _)=_
    rw[if_neg e]
    exact h1
   ·rcases q with q | q
    ·rcases List.mem_cons.mp q with q | q
     ·cases q
      exact absurd rfl e
     ·exact .inl q
    ·exact .inr q
theorem closure_ex{scope:Scope}{env:Env}(hc:∀y∈scope.names,y.2=.free->∃c,env.cells.lookup y.1=some c) :
  ∃cl,closureFor scope env=pure cl/\(∀y c,cl.lookup y=some c->env.cells.lookup y=some c)/\∀y,(y,NameKind.free)∈scope.names->(cl.lookup y).isSome=true:=by
 obtain⟨cl,h1,h2,h3⟩:=clos_ex scope.names [] hc (fun y c q=>by cases q)
 refine⟨cl,?_,h2,fun y q=>h3 y (.inl q)⟩
 unfold closureFor
 first
  | exact h1
  | (show(forIn scope.names [] _ >>= fun r=>pure r)=_;rw[h1];rfl)
theorem lookup_relabel{env:Env}:∀ {names:List (Str×NameKind)} {y:Str} {k:NameKind},
  (names.map fun(n,k)=>if(k == NameKind.free&&env.scope.kind == .function&&env.kindOf n == some .cell)then (n,NameKind.cell)else (n,k)).lookup y=some k ->
  names.lookup y=some k\/(names.lookup y=some .free/\k=.cell)
 | [],_,_,h=>by cases h
 | (n,k0)::r,y,k,h=>by
  have ih := @lookup_relabel env r y k
  rw[List.map_cons]at h
  rw[List.lookup_cons]
  cases hx:y == n with
  | true=>
   by_cases hc:(k0 == NameKind.free&&env.scope.kind == .function&&env.kindOf n == some .cell)=true
   ·have e2:k0=.free:=by simp at hc;exact hc.1.1
    dsimp only at h
    rw[if_pos hc,List.lookup_cons,hx]at h
    cases h
    exact .inr ⟨by rw[e2],rfl⟩
   ·dsimp only at h
    rw[if_neg hc,List.lookup_cons,hx]at h
    exact .inl h
  | false=>
   by_cases hc:(k0 == NameKind.free&&env.scope.kind == .function&&env.kindOf n == some .cell)=true
   ·dsimp only at h
    rw[if_pos hc,List.lookup_cons,hx]at h
    exact ih h
   ·dsimp only at h
    rw[if_neg hc,List.lookup_cons,hx]at h
    exact ih h
def hid(x:Str)(N:List Str):List Str:=N.map fun y=>if y=x then ("." : Str)++x else y
def cxComp(X:Cx)(scope:Scope)(cl:List (Str×Addr))(C:Addr)(x:Str)(fp:List Addr)(s3:Shared)(H3:Hp):Cx:=
 { X with N:=x::hid x X.N,s₀:=s3,H₀:=H3,env:=compEnvC scope cl C X.env,outer:=X.stack,stack:=X.stack,ex:=fp,fn:=fun _=>false,pn:=[],xe:=fun _ _=>False }
structure CompOk(N:List Str)(osc sc:Scope)(x:Str):Prop where
 kind:sc.kind=.function
 cell:∀y∈sc.names,y.2≠.cell
 names:∀y∈sc.names,y.2=.local->sc.names.lookup y.1=some .local
 own:sc.names.lookup x=some .local
 fr:∀y∈sc.names,y.2=.free->osc.names.lookup y.1=some .cell\/osc.names.lookup y.1=some .free
 see:∀y∈hid x N,sc.names.lookup y≠some .local
 dot:sc.names.lookup (("." : Str)++x)=none
 nd:(x::hid x N).Nodup
def tComp(wi:TI)(tt:TT)(te:TE):TE:=fun σ H Q=>wi σ H fun J H1=>∀D,H1 D=none->∃W:Nat->Nat->List V->Hp->Prop,
 (∃m,W 0 m [] (upd H1 D (.lst [])))/\∀i m ys H2,W i m ys H2->H2 D=some (.lst ys) /\
  ((J.stop i H2 ∧ Q (.ref D) H2) ∨ (J.go i H2 ∧ ∀ x H3, J.yld i H2 x H3 → tt (some x :: σ) H3 fun ok H4 => if ok = true then
    te (some x::σ) H4 (fun y H5=>H5 D=some (.lst ys)/\ys.length<sizeLine/\∃m',m'<m/\W (i+1) m' (ys++[y]) (upd H5 D (.lst (ys++[y]))))
    else ∃m',m'<m/\W (i+1) m' ys H4))
def PTs(X:Cx)(ifs:List Expr)(t:TT):Prop:=
 ∀(pins:List (Addr×Obj)) (s:Shared) (σ:St) (H:Hp) (Q:Bool->Hp->Prop),Inv X pins σ H s->t σ H Q ->
  wpAny (model X.prog X.w) X.A (forIn ifs true fun c r=>if r=true then do let ok <-isTrue c X.env (eval c X.env);pure (ForInStep.yield ok)else pure (ForInStep.yield r)) (TP X pins σ Q) X.xe s
def tTrue:TT:=fun _ H Q=>Q true H
theorem pts_nil{X:Cx}:PTs X [] tTrue:=fun _ _ _ H _ I h=>wpAny_tests_nil ⟨H,I,h⟩
theorem pts_one{X:Cx}{c:Expr}{t:TT}(h:PT X c t):PTs X [c] t:=fun pins s σ H Q I hq=>wpAny_tests_one (h pins s σ H Q I hq)
theorem comp_loop{prog:Program}{w:World}{A:Around}{R:Result->Shared->Prop}{s:Shared}{elt target iter:Expr}{ifs:List Expr}{scope:Scope}{pos:Pos}{it acc:Value}{env:Env}(I:Nat->Shared->Prop)
  (turn:∀n s,I n s->wpAny (model prog w) A (pyNext it) (fun r s₁=>match r with
   | none=>R (.ok .next) s₁
   | some v=>wpAny (model prog w) A (letOwnedTupleGo target it v) (fun _ s₂=>wpAny (model prog w) A (assign target env v) (fun _ s₃=>
     wpAny (model prog w) A (forIn ifs true fun c r=>if r=true then do let ok <-isTrue c env (eval c env);pure (ForInStep.yield ok)else pure (ForInStep.yield r)) (fun ok s₄=>
      if ok=true then wpAny (model prog w) A (eval elt env) (fun x s₅=>
       wpAny (model prog w) A (call (.builtin "list.append") [acc,x]) (fun _ s₆=>∃m,m<n/\I m s₆) (fun _ _=>False) s₅) (fun _ _=>False) s₄
      else ∃m,m<n/\I m s₄) (fun _ _=>False) s₃) (fun _ _=>False) s₂) (fun _ _=>False) s₁) (fun _ _=>False) s)
  (n:Nat) (h:I n s) :
  codeAny (model prog w) A (.compLoop (.ListComp elt [⟨target,iter,ifs,0⟩] scope pos) 0 it acc env) R s:=by
 have up:∀ {α:Type} {m:Sem α} {Q:α->Shared->Prop} {E:Value->Shared->Prop} {s:Shared},wpAny (model prog w) A m Q (fun _ _=>False) s->wpAny (model prog w) A m Q E s:=
  fun h=>wpAny_mono h (fun _ _ q=>q) fun _ _ f=>f.elim
 refine codeAny_loop rfl I (fun n s hI=>?_) n h
 refine wpAny_noted ?_
 rw[compTurn_list]
 refine wpAny_bind (wpAny_standAt (wpAny_bind (up (thn (turn n s hI) fun r s₁ h₁=>?_))))
 cases r with
 | none=>exact wpAny_pure h₁
 | some v=>
  refine wpAny_bind (up (thn h₁ fun _ s₂ h₂=>wpAny_bind (up (thn h₂ fun _ s₃ h₃=>wpAny_bind (up (thn h₃ fun ok s₄ h₄=>?_))))))
  cases ok with
  | false=>exact wpAny_pure ⟨rfl,by simpa using h₄⟩
  | true=>
   rw[if_pos rfl]at h₄
   exact wpAny_bind (wpAny_bind (up (thn h₄ fun x s₅ h₅=>wpAny_bind (up (thn h₅ fun _ s₆ h₆=>wpAny_pure (wpAny_pure ⟨rfl,h₆⟩))))))
section
variable {X:Cx}{elt iter:Expr}{x:Str}{px pos:Pos}{ifs:List Expr}{scope:Scope}
theorem comp_inv{pins:List (Addr×Obj)}{σ:St}{H:Hp}{s3:Shared}{cl:List (Str×Addr)}{fp:List Addr}{h4:Heap}{tk:Nat}(hc:CompOk X.N X.env.scope scope x)(I:Inv X pins σ H s3)
  (hcl:∀y c,cl.lookup y=some c->X.env.cells.lookup y=some c) (hcl2:∀y,(y,NameKind.free)∈scope.names->(cl.lookup y).isSome=true)
  (fpo:∀b∈fp,FpOk X pins H b) (fpl:∀b∈fp,b<s3.heap.objs.size)
  (hn:h4.Ns s3.heap.objs.size (fun _=>none)) (k:∀b o,s3.heap.get? b=some o->h4.get? b=some o) :
  Inv (cxComp X scope cl s3.heap.objs.size x fp s3 H) [] (none::σ) H { s3 with heap:=h4,toks:=tk }:=by
 have low:∀x y,(cxComp X scope cl s3.heap.objs.size x fp s3 H).env.cells.lookup y=cl.lookup y:=fun _ _=>rfl
 have below:∀y c,cl.lookup y=some c->c<s3.heap.objs.size:=fun y c e=>by
  obtain⟨v,q⟩:=I.cell y c (hcl y c e)
  exact q.lt
 have kinds:∀y,((cxComp X scope cl s3.heap.objs.size x fp s3 H).env.kindOf y=some .cell\/(cxComp X scope cl s3.heap.objs.size x fp s3 H).env.kindOf y=some .free)->scope.names.lookup y=some .free:=by
  intro y hy
  rcases hy with hy | hy
  ·rcases lookup_relabel hy with q | ⟨q,_⟩
   ·exact absurd rfl (hc.cell _ (PySem.mem_of_lookup q))
   ·exact q
  ·rcases lookup_relabel hy with q | ⟨q,z⟩
   ·exact q
   ·cases z
 refine⟨⟨I.ok.mod,?_,I.ok.glob,I.ok.blt,Nat.le_refl _,fun y z c h1 h2=>?_,fun y hy=>?_,fun y c h=>?_,I.ok.hd,I.ok.frames,.inl rfl,fun b hb=>⟨?_,fun y c e z=>?_⟩,fun b o e=>I.bs b o e,Nat.le_trans I.ok.bsz I.sz,fun b o e hb=>?_,fun b hb hf=>?_,I.stack,I.stkFree⟩,
  rfl,I.bare,Un.kept k,⟨_,hn,fun i y v h1 h2 h3=>?_⟩,fun y c e=>?_,I.fresh,fun y c e=>?_,fun p hp=>absurd (show p∈([]:List (Addr×Obj))from hp) (by simp),I.hok.kept k,?_⟩
 ·exact hc.kind
 ·exact I.ok.inj y z c (hcl _ _ h1) (hcl _ _ h2)
 ·have:=hcl2 y (PySem.mem_of_lookup (kinds y hy))
  exact Option.isSome_iff_exists.mp this
 ·cases h
 ·exact Nat.ne_of_lt (fpl b hb)
 ·exact(fpo b hb).2.2.2.2.1 y c (hcl y c e) z
 ·rcases(fpo b hb).2.2.2.1 with q | q
  ·exact I.ok.noex b o e q
  ·exact absurd (Nat.lt_of_lt_of_le (Heap.lt_size (I.ok.bs b o e).1) q) (Nat.lt_irrefl _)
 ·rcases List.mem_cons.mp (I.stkSub b hf)with e | e
  ·exact(fpo b hb).2.1 e
  ·exact(fpo b hb).2.2.1 e
 ·-- the names
  have h1:(x::hid x X.N)[i]? = some y:=h1
  cases i with
  | zero=>cases h2
  | succ i=>
   have h1:(hid x X.N)[i]? = some y:=h1
   have h2:σ[i]? = some (some v):=h2
   have my:y∈hid x X.N:=List.mem_of_getElem? h1
   have h3:(relabel scope X.env).names.lookup y=some .local\/(relabel scope X.env).names.lookup y=some .cell\/(relabel scope X.env).names.lookup y=some .free:=h3
   have hf:scope.names.lookup y=some .free:=by
    rcases h3 with q | q
    ·rcases lookup_relabel q with q | ⟨_,z⟩
     ·exact absurd q (hc.see y my)
     ·cases z
    ·exact kinds y q
   have hy:X.N[i]? = some y:=by
    unfold hid at h1
    rw[List.getElem?_map]at h1
    cases e:X.N[i]? with
    | none=>rw[e]at h1;cases h1
    | some z=>
     rw[e]at h1
     by_cases ez:z=x
     ·rw[Option.map_some,if_pos ez]at h1
      have h1:=Option.some.inj h1
      subst h1
      rw[hc.dot]at hf
      cases hf
     ·rw[Option.map_some,if_neg ez]at h1
      exact h1
   obtain⟨m,_,hl⟩:=I.loc
   obtain⟨c,hcc⟩:=Option.isSome_iff_exists.mp (hcl2 y (PySem.mem_of_lookup hf))
   have vis:Vis X.env.scope y:=by
    rcases hc.fr _ (PySem.mem_of_lookup hf) rfl with q | q
    ·exact .inr (.inl q)
    ·exact .inr (.inr q)
   obtain⟨u,ru,lk⟩:=hl i y v hy h2 vis
   refine⟨u,ru,.inr ⟨?_,c,hcc,?_⟩⟩
   ·rcases h3 with q | q
    ·rcases lookup_relabel q with q | ⟨_,z⟩
     ·exact absurd q (hc.see y my)
     ·cases z
    ·exact q
   ·have hce:=hcl y c hcc
    rcases lk with ⟨q,_⟩ | ⟨_,c',e',z⟩
    ·rcases hc.fr _ (PySem.mem_of_lookup hf) rfl with q' | q'
     ·have q:X.env.scope.names.lookup y=some .local:=q
      rw[show X.env.scope.names.lookup y=some NameKind.cell from q']at q
      cases q
     ·have q:X.env.scope.names.lookup y=some .local:=q
      rw[show X.env.scope.names.lookup y=some NameKind.free from q']at q
      cases q
    ·rw[e']at hce
     cases hce
     obtain⟨o,ho,hd⟩:=z
     exact⟨o,k _ _ ho,hd⟩
 ·obtain⟨v,o,ho,hd⟩:=I.cell y c (hcl y c e)
  exact⟨v,o,k _ _ ho,hd⟩
 ·exact I.freeC y c (hcl y c e)
 ·show(none::σ).length=(x::hid x X.N).length
  have:=I.len
  simp[hid,this]
theorem comp_block{pins:List (Addr×Obj)}{σ:St}{H1:Hp}{s2:Shared}{cl:List (Str×Addr)}{fp:List Addr}{it:Addr}{tn:Nat->Heap->Prop}{J:It}{tt:TT}{te:TE}{Q:VK}{E:Value->Shared->Prop}
  {RR:Value->Addr->Result->Shared->Prop} (hc:CompOk X.N X.env.scope scope x) (hcalm:X.calm=true)
  (hcl:∀y c,cl.lookup y=some c->X.env.cells.lookup y=some c) (hcl2:∀y,(y,NameKind.free)∈scope.names->(cl.lookup y).isSome=true)
  (ht:∀C fp s3 H3,PTs (cxComp X scope cl C x fp s3 H3) ifs tt) (he:∀C fp s3 H3,PE (cxComp X scope cl C x fp s3 H3) elt te)
  (I:Inv X pins σ H1 s2) (T:Turn X.prog X.w X.K (.Name x px) J fp it tn) (st:tn 0 s2.heap) (fpo:∀b∈fp,FpOk X pins H1 b)
  (h:∀D,H1 D=none->∃W:Nat->Nat->List V->Hp->Prop,
   (∃m,W 0 m [] (upd H1 D (.lst [])))/\∀i m ys H2,W i m ys H2->H2 D=some (.lst ys) /\
   ((J.stop i H2 ∧ Q (.ref D) H2) ∨ (J.go i H2 ∧ ∀ x H3, J.yld i H2 x H3 → tt (some x :: σ) H3 fun ok H4 => if ok = true then
     te (some x::σ) H4 (fun y H5=>H5 D=some (.lst ys)/\ys.length<sizeLine/\∃m',m'<m/\W (i+1) m' (ys++[y]) (upd H5 D (.lst (ys++[y]))))
     else ∃m',m'<m/\W (i+1) m' ys H4)))
  (hRR:∀D C s' H' m,Inv X pins σ H' s'->s'.heap.Ns C m->H' C=none->C≠X.env.locals->X.s₀.heap.objs.size<=C->(∀y c,X.env.cells.lookup y=some c->c≠C)->(∀p∈X.pn++pins,p.1≠C)->Q (.ref D) H'->RR (.ref D) C (.ok .next) s') :
  wpAny (model X.prog X.w) X.A (newList []) (fun acc s₃=>wpAny (model X.prog X.w) X.A (newFunctionEnv scope X.env.globals cl [] X.env.qual none .none (some X.env)) (fun cenv s₄=>
   codeAny (model X.prog X.w) X.A (.compStart (.ListComp elt [⟨.Name x px,iter,ifs,0⟩] scope pos) 0 (.ref it) acc { cenv with scope:=relabel scope X.env }) (RR acc cenv.locals) s₄) E s₃) E s2:=by
 refine wpAny_newObj_type (hd:=by size_fits) ?_
 have I3:=I.lnew (ys:=[]) (its:=[]) (t':=s2.toks) .nil (by show 0<=sizeLine;exact Nat.zero_le _)
 obtain⟨W,⟨m0,w0⟩,turn⟩:=h _ I.fresh
 generalize hD:s2.heap.objs.size=D at I3 w0 turn ⊢
 generalize hs3:({ s2 with heap:=s2.heap.push { cls:=.type "list", data:=.seq ([]:List Value).toArray } }:Shared)=s3
 have hs3':({ s2 with heap:=s2.heap.push { cls:=.type "list", data:=.seq ([]:List Value).toArray },toks:=s2.toks }:Shared)=s3:=hs3
 rw[hs3']at I3
 have keep3:∀b o,s2.heap.get? b=some o->s3.heap.get? b=some o:=fun b o e=>by rw[<-hs3];exact Heap.get?_push_of_some _ e
 have fpl:∀b∈fp,b<s3.heap.objs.size:=fun b hb=>by
  obtain⟨o,e,_⟩:=T.obj _ _ st b hb
  exact Heap.lt_size (keep3 b o e)
 have fpD:∀b∈fp,b≠D:=fun b hb z=>by
  obtain⟨o,e,_⟩:=T.obj _ _ st b hb
  exact absurd (Heap.lt_size e) (by rw[z,hD];exact Nat.lt_irrefl _)
 have fpo3:∀b∈fp,FpOk X pins (upd H1 D (.lst [])) b:=fun b hb=>⟨by rw[upd_ne (fpD b hb)];exact(fpo b hb).1,(fpo b hb).2⟩
 show wpAny _ _ _ _ _ s3
 refine wpAny_newFunctionEnv hc.cell (by intro y hy;simp at hy) (fun h₁ hns₁ hsb₁=>?_) hc.kind
 dsimp only[newEnv]at hns₁ hsb₁ ⊢
 have keep4:∀b o,s3.heap.get? b=some o->h₁.get? b=some o:=fun b o e=>hsb₁.extBut b o (Nat.ne_of_lt (Heap.lt_size e)) (Heap.get?_push_of_some _ e)
 have I4:=comp_inv (tk:=s3.toks+([]:List (Str×Value)).length) hc I3 hcl hcl2 fpo3 fpl hns₁ keep4
 have st4:tn 0 h₁:=T.keep _ _ _ st fun b hb o e=>keep4 b o (keep3 b o e)
 have loop:∀s₄:Shared,s₄={ s3 with heap:=h₁,toks:=s3.toks+([]:List (Str×Value)).length } ->
   codeAny (model X.prog X.w) X.A (.compLoop (.ListComp elt [⟨.Name x px,iter,ifs,0⟩] scope pos) 0 (.ref it) (.ref D) (compEnvC scope cl s3.heap.objs.size X.env)) (RR (.ref D) s3.heap.objs.size) s₄:=by
  rintro s₄ rfl
  have stat:∀ {H':Hp},(∀b∈fp,H' b=none)->∀b∈fp,FpOk (cxComp X scope cl s3.heap.objs.size x fp s3 (upd H1 D (.lst []))) [] H' b:=fun hn b hb=>
   ⟨hn b hb,Nat.ne_of_lt (fpl b hb),fun hf=>by
    rcases List.mem_cons.mp (I3.stkSub b hf)with e | e
    ·exact(fpo b hb).2.1 e
    ·exact(fpo b hb).2.2.1 e,.inl hb,fun y c e=>(fpo b hb).2.2.2.2.1 y c (hcl y c e),fun p hp=>absurd (show p∈([]:List (Addr×Obj))from hp) (by simp)⟩
  refine comp_loop (env:=compEnvC scope cl s3.heap.objs.size X.env) (fun n s'=>∃i ys H',Inv (cxComp X scope cl s3.heap.objs.size x fp s3 (upd H1 D (.lst []))) [] (none::σ) H' s'/\tn i s'.heap/\(∀b∈fp,H' b=none)/\W i n ys H') ?_ m0
   ⟨0,[],_,I4,st4,fun b hb=>(fpo3 b hb).1,w0⟩
  rintro n s5 ⟨i,ys,H5,I5,st5,fr5,w5⟩
  obtain⟨hDy,alt⟩:=turn i n ys H5 w5
  rcases alt with ⟨stop,q⟩ | ⟨go,step⟩
  ·refine wpAny_mono (T.done (cxComp X scope cl s3.heap.objs.size x fp s3 (upd H1 D (.lst []))) rfl rfl rfl hcalm i [] s5 _ H5 (fun _ _=>False) I5 (stat fr5) st5 stop) (fun r s6 ⟨hr,I6⟩=>?_) fun _ _ f=>f
   subst hr
   obtain⟨m6,n6,_⟩:=I6.loc
   have J6:Inv X pins σ H5 s6:=by
    refine I3.call' (ch:=fp) I6.os I6.base I6.hok I6.bare fun b hb=>?_
    obtain⟨_,f1,f2,f3,f4,f5⟩:=fpo3 b hb
    exact⟨f3,f1,f4,f5⟩
   refine hRR D _ s6 H5 m6 J6 n6 I6.free (Nat.ne_of_gt I3.lt) I3.sz (fun y c e z=>?_) (fun p hp z=>?_) q
   ·obtain⟨v,q⟩:=I3.cell y c e
    exact absurd q.lt (by rw[z];exact Nat.lt_irrefl _)
   ·exact absurd (Heap.lt_size (I3.pin p hp).1) (by rw[z];exact Nat.lt_irrefl _)
  ·refine wpAny_mono (T.item (cxComp X scope cl s3.heap.objs.size x fp s3 (upd H1 D (.lst []))) rfl rfl rfl hcalm i [] s5 _ H5 (fun _ _=>False) I5 (stat fr5) st5 go) (fun r s6 ⟨u,hr,h6⟩=>?_) fun _ _ f=>f
   subst hr
   refine thn h6 fun _ s6 ⟨xv,H6,I6,r6,y6,st6,fr6⟩=>?_
   have I6':=I6.pinned (stat fr6) (T.obj _ _ st6)
   refine wpAny_assign_Name (store_ok (i:=0) I6' ?nd rfl (.inl ?loc) r6 (fun s7 I7=>?_) (.inr ?loc))
   case nd=>exact hc.nd
   case loc=>exact lookup_relabel_local hc.own
   have I7:Inv (cxComp X scope cl s3.heap.objs.size x fp s3 (upd H1 D (.lst []))) ([]++pinsAt fp s6.heap) (some xv::σ) H6 s7:=I7
   have again:∀ {s8:Shared} {H8:Hp} {ys8:List V},Inv (cxComp X scope cl s3.heap.objs.size x fp s3 (upd H1 D (.lst []))) ([]++pinsAt fp s6.heap) (some xv::σ) H8 s8->(∃m',m'<n/\W (i+1) m' ys8 H8) ->
     ∃m,m<n/\∃i ys H',Inv (cxComp X scope cl s3.heap.objs.size x fp s3 (upd H1 D (.lst []))) [] (none::σ) H' s8/\tn i s8.heap/\(∀b∈fp,H' b=none)/\W i m ys H':=by
    rintro s8 H8 ys8 I8 ⟨m',hm,w8⟩
    refine⟨m',hm,i+1,ys8,H8,(I8.unpinned (pins:=[])).weak rfl (fun j v e=>?_),T.keep _ _ _ st6 fun b hb o e=>(I8.pin (b,o) (List.mem_append_right _ (List.mem_append_right _ (mem_pinsAt hb e)))).1,fun b hb=>?_,w8⟩
    ·cases j with
     | zero=>cases e
     | succ j=>exact e
    ·obtain⟨o,e,d⟩:=T.obj _ _ st6 b hb
     exact(I8.pin (b,o) (List.mem_append_right _ (List.mem_append_right _ (mem_pinsAt hb e)))).2.1
   refine thn (ht _ fp s3 _ _ s7 _ H6 _ I7 (step xv H6 y6)) (fun ok s8 ⟨H8,I8,q8⟩=>?_)
   cases ok with
   | false=>exact again I8 (by simpa using q8)
   | true=>
    rw[if_pos rfl]at q8
    rw[if_pos rfl]
    refine thn (he _ fp s3 _ _ s8 _ H8 _ I8 q8) (fun v s9 ⟨y,H9,I9,r9,hD9,hz9,w9⟩=>?_)
    refine wpAny_mono (mt_append (X:=cxComp X scope cl s3.heap.objs.size x fp s3 (upd H1 D (.lst []))) _ s9 _ H9 (.ref D) [y] (.ref D) [v] (fun _ H'=>H'=upd H9 D (.lst (ys++[y]))) I9 rfl (.cons r9 .nil) ⟨D,ys,y,rfl,rfl,hD9,hz9,rfl⟩) (fun _ s10 ⟨_,H10,I10,_,e10⟩=>?_) fun _ _ f=>f
    subst e10
    exact again I10 w9
 exact codeAny_compStart_list (loop _ rfl) (T.self X.A 0 _ _ _ st4 (loop _ rfl))
theorem comp_cells{pins:List (Addr×Obj)}{σ:St}{H:Hp}{s:Shared}(hc:CompOk X.N X.env.scope scope x)(I:Inv X pins σ H s):∀y∈scope.names,y.2=.free->∃c,X.env.cells.lookup y.1=some c:=by
 intro y hy e
 rcases hc.fr y hy e with q | q
 ·exact I.ok.has y.1 (.inl q)
 ·exact I.ok.has y.1 (.inr q)
theorem pe_comp{wi:TI}{tt:TT}{te:TE}(hc:CompOk X.N X.env.scope scope x)(hcalm:X.calm=true)(hi:PI X (.Name x px) iter wi)
  (ht:∀cl C fp s3 H3,PTs (cxComp X scope cl C x fp s3 H3) ifs tt) (he:∀cl C fp s3 H3,PE (cxComp X scope cl C x fp s3 H3) elt te)
  (hs:∀x,foldedSetIterable iter X.env x=pure x:=by intro _;rfl) :
  PE X (.ListComp elt [⟨.Name x px,iter,ifs,0⟩] scope pos) (tComp wi tt te):=by
 intro pins s σ H Q I h
 obtain⟨cl,hclos,hcl,hcl2⟩:=closure_ex (comp_cells hc I)
 rw[eval_ListComp]
 refine wpAny_comprehension_free (use:=none) rfl hs hclos hc.kind hc.names (thn (hi pins s σ H _ I h) fun v s1 h1=>thn h1 fun itv s2 ⟨it,fp,tn,J,H2,e,I2,T,st,fpo,R⟩=>?_)
 subst e
 refine comp_block (RR:=fun acc C=>compPost (model X.prog X.w) X.A X.xe none (EP X pins σ Q) acc C) (Q:=Q) hc hcalm hcl hcl2 (ht cl) (he cl) I2 T st fpo R ?_
 intro D C s' H' m I' n f1 f2 f3 f4 f5 q
 exact⟨m,n,fun h' sb=>⟨.ref D,H',I'.turned (t':=s'.toks) (fun b o hb e=>(sb.2 b hb).trans e) f1 f2 (.inr f3) f4 f5,rfl,q⟩⟩
theorem ps_setcomp{wi:TI}{tt:TT}{te:TE}{i:Nat}{y:Str}{py spos:Pos}(hN:X.N.Nodup)(hiy:X.N[i]? = some y)(hy:X.env.scope.names.lookup y=some .local)(hc:CompOk X.N X.env.scope scope x)(hcalm:X.calm=true)(hi:PI X (.Name x px) iter wi)
  (ht:∀cl C fp s3 H3,PTs (cxComp X scope cl C x fp s3 H3) ifs tt) (he:∀cl C fp s3 H3,PE (cxComp X scope cl C x fp s3 H3) elt te)
  (hsw:swapsWith (.ListComp elt [⟨.Name x px,iter,ifs,0⟩] scope pos) (some (.Name y py)) spos.line X.env=pure true:=by rfl)
  (hs:∀x,foldedSetIterable iter X.env x=pure x:=by intro _;rfl) :
  PS X (.Assign [.Name y py] (.ListComp elt [⟨.Name x px,iter,ifs,0⟩] scope pos) spos) (fun D σ H=>tComp wi tt te σ H fun v H1=>D.nx (σ.set i (some v)) H1):=by
 intro pins s σ H D I h
 obtain⟨cl,hclos,hcl,hcl2⟩:=closure_ex (comp_cells hc I)
 rw[exec_Assign_Name_used _ _ _ _ hsw]
 refine wpAny_bind (wpAny_standAt (wpAny_bind ?_))
 show wpAny _ X.A (do let _ <-comprehension (.ListComp elt [⟨.Name x px,iter,ifs,0⟩] scope pos) scope X.env _ (newList []) false (eval iter X.env) (some (assign (.Name y py) X.env))) _ _ s
 refine wpAny_bind (wpAny_mono (wpAny_comprehension_free (use:=some (assign (.Name y py) X.env)) (Q:=fun _ s'=>SP X pins D .next s') rfl hs hclos hc.kind hc.names
  (thn (hi pins s σ H _ I h) fun v s1 h1=>thn h1 fun itv s2 ⟨it,fp,tn,J,H2,e,I2,T,st,fpo,R⟩=>?_)) (fun _ s' hq=>wpAny_pure (wpAny_pure hq)) fun _ _ e=>e)
 subst e
 refine comp_block (RR:=fun acc C=>compPost (model X.prog X.w) X.A X.xe (some (assign (.Name y py) X.env)) (fun _ s'=>SP X pins D .next s') acc C) (Q:=fun v H1=>D.nx (σ.set i (some v)) H1) hc hcalm hcl hcl2 (ht cl) (he cl) I2 T st fpo R ?_
 intro E C s' H' m I' n f1 f2 f3 f4 f5 q
 show wpAny _ _ (assign (.Name y py) X.env (.ref E)) _ _ _
 refine wpAny_assign_Name (store_ok2 (v:=.ref E) I' hN hiy (.inl hy) rfl (fun s'' I'' ch=>?_) (.inr hy))
 obtain⟨a,sb,ha⟩:=ch
 have hCa:C≠a:=by
  rcases ha with e | e
  ·rw[e];exact f2
  ·exact fun z=>f4 y a e z.symm
 exact⟨m,n.sameBut sb hCa,fun h' sb'=>⟨_,_,I''.turned (t':=s''.toks) (fun b o hb e=>(sb'.2 b hb).trans e) f1 f2 (.inr f3) f4 f5,q⟩⟩
end
end L2
namespace L2
open PySem PySem.Spec PyProof.Rows
section
variable {X:Cx}
theorem OpR.imp{f:Value->Value->Sem Value}{r r':R2}(h:OpR X f r)(i:∀x y H Q,r' x y H Q->r x y H Q):OpR X f r':=fun pins s σ H x y u v Q I rx ry q=>h pins s σ H x y u v Q I rx ry (i _ _ _ _ q)
theorem CallR.imp{f:Value}{r r':List V->Hp->VK->Prop}(h:CallR X f r)(i:∀xs H Q,r' xs H Q->r xs H Q):CallR X f r':=fun pins s σ H xs us Q I rx q=>h pins s σ H xs us Q I rx (i _ _ _ q)
theorem IxR.imp{r r':R2}(h:IxR X r)(i:∀x y H Q,r' x y H Q->r x y H Q):IxR X r':=by
 intro value slice pins s σ H x y v u Q I rx ry q hs
 exact h value slice pins s σ H x y v u Q I rx ry (i _ _ _ _ q) hs
theorem SlR.imp{r r':V->Option Int->Option Int->Hp->VK->Prop}(h:SlR X r)(i:∀x lo hi H Q,r' x lo hi H Q->r x lo hi H Q):SlR X r':=fun pins s σ H x v vl vu lo hi sl Q I rx hs pl pu q=>h pins s σ H x v vl vu lo hi sl Q I rx hs pl pu (i _ _ _ _ _ q)
def qAdd:R2:=fun x y H Q=>match x,y with
 | .int i,.int j=>Q (.int (i+j)) H
 | .str i,.str j=>i.length+j.length<=sizeLine/\Q (.str (i++j)) H
 | .ref a,.ref b=>match H a,H b with
  | some (.lst xs),some (.lst ys)=>xs.length+ys.length<=sizeLine/\∀p,H p=none->Q (.ref p) (upd H p (.lst (xs++ys)))
  | _,_=>False
 | _,_=>False
theorem op_qadd:OpR X (binaryOp .Add) qAdd:=by
 refine(op_add.or (op_add_str.or op_cat)).imp fun x y H Q h=>?_
 unfold qAdd at h
 split at h
 ·exact .inl ⟨_,_,rfl,rfl,h⟩
 ·exact .inr (.inl ⟨_,_,rfl,rfl,h.1,h.2⟩)
 ·split at h
  ·exact .inr (.inr ⟨_,_,_,_,rfl,rfl,by assumption,by assumption,h.1,h.2⟩)
  ·exact h.elim
 ·exact h.elim
def q2I(C:Int->Int->Prop)(g:Int->Int->V):R2:=fun x y H Q=>match x,y with
 | .int i,.int j=>C i j/\Q (g i j) H
 | _,_=>False
def q2I0(g:Int->Int->V):R2:=fun x y H Q=>match x,y with
 | .int i,.int j=>Q (g i j) H
 | _,_=>False
theorem q2I_of{f:Value->Value->Sem Value}{C:Int->Int->Prop}{g:Int->Int->V}(h:OpR X f (rI C g)):OpR X f (q2I C g):=h.imp fun x y H Q q=>by
 unfold q2I at q
 split at q
 ·exact⟨_,_,rfl,rfl,q.1,q.2⟩
 ·exact q.elim
theorem q2I0_of{f:Value->Value->Sem Value}{g:Int->Int->V}(h:OpR X f (rI0 g)):OpR X f (q2I0 g):=h.imp fun x y H Q q=>by
 unfold q2I0 at q
 split at q
 ·exact⟨_,_,rfl,rfl,q⟩
 ·exact q.elim
abbrev qSub:R2:=q2I0 fun i j=>.int (i - j)
abbrev qMul:R2:=q2I CMul fun i j=>.int (i * j)
abbrev qMod:R2:=q2I (fun _ j=>0<j) fun i j=>.int (i % j)
abbrev qPow:R2:=q2I CPow fun i j=>.int (i ^ j.toNat)
abbrev qDiv:R2:=q2I (fun _ j=>0<j/\j<2 ^ 64) fun i j=>.int (i / j)
abbrev qLt:R2:=q2I0 fun i j=>.bl (decide (i<j))
abbrev qLe:R2:=q2I0 fun i j=>.bl (decide (i<=j))
abbrev qGt:R2:=q2I0 fun i j=>.bl (decide (j<i))
abbrev qGe:R2:=q2I0 fun i j=>.bl (decide (j<=i))
theorem op_qsub:OpR X (binaryOp .Sub) qSub:=q2I0_of op_sub
theorem op_qmul:OpR X (binaryOp .Mult) qMul:=q2I_of op_mul
theorem op_qmod:OpR X (binaryOp .Mod) qMod:=q2I_of op_mod
theorem op_qpow:OpR X (binaryOp .Pow) qPow:=q2I_of op_pow
theorem op_qdiv:OpR X (binaryOp .FloorDiv) qDiv:=q2I_of (opI fun i j _ _ _ _ _ hc q=>by
 have hl:j.natAbs.log2<9000:=by
  have:j.natAbs<2 ^ 64:=by have:=hc.1;have:=hc.2;omega
  by_cases h0:j.natAbs=0
  ·rw[h0];decide +kernel
  ·exact Nat.lt_trans ((Nat.log2_lt h0).mpr this) (by decide)
 refine floordiv_int (by omega) ?_ (.inl (PyProof.noPylong_of_log2 hl))
 rw[Int.fdiv_eq_ediv_of_nonneg _ (by omega)]
 exact q)
theorem op_qlt:OpR X (compareOp .Lt) qLt:=q2I0_of op_lt
theorem op_qle:OpR X (compareOp .LtE) qLe:=q2I0_of op_le
theorem op_qgt:OpR X (compareOp .Gt) qGt:=q2I0_of op_gt
theorem op_qge:OpR X (compareOp .GtE) qGe:=q2I0_of op_ge
def qIx:R2:=fun x y H Q=>match x,y with
 | .ref p,.int i=>match H p with
  | some (.lst xs)=>∃v,atI xs i=some v/\Q v H
  | some (.tup xs)=>∃v,atI xs i=some v/\Q v H
  | _=>False
 | .str z,.int i=>z.length<=sizeLine/\∃c,atI z.cps.toList i=some c/\Q (.str ⟨#[c]⟩) H
 | _,_=>False
theorem ix_q:IxR X qIx:=ix_seq.imp fun x y H Q h=>by
 unfold qIx at h
 split at h
 ·split at h
  ·obtain⟨v,e,q⟩:=h
   exact .inl ⟨_,_,_,v,rfl,rfl,SqL.of (by assumption),e,q⟩
  ·obtain⟨v,e,q⟩:=h
   exact .inr (.inl ⟨_,_,_,v,rfl,rfl,SqT.of (by assumption),e,q⟩)
  ·exact h.elim
 ·obtain⟨z,c,e,q⟩:=h
  exact .inr (.inr ⟨_,_,c,rfl,rfl,z,e,q⟩)
 ·exact h.elim
def qSl:V->Option Int->Option Int->Hp->VK->Prop:=fun x lo hi H Q=>match x with
 | .ref a=>match H a with
  | some (.lst xs)=>∀p,H p=none->Q (.ref p) (upd H p (.lst (cutV xs lo hi)))
  | some (.tup xs)=>¬(HT.sIx xs.length 0 lo=0/\HT.sIx xs.length xs.length hi=xs.length)/\∀p,H p=none->Q (.ref p) (upd H p (.tup (cutV xs lo hi)))
  | _=>False
 | _=>False
theorem sl_q:SlR X qSl:=(sl_list.or sl_tup).imp fun x lo hi H Q h=>by
 unfold qSl at h
 split at h
 ·split at h
  ·exact .inl ⟨_,_,rfl,SqL.of (by assumption),h⟩
  ·exact .inr ⟨_,_,rfl,SqT.of (by assumption),h.1,h.2⟩
  ·exact h.elim
 ·exact h.elim
def qLen:List V->Hp->VK->Prop:=fun xs H Q=>match xs with
 | [.ref p]=>match H p with
  | some (.lst ys)=>Q (.int ys.length) H
  | some (.tup ys)=>Q (.int ys.length) H
  | _=>False
 | [.str z]=>z.length<=sizeLine/\Q (.int z.length) H
 | _=>False
theorem call_qlen:CallR X (.builtin "len") qLen:=(call_len_seq.or call_len_str).imp fun xs H Q h=>by
 unfold qLen at h
 split at h
 ·split at h
  ·exact .inl ⟨_,_,rfl,.inl (SqL.of (by assumption)),h⟩
  ·exact .inl ⟨_,_,rfl,.inr (SqT.of (by assumption)),h⟩
  ·exact h.elim
 ·exact .inr ⟨_,rfl,h.1,h.2⟩
 ·exact h.elim
def qAbs:List V->Hp->VK->Prop:=fun xs H Q=>match xs with
 | [.int i]=>Q (.int (if i<0 then -i else i)) H
 | _=>False
theorem call_qabs:CallR X (.builtin "abs") qAbs:=call_abs.imp fun xs H Q h=>by
 unfold qAbs at h
 split at h
 ·exact⟨_,rfl,h⟩
 ·exact h.elim
def qSet:V->V->V->Hp->(Hp->Prop)->Prop:=fun o i v H Q=>match o,i with
 | .ref p,.int k=>match H p with
  | some (.lst xs)=>∃j,ixN xs.length k=some j/\Q (upd H p (.lst (xs.set j v)))
  | _=>False
 | _,_=>False
theorem set_q:PSet X qSet:=by
 intro pins s σ H o i v u1 u2 u3 Q I r1 r2 r3 h
 refine set_list pins s σ H o i v u1 u2 u3 Q I r1 r2 r3 ?_
 unfold qSet at h
 split at h
 ·split at h
  ·obtain⟨j,e,q⟩:=h
   exact⟨_,_,_,j,rfl,rfl,by assumption,e,q⟩
  ·exact h.elim
 ·exact h.elim
def flatEq(xs ys:List V):Bool:=(List.range (min xs.length ys.length)).all (fun j=>eqV (xs.getD j .non) (ys.getD j .non))&&xs.length == ys.length
def eqO(x y:V)(H:Hp):Option Bool:=if scal x y=true then some (decide (x=y))else match x,y with
 | .ref a,.ref b=>match H a,H b with
  | some (.tup xs),some (.tup ys)=>if xs.all flatV=true/\ys.all flatV=true then some (flatEq xs ys)else none
  | some (.lst xs),some (.lst ys)=>if xs.all flatV=true/\ys.all flatV=true then some (flatEq xs ys)else none
  | _,_=>none
 | .non,.ref a=>match H a with
  | some (.tup _)=>some false
  | _=>none
 | .ref a,.non=>match H a with
  | some (.tup _)=>some false
  | _=>none
 | _,_=>none
def qEq:R2:=fun x y H Q=>∃b,eqO x y H=some b/\Q (.bl b) H
def qNe:R2:=fun x y H Q=>∃b,eqO x y H=some b/\Q (.bl (!b)) H
theorem flat_at{A:Around}{s:Shared}{xs ys:List V}{us ws:List Value}(rx:Vals xs us)(ry:Vals ys ws)(fx:xs.all flatV=true)(fy:ys.all flatV=true) :
  ∀j (h1:j<us.toArray.size) (h2:j<ws.toArray.size),SeqAt.EqAt A s us.toArray[j] ws.toArray[j] (eqV (xs.getD j .non) (ys.getD j .non)):=by
 intro j h1 h2
 have l1:=rx.length
 have l2:=ry.length
 have h1':j<us.length:=by simpa using h1
 have h2':j<ws.length:=by simpa using h2
 have e1:xs[j]? = some (xs[j]'(by omega)):=by simp
 have e2:ys[j]? = some (ys[j]'(by omega)):=by simp
 obtain⟨u,hu,ru⟩:=rx.get e1
 obtain⟨w,hw,rw'⟩:=ry.get e2
 have z1:us.toArray[j]=u:=by
  have:us[j]? = some us[j]:=by simp
  rw[this]at hu
  simpa using hu
 have z2:ws.toArray[j]=w:=by
  have:ws[j]? = some ws[j]:=by simp
  rw[this]at hw
  simpa using hw
 rw[z1,z2]
 have g1:xs.getD j .non=xs[j]'(by omega):=by simp[List.getD,e1]
 have g2:ys.getD j .non=ys[j]'(by omega):=by simp[List.getD,e2]
 rw[g1,g2]
 exact eqAt_V ru rw' (List.all_eq_true.mp fx _ (List.getElem_mem _)) (List.all_eq_true.mp fy _ (List.getElem_mem _))
theorem rc_of{pins:List (Addr×Obj)}{s:Shared}{σ:St}{H:Hp}{x y:V}{v u:Value}{k:Bool}(I:Inv X pins σ H s)(hu:X.A.units<cLine)(rx:RelV x v)(ry:RelV y u)(hs:¬scal x y=true)(e:eqO x y H=some k) :
  SeqAt.RcAt X.A s v u k/\SeqAt.RcNeAt X.A s v u (!k):=by
 unfold eqO at e
 rw[if_neg hs]at e
 split at e
 ·rename_i a b
  cases rx
  cases ry
  split at e
  ·rename_i xs ys ha hb
   split at e
   ·rename_i hf
    cases e
    obtain⟨us,r1,t1,_⟩:=I.tuple (SqT.of ha)
    obtain⟨ws,r2,t2,_⟩:=I.tuple (SqT.of hb)
    have l1:=r1.length
    have l2:=r2.length
    have q1:=SeqAt.RcAt.tuples (A:=X.A) t1 t2 hu (flat_at r1 r2 hf.1 hf.2)
    have q2:=SeqAt.RcNeAt.tuples (A:=X.A) t1 t2 hu (flat_at r1 r2 hf.1 hf.2)
    simp only[List.size_toArray,<-l1,<-l2]at q1 q2
    exact⟨q1,q2⟩
   ·cases e
  ·rename_i xs ys ha hb
   split at e
   ·rename_i hf
    cases e
    obtain⟨us,r1,t1,_⟩:=I.list (SqL.of ha)
    obtain⟨ws,r2,t2,_⟩:=I.list (SqL.of hb)
    have l1:=r1.length
    have l2:=r2.length
    by_cases hl:us.toArray.size=ws.toArray.size
    ·have q1:=SeqAt.RcAt.lists (A:=X.A) t1.isList t2.isList hl hu (flat_at r1 r2 hf.1 hf.2)
     have q2:=SeqAt.RcNeAt.lists (A:=X.A) t1.isList t2.isList hl hu (flat_at r1 r2 hf.1 hf.2)
     have hl':xs.length=ys.length:=by simpa[<-l1,<-l2]using hl
     have ef:flatEq xs ys=(List.range us.toArray.size).all fun j=>eqV (xs.getD j .non) (ys.getD j .non):=by
      unfold flatEq
      rw[hl',Nat.min_self,List.size_toArray,<-l1,hl']
      simp
     rw[ef]
     exact⟨q1,q2⟩
    ·have hl2:(us.toArray.size != ws.toArray.size)=true:=by simpa using hl
     have q1:=SeqAt.RcAt.lists_lengths (A:=X.A) t1.isList t2.isList hl2 hu
     have q2:=SeqAt.RcNeAt.lists_lengths (A:=X.A) t1.isList t2.isList hl2 hu
     have ef:flatEq xs ys=false:=by
      unfold flatEq
      have:¬xs.length=ys.length:=by simpa[<-l1,<-l2]using hl
      simp[this]
     rw[ef]
     exact⟨q1,q2⟩
   ·cases e
  ·cases e
 ·cases rx
  cases ry
  split at e
  ·cases e
   obtain⟨us,_,t1,_⟩:=I.tuple (SqT.of (by assumption))
   exact⟨SeqAt.RcAt.none_tuple t1 hu,SeqAt.RcNeAt.none_tuple t1 hu⟩
  ·cases e
 ·cases rx
  cases ry
  split at e
  ·cases e
   obtain⟨us,_,t1,_⟩:=I.tuple (SqT.of (by assumption))
   exact⟨SeqAt.RcAt.tuple_none t1 hu,SeqAt.RcNeAt.tuple_none t1 hu⟩
  ·cases e
 ·cases e
theorem op_qeq(hu:X.A.units<cLine):OpR X (compareOp .Eq) qEq:=by
 intro pins s σ H x y v u Q I rx ry h
 obtain⟨k,e,q⟩:=h
 by_cases hs:scal x y=true
 ·unfold eqO at e
  rw[if_pos hs]at e
  cases e
  exact op_eq pins s σ H x y v u Q I rx ry ⟨hs,q⟩
 ·exact(rc_of I hu rx ry hs e).1 _ _ _ _ ⟨.bl k,H,I,rfl,q⟩
theorem op_qne(hu:X.A.units<cLine):OpR X (compareOp .NotEq) qNe:=by
 intro pins s σ H x y v u Q I rx ry h
 obtain⟨k,e,q⟩:=h
 by_cases hs:scal x y=true
 ·unfold eqO at e
  rw[if_pos hs]at e
  cases e
  exact op_ne pins s σ H x y v u Q I rx ry ⟨hs,q⟩
 ·exact(rc_of I hu rx ry hs e).2 _ _ _ _ ⟨.bl (!k),H,I,rfl,q⟩
def qIn(neg:Bool):R2:=fun x y H Q=>match x,y with
 | .str i,.str j=>Q (.bl (if neg then !(!(Builtin.Str.occurrences j i 0 j.length 1).isEmpty)else !(Builtin.Str.occurrences j i 0 j.length 1).isEmpty)) H
 | x,.ref p=>match H p with
  | some (.lst xs)=>flatV x=true/\xs.all flatV=true/\Q (.bl (if neg then !inV x xs else inV x xs)) H
  | some (.tup xs)=>flatV x=true/\xs.all flatV=true/\Q (.bl (if neg then !inV x xs else inV x xs)) H
  | _=>False
 | _,_=>False
theorem op_qin:OpR X (compareOp .In) (qIn false):=(op_in_str.or op_in_seq).imp fun x y H Q h=>by
 unfold qIn at h
 split at h
 ·exact .inl ⟨_,_,rfl,rfl,h⟩
 ·split at h
  ·exact .inr ⟨_,_,rfl,.inl (SqL.of (by assumption)),h.1,h.2.1,h.2.2⟩
  ·exact .inr ⟨_,_,rfl,.inr (SqT.of (by assumption)),h.1,h.2.1,h.2.2⟩
  ·exact h.elim
 ·exact h.elim
theorem op_qnotin:OpR X (compareOp .NotIn) (qIn true):=(op_notIn_str.or op_notIn_seq).imp fun x y H Q h=>by
 unfold qIn at h
 split at h
 ·exact .inl ⟨_,_,rfl,rfl,h⟩
 ·split at h
  ·exact .inr ⟨_,_,rfl,.inl (SqL.of (by assumption)),h.1,h.2.1,h.2.2⟩
  ·exact .inr ⟨_,_,rfl,.inr (SqT.of (by assumption)),h.1,h.2.1,h.2.2⟩
  ·exact h.elim
 ·exact h.elim
def qAppend:V->List V->Hp->VK->Prop:=fun x vs H Q=>match x,vs with
 | .ref l,[y]=>match H l with
  | some (.lst xs)=>xs.length<sizeLine/\Q .non (upd H l (.lst (xs++[y])))
  | _=>False
 | _,_=>False
theorem mt_qappend:MtR X "list.append" qAppend:=fun pins s σ H x xs v us Q I rx rv h=>by
 refine mt_append pins s σ H x xs v us Q I rx rv ?_
 unfold qAppend at h
 split at h
 ·split at h
  ·exact⟨_,_,_,rfl,rfl,by assumption,h.1,h.2⟩
  ·exact h.elim
 ·exact h.elim
def strsOf:List V->Option (List Str)
 | []=>some []
 | .str s::r=>(strsOf r).map (s :: ·)
 | _=>none
theorem strsOf_map(ss:List Str):strsOf (ss.map V.str)=some ss:=by
 induction ss with
 | nil=>rfl
 | cons s r ih=>simp[strsOf,ih]
theorem strsAre_of:∀ {xs:List V} {us:List Value} {ss:List Str},Vals xs us->strsOf xs=some ss->StrsAre us ss
 | _,_,ss,.nil,e=>by cases e;exact .nil
 | x::xs,_,ss,.cons r t,e=>by
  cases x with
  | str s=>
   obtain⟨k,rfl⟩:=r
   cases e2:strsOf xs with
   | none=>simp[strsOf,e2]at e
   | some ss2=>
    simp[strsOf,e2]at e
    subst e
    exact .cons _ _ (strsAre_of t e2)
  | _=>simp[strsOf]at e
def qJoin:V->List V->Hp->VK->Prop:=fun x vs H Q=>match x,vs with
 | .str x,[.ref l]=>match H l with
  | some (.lst xs)=>∃ss,strsOf xs=some ss/\(ss.map (·.length)).sum+ss.length * x.length<=16777216/\Q (.str (Txt.join x ss)) H
  | _=>False
 | _,_=>False
theorem mt_qjoin:MtR X "str.join" qJoin:=fun pins s σ H x xs v us Q I rx rv h=>by
 unfold qJoin at h
 split at h
 ·split at h
  ·obtain⟨ss,e,hk,q⟩:=h
   obtain⟨t,rfl⟩:=rx
   obtain⟨u,rfl,ru⟩:=rv.one
   cases ru
   obtain⟨its,r,p,hz⟩:=I.list (SqL.of (by assumption))
   exact join_list p.isList (strsAre_of r e) hk fun t' k=>⟨.str _,H,I.tok _,⟨_,rfl⟩,q⟩
  ·exact h.elim
 ·exact h.elim
def tyName(x:V)(H:Hp):Option String:=match x with
 | .non=>some "NoneType"
 | .bl _=>some "bool"
 | .int _=>some "int"
 | .str _=>some "str"
 | .ref a=>match H a with
  | some (.lst _)=>some "list"
  | some (.tup _)=>some "tuple"
  | some (.dK _)=>some "dict"
  | some (.dT _)=>some "dict"
  | _=>none
 | _=>none
def isKind(t c:String):Bool:=t == c||(t == "bool" && c == "int")
def kindsK:List String:=["int", "bool", "str", "list", "tuple", "dict"]
theorem kit_ok(K:Fg):∀t ∈ "NoneType" :: kindsK,∀c∈kindsK,PySem.W.kitOne K (.type t) (.type c)=some (isKind t c):=by
 intro t ht c hc
 simp only[kindsK,List.mem_cons,List.not_mem_nil,or_false]at ht hc
 rcases ht with rfl | rfl | rfl | rfl | rfl | rfl | rfl <;> rcases hc with rfl | rfl | rfl | rfl | rfl | rfl <;> kernel_rfl
theorem ty_ok{K:Fg}{H:Hp}{x:V}{t:String}(h:tyName x H=some t):TyOf K H x (.type t)/\t ∈ "NoneType" :: kindsK:=by
 unfold tyName at h
 split at h
 ·cases h;exact⟨.non,by decide⟩
 ·cases h;exact⟨.bl _,by decide⟩
 ·cases h;exact⟨.int _,by decide⟩
 ·cases h;exact⟨.str _,by decide⟩
 ·split at h
  ·cases h;exact⟨.lst (by assumption),by decide⟩
  ·cases h;exact⟨.tup (by assumption),by decide⟩
  ·cases h;exact⟨.dK (by assumption),by decide⟩
  ·cases h;exact⟨.dT (by assumption),by decide⟩
  ·cases h
 ·cases h
def qIsi:List V->Hp->VK->Prop:=fun xs H Q=>match xs with
 | [x,.ty c]=>∃t,tyName x H=some t/\c∈kindsK/\Q (.bl (isKind t c)) H
 | _=>False
theorem call_qisi:CallR X (.builtin "isinstance") qIsi:=fun pins s σ H xs us Q I r h=>by
 unfold qIsi at h
 split at h
 ·obtain⟨t,e,hc,q⟩:=h
  obtain⟨u,u2,rfl,ru,ru2⟩:=vals2 r
  cases ru2
  obtain⟨ty,ht⟩:=ty_ok (K:=X.K) e
  exact isinst_ok I ru ty (kit_ok X.K t ht _ hc) fun tk=>⟨.bl _,H,I.tok _,rfl,q⟩
 ·exact h.elim
def qRev:V->Hp->VK->Prop:=fun x H Q=>match x with
 | .ref a=>match H a with
  | some (.lst xs)=>∀p,H p=none->Q (.ref p) (upd H p (.lst xs.reverse))
  | _=>False
 | _=>False
def tRev(te:TE):TE:=fun σ H Q=>te σ H fun x H1=>qRev x H1 Q
def qGet:V->V->Hp->VK->Prop:=fun x y H Q=>match x,y with
 | .ref p,.int i=>match H p with
  | some (.lst xs)=>0<=i/\∃v,xs[i.toNat]? = some v/\Q v H
  | _=>False
 | _,_=>False
theorem get_q:PGet X qGet:=fun pins s σ H o i ov iv Q I r1 r2 h=>by
 unfold qGet at h
 split at h
 ·split at h
  ·obtain⟨h0,v,e,q⟩:=h
   cases r1
   obtain⟨t,rfl⟩:=r2
   obtain⟨its,r,pl,hz⟩:=I.list (SqL.of (by assumption))
   obtain⟨u,eu,ru⟩:=r.get e
   have hl:=(List.getElem?_eq_some_iff.mp e).1
   have hn:=line63
   exact wpAny_getItem_list pl.isList h0 (by omega) (by simpa using eu) ⟨v,H,I,ru,q⟩
  ·exact h.elim
 ·exact h.elim
def qIs:R2:=fun x y H Q=>y=.non/\Q (.bl (decide (x=.non))) H
def qIsNot:R2:=fun x y H Q=>y=.non/\Q (.bl (!decide (x=.non))) H
theorem op_qis:OpR X (compareOp .Is) qIs:=op_isN
theorem op_qisnot:OpR X (compareOp .IsNot) qIsNot:=op_notN
structure Callee(P:Program)(w:World)(K:Fg)(mg:Str->Option Value)(base:Heap)(k:Nat)(x:Str)(ps:List Str)(sp:Sp):Prop where
 ex:∃f fd,FnOk P w K mg base CX0 k f fd ps sp/\mg x=some (.ref f)/\PySem.W.keepIn K (.ref f)=true/\Binds K fd ps []
theorem pe_own{k j:Nat}{x:Str}{ps:List Str}{sp:Sp}{e:Expr}{es:List Expr}{t:TA}{p pos:Pos}(C:Callee X.prog X.w X.K X.mg X.base k x ps sp)(hr:Room j X.A)(hk:k<=j)(hg:Gl X x)(ha:PA X (e::es) t)
  (hdb:(x == ("__debug__" : Str))=false:=by decide) (he:starEach (e::es) X.env=(false,eval e X.env)::starEach es X.env:=by rfl) (hpl:(backTo pos (starEach es X.env)).any (·.1)=false:=by rfl) :
  PE X (.Call (.Name x p) (e::es) [] pos) (tCall sp [] E0 t):=by
 obtain⟨f,fd,F,hm,hkp,hb⟩:=C.ex
 exact pe_call F (hr.mono hk) hg hm hkp hb .nil pass0 ha hdb he hpl
theorem callee_of{P:Program}{w:World}{K:Fg}{mg:Str->Option Value}{base:Heap}{k:Nat}{x q:Str}{ps:List Str}{sp:Sp}{st:Stmt}{f:Addr}{fd:FuncData}(F:Fun K x q st f fd)(O:FnOk P w K mg base CX0 k f fd ps sp)
  (hm:mg x=some (.ref f)) (hb:Binds K fd ps []):Callee P w K mg base k x ps sp:=⟨f,fd,O,hm,F.kp,hb⟩
def qList:List V->Hp->VK->Prop:=fun xs H Q=>match xs with
 | [.ref p]=>match H p with
  | some (.lst ys)=>∀l,H l=none->Q (.ref l) (upd H l (.lst ys))
  | some (.tup ys)=>∀l,H l=none->Q (.ref l) (upd H l (.lst ys))
  | _=>False
 | _=>False
theorem call_qlist:CallR X (.type "list") qList:=call_list_of.imp fun xs H Q h=>by
 unfold qList at h
 split at h
 ·split at h
  ·exact⟨_,_,rfl,.inl (SqL.of (by assumption)),h⟩
  ·exact⟨_,_,rfl,.inr (SqT.of (by assumption)),h⟩
  ·exact h.elim
 ·exact h.elim
theorem valV_mem:∀ {kvs:List (Key×V)} {k:Key} {x:V},(kvs.map (·.1)).Nodup->(k,x)∈kvs->valV kvs k=some x
 | [],_,_,_,h=>by cases h
 | (k0,x0)::r,k,x,nd,h=>by
  have nd':k0∉r.map (·.1)/\(r.map (·.1)).Nodup:=List.nodup_cons.mp nd
  unfold valV
  rw[List.find?_cons]
  by_cases e:k0=k
  ·rw[show decide (((k0,x0):Key×V).1=k)=true from decide_eq_true e]
   rcases List.mem_cons.mp h with z | z
   ·cases z;rfl
   ·exact absurd (List.mem_map.mpr ⟨_,z,e.symm⟩) nd'.1
  ·rw[show decide (((k0,x0):Key×V).1=k)=false from decide_eq_false e]
   rcases List.mem_cons.mp h with z | z
   ·cases z;exact absurd rfl e
   ·exact valV_mem nd'.2 z
theorem hits_of{A:Around}{s:Shared}{kb:List (Key×Value)}{kvs:List (Key×V)}(r2:KV kvs kb)(nd:(kvs.map (·.1)).Nodup)(fl:kvs.all (fun p=>flatV p.2)=true) :
  ∀ {l:List (Key×V)} {la:List (Key×Value)},KV l la->(∀p∈l,p∈kvs)->PySem.W.KeqHits A s kb la true:=by
 intro l la r
 unfold KV at r
 induction r with
 | nil=>intro _;exact .nil
 | @cons p q l1 l2 h hr ih=>
  intro hm
  obtain⟨k,x⟩:=p
  obtain⟨k',v⟩:=q
  obtain⟨e,rv⟩:=h
  have e:k=k':=e
  subst e
  have mem:=hm (k,x) List.mem_cons_self
  have rel:=r2.val k
  rw[valV_mem nd mem]at rel
  obtain⟨y,hy,ry⟩:=rel.some_of
  have fx:flatV x=true:=List.all_eq_true.mp fl _ mem
  have eq:SeqAt.EqAt A s v y (eqV x x):=eqAt_V rv ry fx fx
  have ex:eqV x x=true:=by
   cases x with
   | non=>rfl
   | bl b=>simp[eqV]
   | int i=>simp[eqV]
   | str s=>simp[eqV]
   | byt b=>cases fx
   | flt b=>cases fx
   | ref a=>cases fx
   | ty n=>cases fx
  rw[ex]at eq
  exact PySem.W.KeqHits.hit (e:=true) (b:=true) hy eq (ih fun p hp=>hm p (List.mem_cons_of_mem _ hp))
def qEqD:R2:=fun x y H Q=>match x,y with
 | .ref a,.ref b=>match H a,H b with
  | some (.dK k1),some (.dK k2)=>k1=k2/\(k1.map (·.1)).Nodup/\k1.all (fun p=>flatV p.2)=true/\Q (.bl true) H
  | _,_=>False
 | _,_=>False
def qDict:List V->Hp->VK->Prop:=fun xs H Q=>match xs with
 | [.ref a]=>match H a with
  | some (.dK kvs)=>∀p,H p=none->Q (.ref p) (upd H p (.dK kvs))
  | _=>False
 | _=>False
def qInt:List V->Hp->VK->Prop:=fun xs H Q=>match xs with
 | [.int i]=>Q (.int i) H
 | [.bl k]=>Q (.int (if k then 1 else 0)) H
 | _=>False
end
end L2
namespace L2
open PySem PySem.Spec PyProof.Rows
def Its(x:Str):It:=⟨fun i _=>i<x.length,fun i H v H'=>H'=H/\∃c,x.cps[i]? = some c/\v=.str ⟨#[c]⟩,fun i _=>x.length<=i⟩
theorem turn_str{P:Program}{w:World}{K:Fg}{tg:Expr}(x:Str)(t:Tok)(it:Addr):Turn P w K tg (Its x) [it] it (fun i h=>h.IsStrIter it (strIterType x) x t i) where
 mem:=by simp
 obj:=fun i h st b hb=>by
  have e:b=it:=by simpa using hb
  subst e
  obtain⟨o,e,c,d⟩:=st
  exact⟨o,e,fun v z=>by rw[d]at z;cases z⟩
 keep:=fun i h h' st k=>let⟨o,ho,r⟩:=st; ⟨o,k it (by simp) o ho,r⟩
 item:=by
  intro X hP hw hK hc i pins s σ H E I hf st hg
  subst hP hw hK
  have hi:i<x.cps.size:=hg
  obtain⟨f0,f1,f2,f3,f4,f5⟩:=hf it (by simp)
  have hx:x.cps[i]? = some x.cps[i]:=by simp[hi]
  have fin:∀h',h'.IsStrIter it (strIterType x) x t (i+1)->Heap.SameBut it s.heap h'->∃u,some (Value.str ⟨#[x.cps[i]]⟩ s.toks)=some u /\
    wpAny (model X.prog X.w) X.A (letOwnedTupleGo tg (.ref it) u) (fun _ s2=>∃v H',Inv X pins σ H' s2/\RelV v u/\(Its x).yld i H v H'/\s2.heap.IsStrIter it (strIterType x) x t (i+1)/\∀b∈[it],H' b=none) E { s with heap:=h',toks:=s.toks+1 }:=by
   intro h' st' sb
   have I1:Inv X pins σ H { s with heap:=h',toks:=s.toks+1 }:=I.turned (t':=s.toks+1) (fun b o hb e=>(sb.2 b hb).trans e) f0 f1 f3 f4 f5
   obtain⟨o,e,c,d⟩:=id st'
   refine⟨_,rfl,go_of (s:={ s with heap:=h',toks:=s.toks+1 }) e c d ?_ ⟨.str ⟨#[x.cps[i]]⟩,H,I1,⟨_,rfl⟩,⟨rfl,_,hx,rfl⟩,st',fun b hb=>(hf b hb).1⟩⟩
   unfold strIterType
   split <;> decide
  unfold strIterType at st fin ⊢
  split at st
  ·rename_i ha
   simp only[ha]at fin ⊢
   exact wpAny_pyNext_ascii_item st hx fun h' st' sb=>fin h' st' sb
  ·rename_i ha
   simp only[ha]at fin ⊢
   exact wpAny_pyNext_wide_item st hx fun h' st' sb=>fin h' st' sb
 done:=by
  intro X hP hw hK hc i pins s σ H E I hf st hg
  subst hP hw hK
  have hi:x.cps.size<=i:=hg
  obtain⟨f0,f1,f2,f3,f4,f5⟩:=hf it (by simp)
  have hx:x.cps[i]? = none:=by simp[hi]
  unfold strIterType at st
  split at st
  ·exact wpAny_pyNext_ascii_end (I.ok.hd hc) st hx fun h' eb=>⟨rfl,I.turned (t':=s.toks) (fun b o hb e=>eb b o hb e) f0 f1 f3 f4 f5⟩
  ·exact wpAny_pyNext_wide_end (I.ok.hd hc) st hx fun h' eb=>⟨rfl,I.turned (t':=s.toks) (fun b o hb e=>eb b o hb e) f0 f1 f3 f4 f5⟩
 self:=fun _ _ _ _ _ st h=>by
  unfold strIterType at st
  split at st
  ·exact wpAny_pyIter_striter_ascii st h
  ·exact wpAny_pyIter_striter_wide st h
def iStr(tl:TE):TI:=fun σ H R=>tl σ H fun v H1=>∃x,v=.str x/\R (Its x) H1
section
variable {X:Cx}{tg:Expr}
theorem pi_str{l:Expr}{tl:TE}(hl:PE X l tl):PI X tg l (iStr tl):=by
 intro pins s σ H R I h
 refine thn (hl pins s σ H _ I h) fun v s1 ⟨y,H1,I1,r1,x,e,q1⟩=>?_
 subst e
 obtain⟨t,rfl⟩:=r1
 refine wpAny_pyIter_strU ?_
 have k:∀b u,s1.heap.get? b=some u->(s1.heap.push { cls:=.type (strIterType x),data:=.fields #[.str x t,.int 0 0] }).get? b=some u:=fun b u q=>Heap.get?_push_of_some _ q
 refine⟨s1.heap.objs.size,[s1.heap.objs.size],_,Its x,H1,rfl,I1.kept (t':=s1.toks) k,turn_str x t _,⟨_,Heap.get?_push_size _ rfl,rfl,rfl⟩,fun b hb=>?_,q1⟩
 have e:b=s1.heap.objs.size:=by simpa using hb
 subst e
 exact I1.fpOk (Nat.le_refl _) I1.fresh
def boolsOf:List V->Option (List Bool)
 | []=>some []
 | .bl b::r=>(boolsOf r).map (b :: ·)
 | _=>none
theorem bools_get:∀ {xs:List V} {bs:List Bool} {i:Nat} {x:V},boolsOf xs=some bs->xs[i]? = some x->∃b,bs[i]? = some b/\x=.bl b
 | [],_,_,_,_,h=>by simp at h
 | y::r,bs,i,x,e,h=>by
  cases y with
  | bl b=>
   cases e2:boolsOf r with
   | none=>simp[boolsOf,e2]at e
   | some bs2=>
    simp[boolsOf,e2]at e
    subst e
    cases i with
    | zero=>simp at h;exact⟨b,rfl,h.symm⟩
    | succ i=>
     obtain⟨b',h1,h2⟩:=bools_get (i:=i) e2 (by simpa using h)
     exact⟨b',by simpa using h1,h2⟩
  | _=>simp[boolsOf]at e
theorem bools_len:∀ {xs:List V} {bs:List Bool},boolsOf xs=some bs->xs.length=bs.length
 | [],_,e=>by cases e;rfl
 | y::r,bs,e=>by
  cases y with
  | bl b=>
   cases e2:boolsOf r with
   | none=>simp[boolsOf,e2]at e
   | some bs2=>
    simp[boolsOf,e2]at e
    subst e
    simp[bools_len e2]
  | _=>simp[boolsOf]at e
theorem all_range(bs:List Bool):((List.range bs.length).all fun i=>(bs[i]?).getD true)=bs.all id:=by
 rw[Bool.eq_iff_iff,List.all_eq_true,List.all_eq_true]
 constructor
 ·intro h b hb
  obtain⟨i,hi,rfl⟩:=List.mem_iff_getElem.mp hb
  have:=h i (by simpa using hi)
  simpa[hi]using this
 ·intro h i hi
  have hl:i<bs.length:=by simpa using hi
  have:=h bs[i] (List.getElem_mem _)
  simpa[hl]using this
def qAll:List V->Hp->VK->Prop:=fun vs H Q=>match vs with
 | [.ref l]=>match H l with
  | some (.lst xs)=>∃bs,boolsOf xs=some bs/\Q (.bl (bs.all id)) H
  | _=>False
 | _=>False
theorem call_qall(hc:X.calm=true):CallR X (.builtin "all") qAll:=fun pins s σ H xs us Q I r h=>by
 unfold qAll at h
 split at h
 ·split at h
  ·rename_i l _ ys hl
   obtain⟨bs,e,q⟩:=h
   obtain⟨u,rfl,ru⟩:=vals1 r
   cases ru
   obtain⟨its,rv,pl,hz⟩:=I.list (SqL.of hl)
   have hlt:l<s.heap.objs.size:=by obtain⟨_,e,_⟩:=pl.isList;exact Heap.lt_size e
   have hlen:=rv.length
   have hbl:=bools_len e
   refine call_all_walk (wpAny_pyIter_list pl.isList ?_)
   refine⟨s.heap.objs.size,[s.heap.objs.size,l],[s.heap.objs.size],its.toArray.size,_,_,fun i=>(bs[i]?).getD true,rfl,Walks.list (A:=X.A.in1) (I.ok.hd hc) _ l (Nat.ne_of_lt hlt) its.toArray,
    ⟨⟨_,Heap.get?_push_size _ rfl,rfl,rfl⟩,pl.isList.push _⟩,fun i v s' Q' E' hP hQ=>?_,fun h' tk hk=>?_⟩
   ·have hP:its[i]? = some v:=by simpa using hP
    have hi:i<ys.length:=by rw[hlen];exact(List.getElem?_eq_some_iff.mp hP).1
    have ey:ys[i]? = some ys[i]:=by simp[hi]
    obtain⟨b,eb,ez⟩:=bools_get e ey
    obtain⟨u,eu,ru⟩:=rv.get ey
    rw[hP]at eu
    cases eu
    rw[ez]at ru
    cases ru
    simp only[eb,Option.getD_some]at hQ
    exact wpAny_truthy_bool hQ
   ·have e2:((List.range its.toArray.size).all fun i=>(bs[i]?).getD true)=bs.all id:=by
     rw[List.size_toArray,<-hlen,hbl]
     exact all_range bs
    rw[e2]
    exact⟨.bl _,H,I.kept (t':=tk) fun b x e=>hk b x (fun hm=>by rw[List.mem_singleton.mp hm]at e;exact Nat.lt_irrefl _ (Heap.lt_size e)) (Heap.get?_push_of_some _ e),rfl,q⟩
  ·exact h.elim
 ·exact h.elim
def rSlS:V->Option Int->Option Int->Hp->VK->Prop:=fun v _ _ H Q=>∃z,v=.str z/\z.length<=sizeLine/\∀y:Str,y.length<=z.length->Q (.str y) H
def qStr:List V->Hp->VK->Prop:=fun xs H Q=>match xs with
 | [.int i]=>0<=i/\i<10 ^ 10/\∀y:Str,y.length<=10->Q (.str y) H
 | _=>False
end
end L2
namespace L2
open PySem PySem.Spec PyProof.Rows
section
variable {X:Cx}
theorem Inv.turnedL{pins:List (Addr×Obj)}{σ:St}{H:Hp}{s:Shared}{h':Heap}{t':Nat}{fp:List Addr}(I:Inv X pins σ H s)(k:∀b o,b∉fp->s.heap.get? b=some o->h'.get? b=some o)(hf:∀b∈fp,FpOk X pins H b) :
  Inv X pins σ H { s with heap:=h',toks:=t' }:=by
 have nit:∀b u,H b=some u->b∉fp:=fun b u e z=>by rw[(hf b z).1]at e;cases e
 refine I.step (g':=s.gens) (d':=s.drawn) (ch:=fp) (fun b hb=>?_) (fun b o _ _ hc e _=>k b o hc e) (fun b o _ _ hc e _=>⟨o.slots,k b o hc e⟩) (fun _ _ _ _ n=>n)
  (fun b o hc e=>⟨o,k b o hc e⟩) (fun _ _ e=>e) (fun _ _ _ e=>e) (fun b ps e=>⟨#[],by rw[e];simp⟩) (fun m hm=>?_) (fun b u e=>?_) I.bare
 ·obtain⟨_,f1,_,f3,f4,f5⟩:=hf b hb
  exact⟨f3,f1,f4,f5⟩
 ·obtain⟨o,es,ep,ho,r⟩:=hm
  exact⟨o,es,ep,k _ o (fun z=>(hf _ z).2.1 rfl) ho,r⟩
 ·refine(I.hok b u e).stay (fun c v hc q=>k c v ?_ q) (fun _ q=>q) fun _ _ q=>q
  rcases hc with z | z
  ·rw[z];exact nit b u e
  ·exact nit c _ z
theorem Inv.pairL{pins:List (Addr×Obj)}{σ:St}{H:Hp}{s:Shared}{h':Heap}{t':Nat}{fp:List Addr}{x y:V}{u v:Value}(I:Inv X pins σ H s)(hf:∀b∈fp,FpOk X pins H b)(fl:∀b∈fp,b≠s.heap.objs.size)
  (rx:RelV x u) (ry:RelV y v) (ht:h'.get? s.heap.objs.size=some { cls:=.type "tuple", data:=.seq #[u,v] }) (k:∀b o,b∉fp->s.heap.get? b=some o->h'.get? b=some o) :
  Inv X pins σ (upd H s.heap.objs.size (.tup [x,y])) { s with heap:=h',toks:=t' }:=by
 have I1:Inv X pins σ (upd H s.heap.objs.size (.tup [x,y])) { s with heap:=s.heap.push { cls:=.type "tuple", data:=.seq #[u,v] },toks:=s.toks }:=
  I.laid (fun b u e=>Heap.get?_push_of_some _ e) (Nat.le_refl _) ⟨by show 2<=sizeLine;decide,[u,v],.cons rx (.cons ry .nil),⟨_,Heap.get?_push_size _ rfl,rfl,_,rfl⟩⟩
 refine Inv.turnedL (s:={ s with heap:=s.heap.push { cls:=.type "tuple", data:=.seq #[u,v] },toks:=s.toks }) (fp:=fp) I1 (fun b o hb e=>?_) fun b hb=>⟨by rw[upd_ne (fl b hb)];exact(hf b hb).1,(hf b hb).2⟩
 by_cases hz:b=s.heap.objs.size
 ·subst hz
  have e2:=Heap.get?_push_size s.heap (o:={ cls:=.type "tuple", data:=.seq #[u,v] }) rfl
  rw[show(s.heap.push { cls:=.type "tuple", data:=.seq #[u,v] }).get? s.heap.objs.size=some o from e]at e2
  cases e2
  exact ht
 ·refine k b o hb ?_
  have e:(s.heap.push { cls:=.type "tuple", data:=.seq #[u,v] }).get? b=some o:=e
  rwa [Heap.get?_push_ne _ _ _ hz]at e
def Ite(K:Fg)(a:Addr):It:=
 ⟨fun i H=>∃xs x,SqL K H a xs/\xs[i]? = some x,fun i H v H'=>∃p x,H p=none/\v=.ref p/\H'=upd H p (.tup [.int i,x])/\∀xs,SqL K H a xs->xs[i]? = some x,fun i H=>∃xs,SqL K H a xs/\xs.length<=i⟩
theorem turn_enum{P:Program}{w:World}{K:Fg}{elts:List Expr}{x1}{tp:Pos}(a e it:Addr)(hne:e≠it):Turn P w K (.Tuple elts x1 tp) (Ite K a) [e,it] e (fun i h=>(∃old,IsEnum h e it i old)/\h.IsListIter it a i) where
 mem:=by simp
 obj:=fun i h st b hb=>by
  obtain⟨⟨old,he⟩,o,e1,c,d⟩:=st
  rcases List.mem_cons.mp hb with rfl | hb
  ·exact⟨_,he,fun v z=>by
    have z':Data.fields _=Data.cell v:=z
    cases z'⟩
  ·have:b=it:=by simpa using hb
   subst this
   exact⟨o,e1,fun v z=>by rw[d]at z;cases z⟩
 keep:=fun i h h' st k=>by
  obtain⟨⟨old,he⟩,hi⟩:=st
  exact⟨⟨old,k e (by simp) _ he⟩,hi.at fun o q=>k it (by simp) o q⟩
 item:=by
  intro X hP hw hK hc i pins s σ H E I hf st hg
  subst hP hw hK
  obtain⟨⟨old,he⟩,hit⟩:=st
  obtain⟨xs,x,hq,hx⟩:=hg
  obtain⟨its,rv,p,hz⟩:=I.list hq
  obtain⟨u,hu,ru⟩:=rv.get hx
  refine wpAny_pyNext_enum_item he hit p.isList (x:=u) (by simpa using hu) hne fun h1 ho hit1 hT hsz hk=>?_
  refine⟨_,rfl,?_⟩
  refine wpAny_letOwnedTupleGo_enum (s:={ s with heap:=h1,toks:=s.toks+1 }) ho fun h2 he2 hs2=>?_
  have hs2:Heap.SameBut e h1 h2:=hs2
  have le:e≠s.heap.objs.size:=Nat.ne_of_lt (Heap.lt_size he)
  have li:it≠s.heap.objs.size:=by obtain⟨_,q,_⟩:=hit;exact Nat.ne_of_lt (Heap.lt_size q)
  have fl:∀b∈[e,it],b≠s.heap.objs.size:=fun b hb=>by
   rcases List.mem_cons.mp hb with rfl | hb
   ·exact le
   ·have:b=it:=by simpa using hb
    subst this;exact li
  have I2:=I.pairL (h':=h2) (t':=s.toks+1) (x:=.int i) (y:=x) (u:=.int i s.toks) (v:=u) hf fl ⟨_,rfl⟩ ru ((hs2.2 _ (Ne.symm le)).trans hT) fun b o hb q=>by
   have n1:b≠e:=fun z=>hb (by simp[z])
   have n2:b≠it:=fun z=>hb (by simp[z])
   exact(hs2.2 b n1).trans (hk b o n1 n2 q)
  refine⟨.ref s.heap.objs.size,_,I2,rfl,⟨_,x,I.fresh,rfl,rfl,fun ys hy=>by rw[I.list_inj hy hq];exact hx⟩,⟨⟨u,by simpa using he2⟩,hit1.at fun o q=>(hs2.2 it (Ne.symm hne)).trans q⟩,fun b hb=>?_⟩
  rw[upd_ne (fl b hb)];exact(hf b hb).1
 done:=by
  intro X hP hw hK hc i pins s σ H E I hf st hg
  subst hP hw hK
  obtain⟨⟨old,he⟩,hit⟩:=st
  obtain⟨xs,hq,hx⟩:=hg
  obtain⟨its,rv,p,hz⟩:=I.list hq
  obtain⟨f0,f1,f2,f3,f4,f5⟩:=hf it (by simp)
  have hl:=rv.length
  exact wpAny_pyNext_enum_end (I.ok.hd hc) he hit p.isList (by simp;omega) fun h' eb=>⟨rfl,I.turned (t':=s.toks) (fun b o hb e=>eb b o hb e) f0 f1 f3 f4 f5⟩
 self:=fun _ _ _ _ _ st h=>by
  obtain⟨⟨old,he⟩,_⟩:=st
  exact wpAny_pyIter_enum he h
def iEnum(K:Fg)(ta:TA):TI:=fun σ H R=>ta σ H fun vs H1=>∃a,vs=[.ref a]/\(∃xs,SqL K H1 a xs)/\R (Ite K a) H1
theorem pi_enum{elts:List Expr}{x1}{tp:Pos}{a:Expr}{ta:TA}{p pos:Pos}(hg:Gl X "enumerate")(hm:X.mg "enumerate" = none)(ha:PA X [a] ta)(hs:starEach [a] X.env=[(false,eval a X.env)]:=by rfl) :
  PI X (.Tuple elts x1 tp) (.Call (.Name "enumerate" p) [a] [] pos) (iEnum X.K ta):=by
 intro pins s σ H R I h
 refine Call_ (ld_blt I hg hm boot_enumerate (PyProof.Rows.callWith_type1 (thn (ha pos pins s σ H _ I h) fun us s1 ⟨vs,H1,I1,r1,q1⟩=>?_) hs rfl))
 obtain⟨b,e,⟨xs,hq⟩,q⟩:=q1
 subst e
 cases r1 with
 | cons r rr=>
  cases rr
  cases r
  obtain⟨its,rv,pl,hz⟩:=I1.list hq
  refine call_enumerate_list pl.isList fun h' he hit hsz hk=>?_
  have I2:Inv X pins σ H1 { s1 with heap:=h' }:=I1.kept (t':=s1.toks) hk
  refine wpAny_pyIter_enum he ⟨_,[s1.heap.objs.size+1,s1.heap.objs.size],_,_,H1,rfl,I2,turn_enum b (s1.heap.objs.size+1) s1.heap.objs.size (Nat.succ_ne_self _),⟨⟨_,he⟩,hit⟩,fun c hc=>?_,q⟩
  rcases List.mem_cons.mp hc with rfl | hc
  ·exact I1.fpOk (by omega) (I1.hok.fresh (by omega))
  ·have:c=s1.heap.objs.size:=by simpa using hc
   subst this
   exact I1.fpOk (Nat.le_refl _) (I1.hok.fresh (Nat.le_refl _))
def Itz(K:Fg)(a b:Addr):It:=
 ⟨fun i H=>∃xs ys x y,SqL K H a xs/\SqL K H b ys/\xs[i]? = some x/\ys[i]? = some y,fun i H v H'=>∃p x y,H p=none/\v=.ref p/\H'=upd H p (.tup [x,y])/\(∀xs,SqL K H a xs->xs[i]? = some x)/\∀ys,SqL K H b ys->ys[i]? = some y,
  fun i H=>∃xs ys,SqL K H a xs/\SqL K H b ys/\(xs.length<=i\/ys.length<=i)⟩
theorem apart_of{h:Heap}{a b:Addr}{o o':Obj}(h1:h.get? a=some o)(h2:h.get? b=some o')(hc:o.cls≠o'.cls):a≠b:=fun z=>by
 subst z;rw[h1]at h2;cases h2;exact hc rfl
theorem turn_zip{P:Program}{w:World}{K:Fg}{elts:List Expr}{x1}{tp:Pos}(a b z TI TO i1 i2:Addr)(n1:TI≠z)(n2:TO≠z)(n3:i1≠z)(n4:i2≠z)(n5:TI≠TO)(n6:TI≠i1)(n7:TI≠i2)(n8:TO≠i1)(n9:TO≠i2)(n10:i1≠i2) :
  Turn P w K (.Tuple elts x1 tp) (Itz K a b) [z,TI,TO,i1,i2] z (fun i h=>IsZip h z TI TO .none/\IsPair h TI (.ref i1) (.ref i2)/\(∃u v,IsPair h TO u v)/\h.IsListIter i1 a i/\h.IsListIter i2 b i) where
 mem:=by simp
 obj:=fun i h st c hb=>by
  obtain⟨hz,hTI,⟨u,v,hTO⟩,⟨o1,e1,c1,d1⟩,⟨o2,e2,c2,d2⟩⟩:=st
  simp only[List.mem_cons,List.not_mem_nil,or_false]at hb
  rcases hb with rfl | rfl | rfl | rfl | rfl
  ·exact⟨_,hz,fun v z=>by
    have z':Data.fields _=Data.cell v:=z
    cases z'⟩
  ·exact⟨_,hTI,fun v z=>by
    have z':Data.seq _ _=Data.cell v:=z
    cases z'⟩
  ·exact⟨_,hTO,fun v z=>by
    have z':Data.seq _ _=Data.cell v:=z
    cases z'⟩
  ·exact⟨o1,e1,fun v z=>by rw[d1]at z;cases z⟩
  ·exact⟨o2,e2,fun v z=>by rw[d2]at z;cases z⟩
 keep:=fun i h h' st k=>by
  obtain⟨hz,hTI,⟨u,v,hTO⟩,h1,h2⟩:=st
  exact⟨k z (by simp) _ hz,k TI (by simp) _ hTI,⟨u,v,k TO (by simp) _ hTO⟩,h1.at fun o q=>k i1 (by simp) o q,h2.at fun o q=>k i2 (by simp) o q⟩
 item:=by
  intro X hP hw hK hc i pins s σ H E I hf st hg
  subst hP hw hK
  obtain⟨hz,hTI,⟨u,v,hTO⟩,h1,h2⟩:=st
  obtain⟨xs,ys,x,y,hqa,hqb,hx,hy⟩:=hg
  obtain⟨ia,ra,pa,za⟩:=I.list hqa
  obtain⟨ib,rb,pb,zb⟩:=I.list hqb
  obtain⟨ux,hux,rux⟩:=ra.get hx
  obtain⟨uy,huy,ruy⟩:=rb.get hy
  obtain⟨oa,la,ca,_⟩:=id pa.isList
  obtain⟨ob,lb,cb,_⟩:=id pb.isList
  obtain⟨o1,e1,c1,_⟩:=id h1
  obtain⟨o2,e2,c2,_⟩:=id h2
  have D:ZipApart z TI TO i1 i2 a b:=⟨n1,n2,n3,n4,n5,n6,n7,n8,n9,n10,
   apart_of la hz (by rw[ca];intro z;injection z with z;revert z;decide),apart_of la hTO (by rw[ca];intro z;injection z with z;revert z;decide),apart_of la e1 (by rw[ca,c1];intro z;injection z with z;revert z;decide),apart_of la e2 (by rw[ca,c2];intro z;injection z with z;revert z;decide),
   apart_of lb hz (by rw[cb];intro z;injection z with z;revert z;decide),apart_of lb hTO (by rw[cb];intro z;injection z with z;revert z;decide),apart_of lb e1 (by rw[cb,c1];intro z;injection z with z;revert z;decide),apart_of lb e2 (by rw[cb,c2];intro z;injection z with z;revert z;decide)⟩
  refine wpAny_pyNext_zip_item D hz hTI hTO h1 h2 pa.isList pb.isList (x:=ux) (y:=uy) (by simpa using hux) (by simpa using huy) fun h3 a1 a2 a3 a4 a5 a6 hk=>?_
  refine⟨_,rfl,?_⟩
  refine wpAny_letOwnedTupleGo_zip (s:={ s with heap:=h3 }) a1 fun h4 hz4 hs4=>?_
  have hs4:Heap.SameBut z h3 h4:=hs4
  have lz:z≠s.heap.objs.size:=Nat.ne_of_lt (Heap.lt_size hz)
  have fl:∀c∈[z,TI,TO,i1,i2],c≠s.heap.objs.size:=fun c hc=>by
   simp only[List.mem_cons,List.not_mem_nil,or_false]at hc
   rcases hc with rfl | rfl | rfl | rfl | rfl
   ·exact lz
   ·exact Nat.ne_of_lt (Heap.lt_size hTI)
   ·exact Nat.ne_of_lt (Heap.lt_size hTO)
   ·exact Nat.ne_of_lt (Heap.lt_size e1)
   ·exact Nat.ne_of_lt (Heap.lt_size e2)
  have I2:=I.pairL (h':=h4) (t':=s.toks) (x:=x) (y:=y) (u:=ux) (v:=uy) hf fl rux ruy ((hs4.2 _ (Ne.symm lz)).trans a5) fun c o hc q=>by
   have m1:c≠z:=fun z=>hc (by simp[z])
   have m3:c≠TO:=fun z=>hc (by simp[z])
   have m4:c≠i1:=fun z=>hc (by simp[z])
   have m5:c≠i2:=fun z=>hc (by simp[z])
   exact(hs4.2 c m1).trans (hk c o m1 m3 m4 m5 q)
  refine⟨.ref s.heap.objs.size,_,I2,rfl,⟨_,x,y,I.fresh,rfl,rfl,fun zs hy=>by rw[I.list_inj hy hqa];exact hx,fun zs hy'=>by rw[I.list_inj hy' hqb];exact hy⟩,
   ⟨hz4,hs4.extBut _ _ n1 (hk _ _ n1 n5 n6 n7 hTI),⟨_,_,hs4.extBut _ _ n2 a2⟩,a3.extBut hs4.extBut n3,a4.extBut hs4.extBut n4⟩,fun c hc=>?_⟩
  rw[upd_ne (fl c hc)];exact(hf c hc).1
 done:=by
  intro X hP hw hK hc i pins s σ H E I hf st hg
  subst hP hw hK
  obtain⟨hz,hTI,⟨u,v,hTO⟩,h1,h2⟩:=st
  obtain⟨xs,ys,hqa,hqb,hx⟩:=hg
  obtain⟨ia,ra,pa,za⟩:=I.list hqa
  obtain⟨ib,rb,pb,zb⟩:=I.list hqb
  obtain⟨oa,la,ca,_⟩:=id pa.isList
  obtain⟨ob,lb,cb,_⟩:=id pb.isList
  obtain⟨o1,e1,c1,_⟩:=id h1
  obtain⟨o2,e2,c2,_⟩:=id h2
  have D:ZipApart z TI TO i1 i2 a b:=⟨n1,n2,n3,n4,n5,n6,n7,n8,n9,n10,
   apart_of la hz (by rw[ca];intro z;injection z with z;revert z;decide),apart_of la hTO (by rw[ca];intro z;injection z with z;revert z;decide),apart_of la e1 (by rw[ca,c1];intro z;injection z with z;revert z;decide),apart_of la e2 (by rw[ca,c2];intro z;injection z with z;revert z;decide),
   apart_of lb hz (by rw[cb];intro z;injection z with z;revert z;decide),apart_of lb hTO (by rw[cb];intro z;injection z with z;revert z;decide),apart_of lb e1 (by rw[cb,c1];intro z;injection z with z;revert z;decide),apart_of lb e2 (by rw[cb,c2];intro z;injection z with z;revert z;decide)⟩
  have la':=ra.length
  have lb':=rb.length
  have hend:ia.toArray[i]? = none\/ib.toArray[i]? = none:=by
   rcases hx with hx | hx
   ·left;simp;omega
   ·right;simp;omega
  refine wpAny_pyNext_zip_end (I.ok.hd hc) D hz hTI hTO h1 h2 pa.isList pb.isList hend fun h' hk=>⟨rfl,?_⟩
  refine I.turnedL (t':=s.toks) (fp:=[z,TI,TO,i1,i2]) (fun c o hc q=>?_) hf
  exact hk c o (fun z=>hc (by simp[z])) (fun z=>hc (by simp[z])) (fun z=>hc (by simp[z])) (fun z=>hc (by simp[z])) q
 self:=fun _ _ _ _ _ st h=>wpAny_pyIter_zip st.1 h
def iZip(K:Fg)(ta:TA):TI:=fun σ H R=>ta σ H fun vs H1=>∃a b,vs=[.ref a,.ref b]/\(∃xs,SqL K H1 a xs)/\(∃xs,SqL K H1 b xs)/\R (Itz K a b) H1
theorem pi_zip{elts:List Expr}{x1}{tp:Pos}{a b:Expr}{ta:TA}{p pos:Pos}(hg:Gl X "zip")(hm:X.mg "zip" = none)(ha:PA X [a,b] ta)(hs:starEach [a,b] X.env=[(false,eval a X.env),(false,eval b X.env)]:=by rfl)(hs2:starEach [b] X.env=[(false,eval b X.env)]:=by rfl) :
  PI X (.Tuple elts x1 tp) (.Call (.Name "zip" p) [a,b] [] pos) (iZip X.K ta):=by
 intro pins s σ H R I h
 refine Call_ (ld_blt I hg hm boot_zip (PyProof.Rows.callWith_type1 (thn (ha pos pins s σ H _ I h) fun us s1 ⟨vs,H1,I1,r1,q1⟩=>?_) (by rw[hs,hs2]) (by rw[hs2];rfl)))
 obtain⟨c,d,e,⟨xs,hq⟩,⟨ys,hq'⟩,q⟩:=q1
 subst e
 cases r1 with
 | cons r rr=>
  cases rr with
  | cons r' rr=>
   cases rr
   cases r
   cases r'
   obtain⟨ia,ra,pa,za⟩:=I1.list hq
   obtain⟨ib,rb,pb,zb⟩:=I1.list hq'
   refine call_zip_2 pa.isList pb.isList fun h' hz hTI hTO h1 h2 hsz hk=>?_
   have I2:Inv X pins σ H1 { s1 with heap:=h' }:=I1.kept (t':=s1.toks) hk
   have N:∀n:Nat,n+2≠n+4/\n+3≠n+4/\n≠n+4/\n+1≠n+4/\n+2≠n+3/\n+2≠n/\n+2≠n+1/\n+3≠n/\n+3≠n+1/\n≠n+1:=fun n=>by omega
   obtain⟨m1,m2,m3,m4,m5,m6,m7,m8,m9,m10⟩:=N s1.heap.objs.size
   refine wpAny_pyIter_zip hz ⟨_,[s1.heap.objs.size+4,s1.heap.objs.size+2,s1.heap.objs.size+3,s1.heap.objs.size,s1.heap.objs.size+1],_,_,H1,rfl,I2,
    turn_zip c d (s1.heap.objs.size+4) (s1.heap.objs.size+2) (s1.heap.objs.size+3) s1.heap.objs.size (s1.heap.objs.size+1) m1 m2 m3 m4 m5 m6 m7 m8 m9 m10,⟨hz,hTI,⟨_,_,hTO⟩,h1,h2⟩,fun y hy=>?_,q⟩
   have:s1.heap.objs.size<=y:=by
    simp only[List.mem_cons,List.not_mem_nil,or_false]at hy
    rcases hy with rfl | rfl | rfl | rfl | rfl
    ·exact Nat.le_add_right _ _
    ·exact Nat.le_add_right _ _
    ·exact Nat.le_add_right _ _
    ·exact Nat.le_refl _
    ·exact Nat.le_add_right _ _
   exact I1.fpOk this (I1.hok.fresh this)
end
end L2
namespace L2
open PySem PySem.Spec PyProof.Rows
def hid2(x y:Str)(N:List Str):List Str:=N.map fun z=>if z=x then ("." : Str)++x else if z=y then ("." : Str)++y else z
def cxCompP(X:Cx)(scope:Scope)(cl:List (Str×Addr))(C:Addr)(x y:Str)(fp:List Addr)(s3:Shared)(H3:Hp):Cx:=
 { X with N:=x::y::hid2 x y X.N,s₀:=s3,H₀:=H3,env:=compEnvC scope cl C X.env,outer:=X.stack,stack:=X.stack,ex:=fp,fn:=fun _=>false,pn:=[],xe:=fun _ _=>False }
structure CompOkP(N:List Str)(osc sc:Scope)(x y:Str):Prop where
 kind:sc.kind=.function
 cell:∀y∈sc.names,y.2≠.cell
 names:∀y∈sc.names,y.2=.local->sc.names.lookup y.1=some .local
 own:sc.names.lookup x=some .local
 own2:sc.names.lookup y=some .local
 fr:∀y∈sc.names,y.2=.free->osc.names.lookup y.1=some .cell\/osc.names.lookup y.1=some .free
 see:∀z∈hid2 x y N,sc.names.lookup z≠some .local
 dot:sc.names.lookup (("." : Str)++x)=none
 dot2:sc.names.lookup (("." : Str)++y)=none
 nd:(x::y::hid2 x y N).Nodup
def tCompP(K:Fg)(wi:TI)(tt:TT)(te:TE):TE:=fun σ H Q=>wi σ H fun J H1=>∀D,H1 D=none->∃W:Nat->Nat->List V->Hp->Prop,
 (∃m,W 0 m [] (upd H1 D (.lst [])))/\∀i m ys H2,W i m ys H2->H2 D=some (.lst ys) /\
  ((J.stop i H2 ∧ Q (.ref D) H2) ∨ (J.go i H2 ∧ ∀ x H3, J.yld i H2 x H3 → ∃ a u v, x = .ref a ∧ SqT K H3 a [u, v] ∧ tt (some u :: some v :: σ) H3 fun ok H4 => if ok = true then
    te (some u::some v::σ) H4 (fun y H5=>H5 D=some (.lst ys)/\ys.length<sizeLine/\∃m',m'<m/\W (i+1) m' (ys++[y]) (upd H5 D (.lst (ys++[y]))))
    else ∃m',m'<m/\W (i+1) m' ys H4))
section
variable {X:Cx}{elt iter:Expr}{x x2:Str}{px py2 pt pos:Pos}{kt}{ifs:List Expr}{scope:Scope}
theorem comp_invP{pins:List (Addr×Obj)}{σ:St}{H:Hp}{s3:Shared}{cl:List (Str×Addr)}{fp:List Addr}{h4:Heap}{tk:Nat}(hc:CompOkP X.N X.env.scope scope x x2)(I:Inv X pins σ H s3)
  (hcl:∀y c,cl.lookup y=some c->X.env.cells.lookup y=some c) (hcl2:∀y,(y,NameKind.free)∈scope.names->(cl.lookup y).isSome=true)
  (fpo:∀b∈fp,FpOk X pins H b) (fpl:∀b∈fp,b<s3.heap.objs.size)
  (hn:h4.Ns s3.heap.objs.size (fun _=>none)) (k:∀b o,s3.heap.get? b=some o->h4.get? b=some o) :
  Inv (cxCompP X scope cl s3.heap.objs.size x x2 fp s3 H) [] (none::none::σ) H { s3 with heap:=h4,toks:=tk }:=by
 have low:∀x y,(cxCompP X scope cl s3.heap.objs.size x x2 fp s3 H).env.cells.lookup y=cl.lookup y:=fun _ _=>rfl
 have below:∀y c,cl.lookup y=some c->c<s3.heap.objs.size:=fun y c e=>by
  obtain⟨v,q⟩:=I.cell y c (hcl y c e)
  exact q.lt
 have kinds:∀y,((cxCompP X scope cl s3.heap.objs.size x x2 fp s3 H).env.kindOf y=some .cell\/(cxCompP X scope cl s3.heap.objs.size x x2 fp s3 H).env.kindOf y=some .free)->scope.names.lookup y=some .free:=by
  intro y hy
  rcases hy with hy | hy
  ·rcases lookup_relabel hy with q | ⟨q,_⟩
   ·exact absurd rfl (hc.cell _ (PySem.mem_of_lookup q))
   ·exact q
  ·rcases lookup_relabel hy with q | ⟨q,z⟩
   ·exact q
   ·cases z
 refine⟨⟨I.ok.mod,?_,I.ok.glob,I.ok.blt,Nat.le_refl _,fun y z c h1 h2=>?_,fun y hy=>?_,fun y c h=>?_,I.ok.hd,I.ok.frames,.inl rfl,fun b hb=>⟨?_,fun y c e z=>?_⟩,fun b o e=>I.bs b o e,Nat.le_trans I.ok.bsz I.sz,fun b o e hb=>?_,fun b hb hf=>?_,I.stack,I.stkFree⟩,
  rfl,I.bare,Un.kept k,⟨_,hn,fun i y v h1 h2 h3=>?_⟩,fun y c e=>?_,I.fresh,fun y c e=>?_,fun p hp=>absurd (show p∈([]:List (Addr×Obj))from hp) (by simp),I.hok.kept k,?_⟩
 ·exact hc.kind
 ·exact I.ok.inj y z c (hcl _ _ h1) (hcl _ _ h2)
 ·have:=hcl2 y (PySem.mem_of_lookup (kinds y hy))
  exact Option.isSome_iff_exists.mp this
 ·cases h
 ·exact Nat.ne_of_lt (fpl b hb)
 ·exact(fpo b hb).2.2.2.2.1 y c (hcl y c e) z
 ·rcases(fpo b hb).2.2.2.1 with q | q
  ·exact I.ok.noex b o e q
  ·exact absurd (Nat.lt_of_lt_of_le (Heap.lt_size (I.ok.bs b o e).1) q) (Nat.lt_irrefl _)
 ·rcases List.mem_cons.mp (I.stkSub b hf)with e | e
  ·exact(fpo b hb).2.1 e
  ·exact(fpo b hb).2.2.1 e
 ·-- the names
  have h1:(x::x2::hid2 x x2 X.N)[i]? = some y:=h1
  cases i with
  | zero=>cases h2
  | succ i=>
   cases i with
   | zero=>cases h2
   | succ i=>
   have h1:(hid2 x x2 X.N)[i]? = some y:=h1
   have h2:σ[i]? = some (some v):=h2
   have my:y∈hid2 x x2 X.N:=List.mem_of_getElem? h1
   have h3:(relabel scope X.env).names.lookup y=some .local\/(relabel scope X.env).names.lookup y=some .cell\/(relabel scope X.env).names.lookup y=some .free:=h3
   have hf:scope.names.lookup y=some .free:=by
    rcases h3 with q | q
    ·rcases lookup_relabel q with q | ⟨_,z⟩
     ·exact absurd q (hc.see y my)
     ·cases z
    ·exact kinds y q
   have hy:X.N[i]? = some y:=by
    unfold hid2 at h1
    rw[List.getElem?_map]at h1
    cases e:X.N[i]? with
    | none=>rw[e]at h1;cases h1
    | some z=>
     rw[e]at h1
     by_cases ez:z=x
     ·rw[Option.map_some,if_pos ez]at h1
      have h1:=Option.some.inj h1
      subst h1
      rw[hc.dot]at hf
      cases hf
     ·rw[Option.map_some,if_neg ez]at h1
      by_cases ez2:z=x2
      ·rw[if_pos ez2]at h1
       have h1:=Option.some.inj h1
       subst h1
       rw[hc.dot2]at hf
       cases hf
      ·rw[if_neg ez2]at h1
       exact h1
   obtain⟨m,_,hl⟩:=I.loc
   obtain⟨c,hcc⟩:=Option.isSome_iff_exists.mp (hcl2 y (PySem.mem_of_lookup hf))
   have vis:Vis X.env.scope y:=by
    rcases hc.fr _ (PySem.mem_of_lookup hf) rfl with q | q
    ·exact .inr (.inl q)
    ·exact .inr (.inr q)
   obtain⟨u,ru,lk⟩:=hl i y v hy h2 vis
   refine⟨u,ru,.inr ⟨?_,c,hcc,?_⟩⟩
   ·rcases h3 with q | q
    ·rcases lookup_relabel q with q | ⟨_,z⟩
     ·exact absurd q (hc.see y my)
     ·cases z
    ·exact q
   ·have hce:=hcl y c hcc
    rcases lk with ⟨q,_⟩ | ⟨_,c',e',z⟩
    ·rcases hc.fr _ (PySem.mem_of_lookup hf) rfl with q' | q'
     ·have q:X.env.scope.names.lookup y=some .local:=q
      rw[show X.env.scope.names.lookup y=some NameKind.cell from q']at q
      cases q
     ·have q:X.env.scope.names.lookup y=some .local:=q
      rw[show X.env.scope.names.lookup y=some NameKind.free from q']at q
      cases q
    ·rw[e']at hce
     cases hce
     obtain⟨o,ho,hd⟩:=z
     exact⟨o,k _ _ ho,hd⟩
 ·obtain⟨v,o,ho,hd⟩:=I.cell y c (hcl y c e)
  exact⟨v,o,k _ _ ho,hd⟩
 ·exact I.freeC y c (hcl y c e)
 ·show(none::none::σ).length=(x::x2::hid2 x x2 X.N).length
  have:=I.len
  simp[hid2,this]
theorem comp_blockP{pins:List (Addr×Obj)}{σ:St}{H1:Hp}{s2:Shared}{cl:List (Str×Addr)}{fp:List Addr}{it:Addr}{tn:Nat->Heap->Prop}{J:It}{tt:TT}{te:TE}{Q:VK}{E:Value->Shared->Prop}
  {RR:Value->Addr->Result->Shared->Prop} (hc:CompOkP X.N X.env.scope scope x x2) (hcalm:X.calm=true)
  (hcl:∀y c,cl.lookup y=some c->X.env.cells.lookup y=some c) (hcl2:∀y,(y,NameKind.free)∈scope.names->(cl.lookup y).isSome=true)
  (ht:∀C fp s3 H3,PTs (cxCompP X scope cl C x x2 fp s3 H3) ifs tt) (he:∀C fp s3 H3,PE (cxCompP X scope cl C x x2 fp s3 H3) elt te)
  (I:Inv X pins σ H1 s2) (T:Turn X.prog X.w X.K (.Tuple [.Name x px,.Name x2 py2] kt pt) J fp it tn) (st:tn 0 s2.heap) (fpo:∀b∈fp,FpOk X pins H1 b)
  (h:∀D,H1 D=none->∃W:Nat->Nat->List V->Hp->Prop,
   (∃m,W 0 m [] (upd H1 D (.lst [])))/\∀i m ys H2,W i m ys H2->H2 D=some (.lst ys) /\
   ((J.stop i H2 ∧ Q (.ref D) H2) ∨ (J.go i H2 ∧ ∀ x H3, J.yld i H2 x H3 → ∃ a u v, x = .ref a ∧ SqT X.K H3 a [u, v] ∧ tt (some u :: some v :: σ) H3 fun ok H4 => if ok = true then
     te (some u::some v::σ) H4 (fun y H5=>H5 D=some (.lst ys)/\ys.length<sizeLine/\∃m',m'<m/\W (i+1) m' (ys++[y]) (upd H5 D (.lst (ys++[y]))))
     else ∃m',m'<m/\W (i+1) m' ys H4)))
  (hRR:∀D C s' H' m,Inv X pins σ H' s'->s'.heap.Ns C m->H' C=none->C≠X.env.locals->X.s₀.heap.objs.size<=C->(∀y c,X.env.cells.lookup y=some c->c≠C)->(∀p∈X.pn++pins,p.1≠C)->Q (.ref D) H'->RR (.ref D) C (.ok .next) s') :
  wpAny (model X.prog X.w) X.A (newList []) (fun acc s₃=>wpAny (model X.prog X.w) X.A (newFunctionEnv scope X.env.globals cl [] X.env.qual none .none (some X.env)) (fun cenv s₄=>
   codeAny (model X.prog X.w) X.A (.compStart (.ListComp elt [⟨.Tuple [.Name x px,.Name x2 py2] kt pt,iter,ifs,0⟩] scope pos) 0 (.ref it) acc { cenv with scope:=relabel scope X.env }) (RR acc cenv.locals) s₄) E s₃) E s2:=by
 refine wpAny_newObj_type (hd:=by size_fits) ?_
 have I3:=I.lnew (ys:=[]) (its:=[]) (t':=s2.toks) .nil (by show 0<=sizeLine;exact Nat.zero_le _)
 obtain⟨W,⟨m0,w0⟩,turn⟩:=h _ I.fresh
 generalize hD:s2.heap.objs.size=D at I3 w0 turn ⊢
 generalize hs3:({ s2 with heap:=s2.heap.push { cls:=.type "list", data:=.seq ([]:List Value).toArray } }:Shared)=s3
 have hs3':({ s2 with heap:=s2.heap.push { cls:=.type "list", data:=.seq ([]:List Value).toArray },toks:=s2.toks }:Shared)=s3:=hs3
 rw[hs3']at I3
 have keep3:∀b o,s2.heap.get? b=some o->s3.heap.get? b=some o:=fun b o e=>by rw[<-hs3];exact Heap.get?_push_of_some _ e
 have fpl:∀b∈fp,b<s3.heap.objs.size:=fun b hb=>by
  obtain⟨o,e,_⟩:=T.obj _ _ st b hb
  exact Heap.lt_size (keep3 b o e)
 have fpD:∀b∈fp,b≠D:=fun b hb z=>by
  obtain⟨o,e,_⟩:=T.obj _ _ st b hb
  exact absurd (Heap.lt_size e) (by rw[z,hD];exact Nat.lt_irrefl _)
 have fpo3:∀b∈fp,FpOk X pins (upd H1 D (.lst [])) b:=fun b hb=>⟨by rw[upd_ne (fpD b hb)];exact(fpo b hb).1,(fpo b hb).2⟩
 show wpAny _ _ _ _ _ s3
 refine wpAny_newFunctionEnv hc.cell (by intro y hy;simp at hy) (fun h₁ hns₁ hsb₁=>?_) hc.kind
 dsimp only[newEnv]at hns₁ hsb₁ ⊢
 have keep4:∀b o,s3.heap.get? b=some o->h₁.get? b=some o:=fun b o e=>hsb₁.extBut b o (Nat.ne_of_lt (Heap.lt_size e)) (Heap.get?_push_of_some _ e)
 have I4:=comp_invP (tk:=s3.toks+([]:List (Str×Value)).length) hc I3 hcl hcl2 fpo3 fpl hns₁ keep4
 have st4:tn 0 h₁:=T.keep _ _ _ st fun b hb o e=>keep4 b o (keep3 b o e)
 have loop:∀s₄:Shared,s₄={ s3 with heap:=h₁,toks:=s3.toks+([]:List (Str×Value)).length } ->
   codeAny (model X.prog X.w) X.A (.compLoop (.ListComp elt [⟨.Tuple [.Name x px,.Name x2 py2] kt pt,iter,ifs,0⟩] scope pos) 0 (.ref it) (.ref D) (compEnvC scope cl s3.heap.objs.size X.env)) (RR (.ref D) s3.heap.objs.size) s₄:=by
  rintro s₄ rfl
  have stat:∀ {H':Hp},(∀b∈fp,H' b=none)->∀b∈fp,FpOk (cxCompP X scope cl s3.heap.objs.size x x2 fp s3 (upd H1 D (.lst []))) [] H' b:=fun hn b hb=>
   ⟨hn b hb,Nat.ne_of_lt (fpl b hb),fun hf=>by
    rcases List.mem_cons.mp (I3.stkSub b hf)with e | e
    ·exact(fpo b hb).2.1 e
    ·exact(fpo b hb).2.2.1 e,.inl hb,fun y c e=>(fpo b hb).2.2.2.2.1 y c (hcl y c e),fun p hp=>absurd (show p∈([]:List (Addr×Obj))from hp) (by simp)⟩
  refine comp_loop (env:=compEnvC scope cl s3.heap.objs.size X.env) (fun n s'=>∃i ys H',Inv (cxCompP X scope cl s3.heap.objs.size x x2 fp s3 (upd H1 D (.lst []))) [] (none::none::σ) H' s'/\tn i s'.heap/\(∀b∈fp,H' b=none)/\W i n ys H') ?_ m0
   ⟨0,[],_,I4,st4,fun b hb=>(fpo3 b hb).1,w0⟩
  rintro n s5 ⟨i,ys,H5,I5,st5,fr5,w5⟩
  obtain⟨hDy,alt⟩:=turn i n ys H5 w5
  rcases alt with ⟨stop,q⟩ | ⟨go,step⟩
  ·refine wpAny_mono (T.done (cxCompP X scope cl s3.heap.objs.size x x2 fp s3 (upd H1 D (.lst []))) rfl rfl rfl hcalm i [] s5 _ H5 (fun _ _=>False) I5 (stat fr5) st5 stop) (fun r s6 ⟨hr,I6⟩=>?_) fun _ _ f=>f
   subst hr
   obtain⟨m6,n6,_⟩:=I6.loc
   have J6:Inv X pins σ H5 s6:=by
    refine I3.call' (ch:=fp) I6.os I6.base I6.hok I6.bare fun b hb=>?_
    obtain⟨_,f1,f2,f3,f4,f5⟩:=fpo3 b hb
    exact⟨f3,f1,f4,f5⟩
   refine hRR D _ s6 H5 m6 J6 n6 I6.free (Nat.ne_of_gt I3.lt) I3.sz (fun y c e z=>?_) (fun p hp z=>?_) q
   ·obtain⟨v,q⟩:=I3.cell y c e
    exact absurd q.lt (by rw[z];exact Nat.lt_irrefl _)
   ·exact absurd (Heap.lt_size (I3.pin p hp).1) (by rw[z];exact Nat.lt_irrefl _)
  ·refine wpAny_mono (T.item (cxCompP X scope cl s3.heap.objs.size x x2 fp s3 (upd H1 D (.lst []))) rfl rfl rfl hcalm i [] s5 _ H5 (fun _ _=>False) I5 (stat fr5) st5 go) (fun r s6 ⟨u,hr,h6⟩=>?_) fun _ _ f=>f
   subst hr
   refine thn h6 fun _ s6 ⟨xv,H6,I6,r6,y6,st6,fr6⟩=>?_
   have I6':=I6.pinned (stat fr6) (T.obj _ _ st6)
   obtain⟨pa,u1,u2,rfl,hsq,step⟩:=step xv H6 y6
   have hpg:PG (cxCompP X scope cl s3.heap.objs.size x x2 fp s3 (upd H1 D (.lst []))) (.Tuple [.Name x px,.Name x2 py2] kt pt) (gTup X.K 2 (gCons (gName 0) (gCons (gName 1) gNil))):=
    pg_tup (X:=cxCompP X scope cl s3.heap.objs.size x x2 fp s3 (upd H1 D (.lst []))) hcalm (pgs_cons (pg_name (i:=0) hc.nd rfl (.inl (lookup_relabel_local hc.own)) (.inr (lookup_relabel_local hc.own))) (pgs_cons (pg_name (i:=1) hc.nd rfl (.inl (lookup_relabel_local hc.own2)) (.inr (lookup_relabel_local hc.own2))) pgs_nil))
   refine thn (hpg _ s6 (none::none::σ) H6 (.ref pa) u (fun σ' H'=>σ'=some u1::some u2::σ/\H'=H6) I6' r6 ⟨pa,[u1,u2],rfl,hsq,rfl,_,_,rfl,_,_,rfl,rfl,rfl,rfl⟩) fun _ s7 ⟨σ7,H7,I7,e7,e7'⟩=>?_
   subst e7 e7'
   have again:∀ {s8:Shared} {H8:Hp} {ys8:List V},Inv (cxCompP X scope cl s3.heap.objs.size x x2 fp s3 (upd H1 D (.lst []))) ([]++pinsAt fp s6.heap) (some u1::some u2::σ) H8 s8->(∃m',m'<n/\W (i+1) m' ys8 H8) ->
     ∃m,m<n/\∃i ys H',Inv (cxCompP X scope cl s3.heap.objs.size x x2 fp s3 (upd H1 D (.lst []))) [] (none::none::σ) H' s8/\tn i s8.heap/\(∀b∈fp,H' b=none)/\W i m ys H':=by
    rintro s8 H8 ys8 I8 ⟨m',hm,w8⟩
    refine⟨m',hm,i+1,ys8,H8,(I8.unpinned (pins:=[])).weak rfl (fun j v e=>?_),T.keep _ _ _ st6 fun b hb o e=>(I8.pin (b,o) (List.mem_append_right _ (List.mem_append_right _ (mem_pinsAt hb e)))).1,fun b hb=>?_,w8⟩
    ·cases j with
     | zero=>cases e
     | succ j=>
      cases j with
      | zero=>cases e
      | succ j=>exact e
    ·obtain⟨o,e,d⟩:=T.obj _ _ st6 b hb
     exact(I8.pin (b,o) (List.mem_append_right _ (List.mem_append_right _ (mem_pinsAt hb e)))).2.1
   refine thn (ht _ fp s3 _ _ s7 _ _ _ I7 step) (fun ok s8 ⟨H8,I8,q8⟩=>?_)
   cases ok with
   | false=>exact again I8 (by simpa using q8)
   | true=>
    rw[if_pos rfl]at q8
    rw[if_pos rfl]
    refine thn (he _ fp s3 _ _ s8 _ H8 _ I8 q8) (fun v s9 ⟨y,H9,I9,r9,hD9,hz9,w9⟩=>?_)
    refine wpAny_mono (mt_append (X:=cxCompP X scope cl s3.heap.objs.size x x2 fp s3 (upd H1 D (.lst []))) _ s9 _ H9 (.ref D) [y] (.ref D) [v] (fun _ H'=>H'=upd H9 D (.lst (ys++[y]))) I9 rfl (.cons r9 .nil) ⟨D,ys,y,rfl,rfl,hD9,hz9,rfl⟩) (fun _ s10 ⟨_,H10,I10,_,e10⟩=>?_) fun _ _ f=>f
    subst e10
    exact again I10 w9
 exact codeAny_compStart_list (loop _ rfl) (T.self X.A 0 _ _ _ st4 (loop _ rfl))
theorem comp_cellsP{pins:List (Addr×Obj)}{σ:St}{H:Hp}{s:Shared}(hc:CompOkP X.N X.env.scope scope x x2)(I:Inv X pins σ H s):∀y∈scope.names,y.2=.free->∃c,X.env.cells.lookup y.1=some c:=by
 intro y hy e
 rcases hc.fr y hy e with q | q
 ·exact I.ok.has y.1 (.inl q)
 ·exact I.ok.has y.1 (.inr q)
theorem pe_compP{wi:TI}{tt:TT}{te:TE}(hc:CompOkP X.N X.env.scope scope x x2)(hcalm:X.calm=true)(hi:PI X (.Tuple [.Name x px,.Name x2 py2] kt pt) iter wi)
  (ht:∀cl C fp s3 H3,PTs (cxCompP X scope cl C x x2 fp s3 H3) ifs tt) (he:∀cl C fp s3 H3,PE (cxCompP X scope cl C x x2 fp s3 H3) elt te)
  (hs:∀x,foldedSetIterable iter X.env x=pure x:=by intro _;rfl) :
  PE X (.ListComp elt [⟨.Tuple [.Name x px,.Name x2 py2] kt pt,iter,ifs,0⟩] scope pos) (tCompP X.K wi tt te):=by
 intro pins s σ H Q I h
 obtain⟨cl,hclos,hcl,hcl2⟩:=closure_ex (comp_cellsP hc I)
 rw[eval_ListComp]
 refine wpAny_comprehension_free (use:=none) rfl hs hclos hc.kind hc.names (thn (hi pins s σ H _ I h) fun v s1 h1=>thn h1 fun itv s2 ⟨it,fp,tn,J,H2,e,I2,T,st,fpo,R⟩=>?_)
 subst e
 refine comp_blockP (RR:=fun acc C=>compPost (model X.prog X.w) X.A X.xe none (EP X pins σ Q) acc C) (Q:=Q) hc hcalm hcl hcl2 (ht cl) (he cl) I2 T st fpo R ?_
 intro D C s' H' m I' n f1 f2 f3 f4 f5 q
 exact⟨m,n,fun h' sb=>⟨.ref D,H',I'.turned (t':=s'.toks) (fun b o hb e=>(sb.2 b hb).trans e) f1 f2 (.inr f3) f4 f5,rfl,q⟩⟩
end
end L2
namespace L2
open PySem PySem.Spec PyProof.Rows
section
variable {X:Cx}
def qMin:List V->Hp->VK->Prop:=fun xs H Q=>match xs with
 | [.int i,.int j]=>Q (.int (if j<i then j else i)) H
 | _=>False
theorem call_qmin(hc:X.calm=true):CallR X (.builtin "min") qMin:=(call_min2 hc).imp fun xs H Q h=>by
 unfold qMin at h
 split at h
 ·exact⟨_,_,rfl,h⟩
 ·exact h.elim
theorem any_range:∀bs:List Bool,((List.range bs.length).any fun i=>(bs[i]?).getD false)=bs.any id:=by
 intro bs
 induction bs with
 | nil=>rfl
 | cons b r ih=>
  rw[List.length_cons,List.range_succ_eq_map,List.any_cons,List.any_map,List.any_cons]
  rw[<-ih]
  rfl
def qAny:List V->Hp->VK->Prop:=fun vs H Q=>match vs with
 | [.ref l]=>match H l with
  | some (.lst xs)=>∃bs,boolsOf xs=some bs/\Q (.bl (bs.any id)) H
  | _=>False
 | _=>False
theorem call_qany(hc:X.calm=true):CallR X (.builtin "any") qAny:=fun pins s σ H xs us Q I r h=>by
 unfold qAny at h
 split at h
 ·split at h
  ·rename_i l _ ys hl
   obtain⟨bs,e,q⟩:=h
   obtain⟨u,rfl,ru⟩:=vals1 r
   cases ru
   obtain⟨its,rv,pl,hz⟩:=I.list (SqL.of hl)
   have hlt:l<s.heap.objs.size:=by obtain⟨_,e,_⟩:=pl.isList;exact Heap.lt_size e
   have hlen:=rv.length
   have hbl:=bools_len e
   refine call_any_walk (wpAny_pyIter_list pl.isList ?_)
   refine⟨s.heap.objs.size,[s.heap.objs.size,l],[s.heap.objs.size],its.toArray.size,_,_,fun i=>(bs[i]?).getD false,rfl,Walks.list (A:=X.A.in1) (I.ok.hd hc) _ l (Nat.ne_of_lt hlt) its.toArray,
    ⟨⟨_,Heap.get?_push_size _ rfl,rfl,rfl⟩,pl.isList.push _⟩,fun i v s' Q' E' hP hQ=>?_,fun h' tk hk=>?_⟩
   ·have hP:its[i]? = some v:=by simpa using hP
    have hi:i<ys.length:=by rw[hlen];exact(List.getElem?_eq_some_iff.mp hP).1
    have ey:ys[i]? = some ys[i]:=by simp[hi]
    obtain⟨b,eb,ez⟩:=bools_get e ey
    obtain⟨u,eu,ru⟩:=rv.get ey
    rw[hP]at eu
    cases eu
    rw[ez]at ru
    cases ru
    simp only[eb,Option.getD_some]at hQ
    exact wpAny_truthy_bool hQ
   ·have e2:((List.range its.toArray.size).any fun i=>(bs[i]?).getD false)=bs.any id:=by
     rw[List.size_toArray,<-hlen,hbl]
     exact any_range bs
    rw[e2]
    exact⟨.bl _,H,I.kept (t':=tk) fun b x e=>hk b x (fun hm=>by rw[List.mem_singleton.mp hm]at e;exact Nat.lt_irrefl _ (Heap.lt_size e)) (Heap.get?_push_of_some _ e),rfl,q⟩
  ·exact h.elim
 ·exact h.elim
def intsOf:List V->Option (List Int)
 | []=>some []
 | .int i::r=>(intsOf r).map (i :: ·)
 | _=>none
theorem intsOf_map(ns:List Int):intsOf (ns.map V.int)=some ns:=by
 induction ns with
 | nil=>rfl
 | cons s r ih=>simp[intsOf,ih]
theorem intsAre2_of:∀ {xs:List V} {us:List Value} {ss:List Int},Vals xs us->intsOf xs=some ss->IntsAre us ss
 | _,_,ss,.nil,e=>by cases e;exact .nil
 | x::xs,_,ss,.cons r t,e=>by
  cases x with
  | int s=>
   obtain⟨k,rfl⟩:=r
   cases e2:intsOf xs with
   | none=>simp[intsOf,e2]at e
   | some ss2=>
    simp[intsOf,e2]at e
    subst e
    exact .cons _ _ (intsAre2_of t e2)
  | _=>simp[intsOf]at e
def qSorted:List V->Hp->VK->Prop:=fun vs H Q=>match vs with
 | [.ref l]=>match H l with
  | some (.lst xs)=>∃ns,intsOf xs=some ns/\ns.length<64/\∀(p:Addr) (ms:List Int),ms.Perm ns->ms.Pairwise (· <= ·)->H p=none->Q (.ref p) (upd H p (.lst (ms.map V.int)))
  | _=>False
 | _=>False
theorem call_qsorted:CallR X (.builtin "sorted") qSorted:=fun pins s σ H xs us Q I r h=>by
 unfold qSorted at h
 split at h
 ·split at h
  ·rename_i l _ ys hl
   obtain⟨ns,e,hn,q⟩:=h
   obtain⟨u,rfl,ru⟩:=vals1 r
   cases ru
   obtain⟨its,rv,pl,hz⟩:=I.list (SqL.of hl)
   have hi:=intsAre2_of rv e
   have hil:=hi.length
   refine sorted_ints pl.isList hi (by omega) fun out ns' a1 a2 a3=>?_
   obtain⟨c,he⟩:=sortedAll_at s.heap its out
   have hl':=a2.length_eq
   refine⟨.ref _,_,I.laid (t':=s.toks) (a:=s.heap.objs.size+1) (o:=.lst (ns'.map V.int)) (fun b ob q=>sortedAll_old q) (Nat.le_succ _) ?_,rfl,q _ ns' a2 a3 (I.hok.fresh (Nat.le_succ _))⟩
   refine⟨by rw[List.length_map,sizeLine_eq];omega,out.toList,c,vals_ints a1,?_⟩
   exact he
  ·exact h.elim
 ·exact h.elim
def qIndex:V->List V->Hp->VK->Prop:=fun x vs H Q=>match x,vs with
 | .ref l,[.int k]=>match H l with
  | some (.lst xs)=>∃ns,intsOf xs=some ns/\ns.length<10000/\k∈ns/\Q (.int (ns.idxOf k:Nat)) H
  | _=>False
 | _,_=>False
theorem mt_qindex:MtR X "list.index" qIndex:=fun pins s σ H x xs v us Q I rx rv h=>by
 unfold qIndex at h
 split at h
 ·split at h
  ·rename_i l k _ ys hl
   obtain⟨ns,e,hn,hk,q⟩:=h
   cases rx
   obtain⟨u,rfl,⟨t,rfl⟩⟩:=rv.one
   obtain⟨its,r,pl,hz⟩:=I.list (SqL.of hl)
   have hi:=intsAre2_of r e
   obtain⟨⟨cls,dd,data,sl⟩,ho,hc,n,hd⟩:=id pl.isList
   simp only at hc hd
   subst hc hd
   have hlen:=hi.length
   have hj:ns.idxOf k<ns.length:=List.idxOf_lt_length_iff.mpr hk
   refine call_meets PySem.F.slot_list_index ⟨_,ho,rfl⟩ PySem.F.entry_list_index (PySem.F.args_list_index_2 _ _)
    (PySem.SeqAt.list_indexAt l its.toArray n dd sl (.int k t) (isInt k) (ns.idxOf k) (by simpa[hlen]using hj) (by omega) ?_ ?_) ⟨ho,fun y hy=>(eq_isInt k t hi y (by simpa using hy)).at _ _,⟨.int _,H,I.tok _,⟨_,rfl⟩,q⟩⟩
   ·show isInt k its[ns.idxOf k]=true
    rw[isInt_at k hi _ (by omega) hj]
    simpa using List.getElem_idxOf hj
   ·intro j hjs hlt
    show isInt k its[j]=false
    rw[isInt_at k hi j (by simpa using hjs) (by omega)]
    exact ne_of_lt_idxOf hlt _
  ·exact h.elim
 ·exact h.elim
def qExtend:V->List V->Hp->VK->Prop:=fun x vs H Q=>match x,vs with
 | .ref l,[.ref b]=>match H l,H b with
  | some (.lst xs),some (.lst zs)=>xs.length+zs.length<=sizeLine/\Q .non (upd H l (.lst (xs++zs)))
  | _,_=>False
 | _,_=>False
theorem mt_qextend:MtR X "list.extend" qExtend:=fun pins s σ H x xs v us Q I rx rv h=>by
 refine mt_extend pins s σ H x xs v us Q I rx rv ?_
 unfold qExtend at h
 split at h
 ·split at h
  ·exact⟨_,_,_,_,rfl,rfl,by assumption,by assumption,h.1,h.2⟩
  ·exact h.elim
 ·exact h.elim
def qPop:V->List V->Hp->VK->Prop:=fun x vs H Q=>match x,vs with
 | .ref l,[]=>match H l with
  | some (.lst xs)=>∃y,xs[xs.length - 1]? = some y/\Q y (upd H l (.lst xs.dropLast))
  | _=>False
 | _,_=>False
theorem mt_qpop:MtR X "list.pop" qPop:=fun pins s σ H x xs v us Q I rx rv h=>by
 refine mt_pop pins s σ H x xs v us Q I rx rv ?_
 unfold qPop at h
 split at h
 ·split at h
  ·obtain⟨y,e,q⟩:=h
   exact⟨_,_,y,rfl,rfl,by assumption,e,q⟩
  ·exact h.elim
 ·exact h.elim
def qClear:V->List V->Hp->VK->Prop:=fun x vs H Q=>match x,vs with
 | .ref l,[]=>match H l with
  | some (.lst _)=>Q .non (upd H l (.lst []))
  | _=>False
 | _,_=>False
theorem mt_qclear:MtR X "list.clear" qClear:=fun pins s σ H x xs v us Q I rx rv h=>by
 refine mt_clear pins s σ H x xs v us Q I rx rv ?_
 unfold qClear at h
 split at h
 ·split at h
  ·exact⟨_,_,rfl,rfl,by assumption,h⟩
  ·exact h.elim
 ·exact h.elim
def qListD:List V->Hp->VK->Prop:=fun xs H Q=>match xs with
 | [.ref p]=>match H p with
  | some (.dK kvs)=>∀l,H l=none->Q (.ref l) (upd H l (.lst (kvs.map fun kv=>kV kv.1)))
  | _=>False
 | _=>False
theorem kV_of{P:Program}{w:World}{k:Key}{u:Value}(r:(mixKind P w).is k u=true):RelV (kV k) u:=by
 rcases keyIs_shape (show keyIs k u=true from r)with ⟨i,t,rfl,rfl⟩ | ⟨x,t,rfl,rfl⟩
 ·exact⟨t,rfl⟩
 ·exact⟨t,rfl⟩
theorem vals_of:∀ {xs:List V} {us:List Value},xs.length=us.length->(∀(i:Nat) x u,xs[i]? = some x->us[i]? = some u->RelV x u)->Vals xs us
 | [],[],_,_=>.nil
 | x::xs,u::us,hl,h=>.cons (h 0 x u rfl rfl) (vals_of (by simpa using hl) fun i y v a b=>h (i+1) y v (by simpa using a) (by simpa using b))
 | [],u::us,hl,_=>by cases hl
 | x::xs,[],hl,_=>by cases hl
theorem kv_at:∀ {l:List (Key×V)} {la:List (Key×Value)} {i:Nat} {k:Key} {x:Value},KV l la->la[i]? = some (k,x)->∃y,l[i]? = some (k,y)
 | p::l,q::la,0,k,x,h,e=>by
  have h:Paired _ _ _:=h
  cases h with
  | cons h t=>
   cases e
   exact⟨p.2,by rw[List.getElem?_cons_zero];rw[show k=p.1 from h.1.symm]⟩
 | p::l,q::la,i+1,k,x,h,e=>by
  have h:Paired _ _ _:=h
  cases h with
  | cons h t => 
   obtain⟨y,hy⟩:=kv_at (i:=i) (show KV l la from t) (by simpa using e)
   exact⟨y,by simpa using hy⟩
 | [],la,i,k,x,h,e=>by
  have h:Paired _ _ _:=h
  cases h
  cases e
 | p::l,[],i,k,x,h,e=>by
  have h:Paired _ _ _:=h
  cases h
theorem call_qlistd(hc:X.calm=true):CallR X (.type "list") qListD:=fun pins s σ H xs us Q I r h=>by
 unfold qListD at h
 split at h
 ·split at h
  ·rename_i p _ kvs hp
   obtain⟨u,rfl,ru⟩:=vals1 r
   cases ru
   obtain⟨hz,hS,vs,rk,hD⟩:=dk_of I.hok hp
   obtain⟨ep,hat⟩:=hD.dictAt
   have hl:=Paired.length rk
   refine PySem.W.kdl_call (PySem.W.kdl_dict (knd:=mixKind X.prog X.w) (kvs:=vs) (ep:=ep) hS) (I.ok.hd hc) hat (by omega) fun h' tk acc c hk ha hit=>?_
   refine⟨.ref _,_,I.laid (t':=tk) (a:=s.heap.objs.size) (o:=.lst (kvs.map fun kv=>kV kv.1)) hk (Nat.le_refl _) ?_,rfl,h _ (I.hok.fresh (Nat.le_refl _))⟩
   refine⟨by rw[List.length_map];exact hz,acc.toList,c,?_,by simpa using ha⟩
   refine vals_of (by have:=hit.1;rw[List.length_map];simp;omega) fun i x u a b=>?_
   obtain⟨k,y,e1,e2⟩:=hit.2 i u (by rw[<-Array.getElem?_toList];exact b)
   obtain⟨z,e3⟩:=kv_at rk e1
   rw[List.getElem?_map,e3]at a
   cases a
   exact kV_of e2
  ·exact h.elim
 ·exact h.elim
inductive Dq(K:Fg)(H:Hp):Nat->V->V->Prop
 | flat {n:Nat} {x:V}:flatV x=true->Dq K H n x x
 | tup {n:Nat} {a b:Addr} {xs ys:List V}:SqT K H a xs->SqT K H b ys->xs.length=ys.length->(∀(j:Nat) x y,xs[j]? = some x->ys[j]? = some y->Dq K H n x y)->Dq K H (n+1) (.ref a) (.ref b)
 | lst {n:Nat} {a b:Addr} {xs ys:List V}:SqL K H a xs->SqL K H b ys->xs.length=ys.length->(∀(j:Nat) x y,xs[j]? = some x->ys[j]? = some y->Dq K H n x y)->Dq K H (n+1) (.ref a) (.ref b)
theorem eqV_refl{x:V}(h:flatV x=true):eqV x x=true:=by
 cases x with
 | non=>rfl
 | bl b=>simp[eqV]
 | int i=>simp[eqV]
 | str s=>simp[eqV]
 | byt b=>cases h
 | flt b=>cases h
 | ref a=>cases h
 | ty n=>cases h
theorem all_true{n:Nat}:(List.range n).all (fun _=>true)=true:=by simp
theorem Dq.both{pins:List (Addr×Obj)}{s:Shared}{σ:St}{H:Hp}(I:Inv X pins σ H s){n:Nat}{x y:V}(d:Dq X.K H n x y):∀ {A:Around} {v u:Value},A.units+n<cLine->RelV x v->RelV y u ->
  SeqAt.EqAt A s v u true/\(∀a b,x=.ref a->y=.ref b->SeqAt.RcAt A s v u true/\SeqAt.RcNeAt A s v u false):=by
 induction d with
 | @flat n x hf=>
  intro A v u hu rv ru
  refine⟨?_,fun a b e=>by subst e;cases hf⟩
  have:=eqAt_V (A:=A) (s:=s) rv ru hf hf
  rwa [eqV_refl hf]at this
 | @tup n a b xs ys ha hb hl hq ih=>
  intro A v u hu rv ru
  cases rv
  cases ru
  obtain⟨us,r1,t1,_⟩:=I.tuple ha
  obtain⟨ws,r2,t2,_⟩:=I.tuple hb
  have l1:=r1.length
  have l2:=r2.length
  have el:∀j (h1:j<us.toArray.size) (h2:j<ws.toArray.size),SeqAt.EqAt A.in1 s us.toArray[j] ws.toArray[j] true:=by
   intro j h1 h2
   have h1':j<xs.length:=by simpa[l1]using h1
   have h2':j<ys.length:=by simpa[l2]using h2
   obtain⟨u1,e1,q1⟩:=r1.get (i:=j) (x:=xs[j]) (by simp)
   obtain⟨u2,e2,q2⟩:=r2.get (i:=j) (x:=ys[j]) (by simp)
   have z1:us.toArray[j]=u1:=by
    have:=(List.getElem?_eq_some_iff.mp e1).2
    simpa using this
   have z2:ws.toArray[j]=u2:=by
    have:=(List.getElem?_eq_some_iff.mp e2).2
    simpa using this
   rw[z1,z2]
   exact(ih j _ _ (by simp) (by simp) (A:=A.in1) (by show A.units+1+n<cLine;omega) q1 q2).1
  have c1:SeqAt.RcAt A s (.ref a) (.ref b) true:=by
   have q:=SeqAt.RcAt.tuples (A:=A) (e:=fun _=>true) t1 t2 (by omega) el
   have e:us.toArray.size=ws.toArray.size:=by simp[<-l1,<-l2,hl]
   rw[all_true,e,beq_self_eq_true]at q
   exact q
  have c2:SeqAt.RcNeAt A s (.ref a) (.ref b) false:=by
   have q:=SeqAt.RcNeAt.tuples (A:=A) (e:=fun _=>true) t1 t2 (by omega) el
   have e:us.toArray.size=ws.toArray.size:=by simp[<-l1,<-l2,hl]
   rw[all_true,e,beq_self_eq_true]at q
   exact q
  refine⟨?_,fun _ _ _ _=>⟨c1,c2⟩⟩
  by_cases e:a=b
  ·subst e;exact SeqAt.EqAt.same _
  ·exact SeqAt.EqAt.of_refs e c1
 | @lst n a b xs ys ha hb hl hq ih=>
  intro A v u hu rv ru
  cases rv
  cases ru
  obtain⟨us,r1,t1,_⟩:=I.list ha
  obtain⟨ws,r2,t2,_⟩:=I.list hb
  have l1:=r1.length
  have l2:=r2.length
  have el:∀j (h1:j<us.toArray.size) (h2:j<ws.toArray.size),SeqAt.EqAt A.in1 s us.toArray[j] ws.toArray[j] true:=by
   intro j h1 h2
   have h1':j<xs.length:=by simpa[l1]using h1
   have h2':j<ys.length:=by simpa[l2]using h2
   obtain⟨u1,e1,q1⟩:=r1.get (i:=j) (x:=xs[j]) (by simp)
   obtain⟨u2,e2,q2⟩:=r2.get (i:=j) (x:=ys[j]) (by simp)
   have z1:us.toArray[j]=u1:=by
    have:=(List.getElem?_eq_some_iff.mp e1).2
    simpa using this
   have z2:ws.toArray[j]=u2:=by
    have:=(List.getElem?_eq_some_iff.mp e2).2
    simpa using this
   rw[z1,z2]
   exact(ih j _ _ (by simp) (by simp) (A:=A.in1) (by show A.units+1+n<cLine;omega) q1 q2).1
  have e:us.toArray.size=ws.toArray.size:=by simp[<-l1,<-l2,hl]
  have c1:SeqAt.RcAt A s (.ref a) (.ref b) true:=by
   have q:=SeqAt.RcAt.lists (A:=A) (e:=fun _=>true) t1.isList t2.isList e (by omega) el
   rw[all_true]at q
   exact q
  have c2:SeqAt.RcNeAt A s (.ref a) (.ref b) false:=by
   have q:=SeqAt.RcNeAt.lists (A:=A) (e:=fun _=>true) t1.isList t2.isList e (by omega) el
   rw[all_true]at q
   exact q
  refine⟨?_,fun _ _ _ _=>⟨c1,c2⟩⟩
  by_cases e:a=b
  ·subst e;exact SeqAt.EqAt.same _
  ·exact SeqAt.EqAt.of_refs e c1
def qEqT(K:Fg):R2:=fun x y H Q=>∃a b n,x=.ref a/\y=.ref b/\n<=20/\Dq K H n x y/\Q (.bl true) H
def qNeT(K:Fg):R2:=fun x y H Q=>∃a b n,x=.ref a/\y=.ref b/\n<=20/\Dq K H n x y/\Q (.bl false) H
theorem op_qeqt{k:Nat}(hr:Room k X.A):OpR X (compareOp .Eq) (qEqT X.K):=by
 intro pins s σ H x y v u Q I rx ry ⟨a,b,n,e1,e2,hn,d,q⟩
 have hu:=hr.units
 exact((d.both I (A:=X.A) (by omega) rx ry).2 a b e1 e2).1 _ _ _ _ ⟨.bl true,H,I,rfl,q⟩
theorem op_qnet{k:Nat}(hr:Room k X.A):OpR X (compareOp .NotEq) (qNeT X.K):=by
 intro pins s σ H x y v u Q I rx ry ⟨a,b,n,e1,e2,hn,d,q⟩
 have hu:=hr.units
 exact((d.both I (A:=X.A) (by omega) rx ry).2 a b e1 e2).2 _ _ _ _ ⟨.bl false,H,I,rfl,q⟩
def qEqK(K:Fg):R2:=fun x y H Q=>∃a b xs ys,x=.ref a/\y=.ref b/\SqT K H a xs/\SqT K H b ys/\xs.all flatV=true/\ys.all flatV=true/\Q (.bl (flatEq xs ys)) H
theorem op_qeqk{k:Nat}(hr:Room k X.A):OpR X (compareOp .Eq) (qEqK X.K):=by
 intro pins s σ H x y v u Q I rx ry ⟨a,b,xs,ys,e1,e2,ha,hb,fx,fy,q⟩
 have hu:=hr.units
 subst e1 e2
 cases rx
 cases ry
 obtain⟨us,r1,t1,_⟩:=I.tuple ha
 obtain⟨ws,r2,t2,_⟩:=I.tuple hb
 have l1:=r1.length
 have l2:=r2.length
 have q1:=SeqAt.RcAt.tuples (A:=X.A) t1 t2 (by omega) (flat_at r1 r2 fx fy)
 simp only[List.size_toArray,<-l1,<-l2]at q1
 exact q1 _ _ _ _ ⟨.bl (flatEq xs ys),H,I,rfl,q⟩
def qNeK(K:Fg):R2:=fun x y H Q=>∃a b xs ys,x=.ref a/\y=.ref b/\SqT K H a xs/\SqT K H b ys/\xs.all flatV=true/\ys.all flatV=true/\Q (.bl (!flatEq xs ys)) H
theorem op_qnek{k:Nat}(hr:Room k X.A):OpR X (compareOp .NotEq) (qNeK X.K):=by
 intro pins s σ H x y v u Q I rx ry ⟨a,b,xs,ys,e1,e2,ha,hb,fx,fy,q⟩
 have hu:=hr.units
 subst e1 e2
 cases rx
 cases ry
 obtain⟨us,r1,t1,_⟩:=I.tuple ha
 obtain⟨ws,r2,t2,_⟩:=I.tuple hb
 have l1:=r1.length
 have l2:=r2.length
 have q1:=SeqAt.RcNeAt.tuples (A:=X.A) t1 t2 (by omega) (flat_at r1 r2 fx fy)
 simp only[List.size_toArray,<-l1,<-l2]at q1
 exact q1 _ _ _ _ ⟨.bl (!flatEq xs ys),H,I,rfl,q⟩
def qLenK(K:Fg):List V->Hp->VK->Prop:=fun vs H Q=>∃p xs,vs=[.ref p]/\SqT K H p xs/\Q (.int xs.length) H
def qReverse:V->List V->Hp->VK->Prop:=fun x vs H Q=>match x,vs with
 | .ref l,[]=>match H l with
  | some (.lst xs)=>Q .non (upd H l (.lst xs.reverse))
  | _=>False
 | _,_=>False
def qInK(K:Fg):R2:=fun x y H Q=>∃p xs,y=.ref p/\SqT K H p xs/\flatV x=true/\xs.all flatV=true/\Q (.bl (inV x xs)) H
theorem op_qink:OpR X (compareOp .In) (qInK X.K):=op_in_seq.imp fun x y H Q ⟨p,xs,e,h1,h2,h3,q⟩=>⟨p,xs,e,.inr h1,h2,h3,q⟩
def qIxK(K:Fg):R2:=fun x y H Q=>∃p i xs v,x=.ref p/\y=.int i/\SqT K H p xs/\atI xs i=some v/\Q v H
def qIsiK(K:Fg):List V->Hp->VK->Prop:=fun vs H Q=>∃p xs,vs=[.ref p,.ty "tuple"]/\SqT K H p xs/\Q (.bl true) H
theorem ps_raise{e c:Option Expr}{pos:Pos}:PS X (.Raise e c pos) (fun _ _ _=>False):=fun _ _ _ _ _ _ h=>h.elim
structure Maker(P:Program)(w:World)(K:Fg)(mg:Str->Option Value)(base:Heap)(k:Nat)(x:Str)(C:Addr)(ps:List Str)(sp:Sp):Prop where
 ex:∃f fd,FnOk P w K mg base CX0 k f fd ps sp/\mg x=some (.ref C)/\Mk K C f/\Binds K fd ps []
theorem pe_mk{k j:Nat}{x:Str}{C:Addr}{ps:List Str}{sp:Sp}{e:Expr}{es:List Expr}{t:TA}{p pos:Pos}(M:Maker X.prog X.w X.K X.mg X.base k x C ps sp)(hr:Room j X.A)(hk:k+1<=j)(hg:Gl X x)(ha:PA X (e::es) t)
  (hdb:(x == ("__debug__" : Str))=false:=by decide) (he:starEach (e::es) X.env=(false,eval e X.env)::starEach es X.env:=by rfl) (hpl:(backTo pos (starEach es X.env)).any (·.1)=false:=by rfl) :
  PE X (.Call (.Name x p) (e::es) [] pos) (tMake C sp [] E0 t):=by
 obtain⟨f,fd,F,hm,hM,hb⟩:=M.ex
 exact pe_make hM F (hr.mono hk) hg hm hb .nil pass0 ha hdb he hpl
structure MCallee(P:Program)(w:World)(K:Fg)(mg:Str->Option Value)(base:Heap)(k:Nat)(m:Str)(C:Addr)(ps:List Str)(sp:Sp):Prop where
 ex:∃f fd,FnOk P w K mg base CX0 k f fd ps sp/\Cls K C/\Meth K C m f/\Binds K fd ps []
theorem pe_mth{pl:Sem Bool}{k j:Nat}{m:Str}{C:Addr}{ps:List Str}{sp:Sp}{o e:Expr}{es:List Expr}{ta:TE}{t:TA}{apos pos:Pos}(M:MCallee X.prog X.w X.K X.mg X.base k m C ps sp)(hr:Room j X.A)(hk:k<=j)(ho:PE X o ta)(ha:PA X (e::es) t)
  (hst:starEach (e::es) X.env=(false,eval e X.env)::starEach es X.env:=by rfl) (hpl:(backTo pos (starEach es X.env)).any (·.1)=false:=by rfl)
  (ht:eval (.Call (.Attribute o m apos) (e::es) [] pos) X.env=(do
   let ov <-eval o X.env
   standAt apos.atName
   let(f,first) <-holding [ov] (getMethod ov m pl)
   callWith pos f first (backTo pos (starEach (e::es) X.env)) (backToKw pos (keywordEach [] X.env))):=by rfl) :
  PE X (.Call (.Attribute o m apos) (e::es) [] pos) (tMeth C m sp [] E0 ta t):=by
 obtain⟨f,fd,F,c,hm,hb⟩:=M.ex
 exact pe_meth (pl:=pl) ho c hm F (hr.mono hk) hb .nil pass0 ha hst hpl ht
end
theorem relabel_free{env:Env}:∀ {names:List (Str×NameKind)} {y:Str},names.lookup y=some .free ->
  (names.map fun(n,k)=>if(k == NameKind.free&&env.scope.kind == .function&&env.kindOf n == some .cell)then (n,NameKind.cell)else (n,k)).lookup y=some .cell \/
  (names.map fun(n,k)=>if(k == NameKind.free&&env.scope.kind == .function&&env.kindOf n == some .cell)then (n,NameKind.cell)else (n,k)).lookup y=some .free
 | [],_,h=>by cases h
 | (n,k0)::r,y,h=>by
  have ih := @relabel_free env r y
  rw[List.lookup_cons]at h
  rw[List.map_cons]
  dsimp only
  cases hx:y == n with
  | true=>
   rw[hx]at h
   cases h
   by_cases hc:(NameKind.free == NameKind.free&&env.scope.kind == .function&&env.kindOf n == some .cell)=true
   ·rw[if_pos hc,List.lookup_cons,hx];exact .inl rfl
   ·rw[if_neg hc,List.lookup_cons,hx];exact .inr rfl
  | false=>
   rw[hx]at h
   by_cases hc:(k0 == NameKind.free&&env.scope.kind == .function&&env.kindOf n == some .cell)=true
   ·rw[if_pos hc,List.lookup_cons,hx];exact ih h
   ·rw[if_neg hc,List.lookup_cons,hx];exact ih h
theorem fr_nest{sc1 sc:Scope}{env:Env}(h:∀y∈sc.names,y.2=.free->sc1.names.lookup y.1=some .free):∀y∈sc.names,y.2=.free->(relabel sc1 env).names.lookup y.1=some .cell\/(relabel sc1 env).names.lookup y.1=some .free:=
 fun y hy e=>relabel_free (h y hy e)
end L2
namespace PySem
open Sem (wp)
namespace F
end F
section
variable {prog:Program}{w:World}{A:Around}{E:Value->Shared->Prop}{h:Heap}{g:Array GenState}{d:Drawn}{t:Nat}{os:OsState}{a:Addr}{xs:Array Value}{n:Nat}{sl:Array (Option Value)}
end
end PySem
namespace PySem
open Sem (wp)
namespace F
end F
section
variable {prog:Program}{w:World}{K:Type}[DecidableEq K]{knd:KeyKind prog w K}{A:Around}{s:Shared}{R:Result->Shared->Prop}
def prsF(ps:List (K×Value)):List (K×Value):=ps.foldl (fun m p=>stored m p.1 p.2) []
end
section
variable {prog:Program}{w:World}{K:Type}[DecidableEq K]{knd:KeyKind prog w K}{A:Around}{E:Value->Shared->Prop}{s:Shared}
end
end PySem
namespace L2
open PySem PySem.Spec PyProof.Rows
section
variable {X:Cx}
def qDictL:List V->Hp->VK->Prop:=fun xs H Q=>∃a vs kvs,xs=[.ref a]/\H a=some (.lst vs)/\vs.length=(kvs:List (Key×V)).length /\
 (∀(i:Nat) k x,kvs[i]? = some (k,x)->∃p,vs[i]? = some (.ref p)/\H p=some (.tup [kV k,x]))/\(kvs.map (·.1)).Nodup/\∀p,H p=none->Q (.ref p) (upd H p (.dK kvs))
end
end L2
namespace L2
open PySem PySem.Spec PyProof.Rows
section
variable {X:Cx}{tg:Expr}
def Itd(hi:Int)(n:Nat):It:=⟨fun i _=>i<n,fun i H x H'=>H'=H/\x=.int (hi - i),fun i _=>n<=i⟩
def iRng3(ta:TA):TI:=fun σ H R=>ta σ H fun vs H1=>∃i j:Int,vs=[.int i,.int j,.int (-1)]/\(-(2 ^ 30)<=i/\i<2 ^ 30 /\ -(2 ^ 30)<=j/\j<2 ^ 30)/\R (Itd i (i - j).toNat) H1
end
end L2
namespace L2
open PySem PySem.Spec PyProof.Rows
section
variable {X:Cx}
def tupEq(H:Hp)(xs:List V)(b:Addr):Bool:=match H b with
 | some (.tup zs)=>flatEq zs xs
 | _=>false
def qInT(neg:Bool):R2:=fun x y H Q=>∃a p xs bs,x=.ref a/\y=.ref p/\H a=some (.tup xs)/\xs.all flatV=true/\H p=some (.lst ((bs:List Addr).map V.ref)) /\
 (∀b∈bs,∃zs,H b=some (.tup zs)/\zs.all flatV=true)/\Q (.bl (if neg then !(bs.any (tupEq H xs))else bs.any (tupEq H xs))) H
end
end L2
namespace L2
open PySem PySem.Spec PyProof.Rows
section
variable {X:Cx}
def qTuple:List V->Hp->VK->Prop:=fun xs H Q=>match xs with
 | [.ref p]=>match H p with
  | some (.lst ys)=>∀l,H l=none->Q (.ref l) (upd H l (.tup ys))
  | _=>False
 | _=>False
theorem call_qtuple:CallR X (.type "tuple") qTuple:=call_tuple_of.imp fun xs H Q h=>by
 unfold qTuple at h
 split at h
 ·split at h
  ·exact⟨_,_,rfl,.inl ⟨SqL.of (by assumption),h⟩⟩
  ·exact h.elim
 ·exact h.elim
def qStrI:List V->Hp->VK->Prop:=fun xs H Q=>match xs with
 | [.int i]=>i.natAbs<2 ^ 40/\∀y:Str,Q (.str y) H
 | _=>False
theorem call_qstri:CallR X (.type "str") qStrI:=call_str_int.imp fun xs H Q h=>by
 unfold qStrI at h
 split at h
 ·obtain⟨h1,q⟩:=h
  refine⟨_,rfl,?_,q _⟩
  rename_i i
  by_cases z:i.natAbs=0
  ·rw[z];decide +kernel
  ·exact Nat.lt_trans ((Nat.log2_lt z).mpr h1) (by decide)
 ·exact h.elim
def qNeD:R2:=fun x y H Q=>match x,y with
 | .ref a,.ref b=>match H a,H b with
  | some (.dK k1),some (.dK k2)=>k1=k2/\(k1.map (·.1)).Nodup/\k1.all (fun p=>flatV p.2)=true/\Q (.bl false) H
  | _,_=>False
 | _,_=>False
theorem op_qned(hu:X.A.units<cLine):OpR X (compareOp .NotEq) qNeD:=by
 intro pins s σ H x y v u Q I rx ry h
 unfold qNeD at h
 split at h
 ·split at h
  ·rename_i k1 k2 h1 h2
   obtain⟨rfl,nd,fl,q⟩:=h
   cases rx
   cases ry
   obtain⟨_,ha,va,r1,d1⟩:=dk_of I.hok h1
   obtain⟨_,hb,vb,r2,d2⟩:=dk_of I.hok h2
   have l1:va.length=vb.length:=by
    have a1:=Paired.length r1
    have a2:=Paired.length r2
    omega
   refine PySem.W.keq_ne ha hb d1 d2 hu (fun _=>hits_of r2 nd fl r1 fun p hp=>hp) ?_
   rw[l1,beq_self_eq_true,Bool.true_and]
   exact⟨.bl false,H,I,rfl,q⟩
  ·exact h.elim
 ·exact h.elim
def qEqE:R2:=fun x y H Q=>∃a b xs,x=.ref a/\y=.ref b/\H a=some (.lst xs)/\H b=some (.lst [])/\Q (.bl (decide (xs.length=0))) H
theorem op_qeqe(hu:X.A.units<cLine):OpR X (compareOp .Eq) qEqE:=by
 intro pins s σ H x y v u Q I rx ry h
 obtain⟨a,b,xs,rfl,rfl,ha,hb,q⟩:=h
 by_cases hx:xs.length=0
 ·refine op_qeq hu pins s σ H (.ref a) (.ref b) v u Q I rx ry ⟨true,?_,by rw[decide_eq_true hx]at q;exact q⟩
  rw[List.length_eq_zero_iff.mp hx]at ha
  unfold eqO
  rw[if_neg (by intro z;cases z)]
  simp only[ha,hb]
  rfl
 ·cases rx
  cases ry
  obtain⟨us,r1,t1,_⟩:=I.list (SqL.of ha)
  obtain⟨ws,r2,t2,_⟩:=I.list (SqL.of hb)
  have l1:=r1.length
  have l2:=r2.length
  have hl2:(us.toArray.size != ws.toArray.size)=true:=by
   simp only[List.size_toArray,<-l1,<-l2,List.length_nil]
   simpa using hx
  rw[decide_eq_false hx]at q
  exact SeqAt.RcAt.lists_lengths (A:=X.A) t1.isList t2.isList hl2 hu _ _ _ _ ⟨.bl false,H,I,rfl,q⟩
def qNeX(K:Fg):R2:=fun x y H Q=>qNe x y H Q\/qNeT K x y H Q\/qNeD x y H Q
theorem op_qnex{k:Nat}(hr:Room k X.A):OpR X (compareOp .NotEq) (qNeX X.K):=(op_qne hr.units0).or ((op_qnet hr).or (op_qned hr.units0))
end
end L2
namespace Y
open PySem PySem.Spec PyProof.Rows L2
structure E(X:Cx)(e:Expr)(t:TE):Prop where h:PE X e t
structure A(X:Cx)(e:List Expr)(t:TA):Prop where h:PA X e t
structure S(X:Cx)(e:Stmt)(t:TS):Prop where h:PS X e t
structure Ss(X:Cx)(e:List Stmt)(t:TS):Prop where h:PSs X e t
structure T(X:Cx)(e:Expr)(t:TT):Prop where h:PT X e t
structure W(X:Cx)(e:Expr)(t:TT):Prop where h:PW X e t
structure Ts(X:Cx)(e:List Expr)(t:TT):Prop where h:PTs X e t
structure It(X:Cx)(tg e:Expr)(t:TI):Prop where h:PI X tg e t
structure G(X:Cx)(e:Expr)(t:TG):Prop where h:PG X e t
structure Gs(X:Cx)(e:List Expr)(t:TGs):Prop where h:PGs X e t
structure O(X:Cx)(e:Option Expr)(t:TO):Prop where h:PO X e t
structure Rop(X:Cx)(f:Value->Value->Sem Value)(r:R2):Prop where h:OpR X f r
structure Run(X:Cx)(f:Value->Sem Value)(r:V->Hp->VK->Prop):Prop where h:UnR X f r
structure Rcall(X:Cx)(f:Value)(r:List V->Hp->VK->Prop):Prop where h:CallR X f r
structure Rmt(X:Cx)(id:String)(r:V->List V->Hp->VK->Prop):Prop where h:MtR X id r
structure Rix(X:Cx)(r:R2):Prop where h:IxR X r
structure Rsl(X:Cx)(r:V->Option Int->Option Int->Hp->VK->Prop):Prop where h:SlR X r
structure Rset(X:Cx)(t:TSet):Prop where h:PSet X t
structure Rget(X:Cx)(t:V->V->Hp->VK->Prop):Prop where h:PGet X t
structure Rip(X:Cx)(op:Operator)(t:TIp):Prop where h:PIp X op t
section
variable {X:Cx}{st:Stmt}{rest:List Stmt}{t u:TS}{e a b c o i:Expr}{es more:List Expr}{te ta tb tc to ti:TE}{tt tu:TT}{tr:TA}{pos p pos':Pos}{x:Str}
theorem pss_nil:Ss X [] tNext:=⟨L2.pss_nil⟩
theorem pss_cons(h1:S X st t)(h2:Ss X rest u):Ss X (st::rest) (tSeq t u):=⟨L2.pss_cons h1.h h2.h⟩
theorem pss_one(h1:S X st t):Ss X [st] t:=⟨L2.pss_one h1.h⟩
theorem ps_set{n:Nat}(hN:X.N.Nodup)(hi:X.N[n]? = some x)(hx:Loc X.env.scope x)(he:E X e te)(hs:swapsWith e (some (.Name x pos')) pos.line X.env=pure false:=by rfl)(hf:X.fn x=true\/X.env.scope.names.lookup x=some .local:=by first | exact .inl rfl | exact .inr rfl) :
  S X (.Assign [.Name x pos'] e pos) (tAsg te (gName n)):=⟨L2.ps_set hN hi hx he.h hs hf⟩
theorem ps_asg{tg:Expr}{g:TG}(he:E X e te)(hg:G X tg g)(hs:swapsWithSole [tg] e pos.line X.env=pure false:=by rfl)(hw:swappedStores [tg] e X.env=pure none:=by rfl)
  (h1:(assignEach [tg] X.env).map (·.2)=[assign tg X.env]:=by rfl):S X (.Assign [tg] e pos) (tAsg te g):=⟨L2.ps_asg he.h hg.h hs hw h1⟩
theorem ps_augS{tget:V->V->Hp->VK->Prop}{tip:TIp}{tset:TSet}{op:Operator}(ho:E X o to)(hi:E X i ti)(hg:Rget X tget)(he:E X e te)(hp:Rip X op tip)(hs:Rset X tset)
  (ha:∀ov iv new,augStore i ov iv new=(do holding [new,ov,iv] (setItem ov iv new);release [new,ov,iv] [];pure .next):=by intros;rfl):S X (.AugAssign (.Subscript o i p) op e pos) (tAugS to ti te tget tip tset):=⟨L2.ps_augS ho.h hi.h hg.h he.h hp.h hs.h ha⟩
theorem ps_if{la lb:List Stmt}(hc:T X c tt)(ha:Ss X la t)(hb:Ss X lb u):S X (.If c la lb pos) (tIfS tt t u):=⟨L2.ps_if hc.h ha.h hb.h⟩
theorem ps_ret(he:E X e te):S X (.Return (some e) pos) (tRet te):=⟨L2.ps_ret he.h⟩
theorem ps_expr(he:E X e te)(hs:swapsWith e none pos.line X.env=pure false:=by rfl):S X (.Expr e pos) (tDrop te):=⟨L2.ps_expr he.h hs⟩
theorem ps_for{tg:Expr}{wi:TI}{g:TG}{body:List Stmt}(hp:PassesOwn (model X.prog X.w) X.A X.env X.xe)(hc:X.calm=true)(hi:It X tg e wi)(hg:G X tg g)(hb:Ss X body t)
  (hs:∀x,foldedSetIterable e X.env x=pure x:=by intro _;rfl):S X (.For tg e body [] pos) (tFor wi g t):=⟨L2.ps_for hp hc hi.h hg.h hb.h hs⟩
theorem pg_name{n:Nat}(hN:X.N.Nodup)(hi:X.N[n]? = some x)(hx:Loc X.env.scope x)(hf:X.fn x=true\/X.env.scope.names.lookup x=some .local:=by first | exact .inl rfl | exact .inr rfl):G X (.Name x pos) (gName n):=⟨L2.pg_name hN hi hx hf⟩
theorem pgs_nil:Gs X [] gNil:=⟨L2.pgs_nil⟩
theorem pgs_cons{g:TG}{gs:TGs}(h1:G X e g)(h2:Gs X es gs)(h:(assignEach (e::es) X.env).map (·.2)=assign e X.env::(assignEach es X.env).map (·.2):=by rfl):Gs X (e::es) (gCons g gs):=⟨L2.pgs_cons h1.h h2.h h⟩
theorem pg_tup{k n:Nat}{gs:TGs}(hc:X.calm=true)(h:Gs X es gs)(hn:(assignEach es X.env).length=n:=by rfl)(hst:(assignEach es X.env).findIdx? (·.1)=none:=by rfl):G X (.Tuple es k pos) (gTup X.K n gs):=⟨L2.pg_tup hc h.h hn hst⟩
theorem pg_sub{ts:TSet}(ho:E X o to)(hi:E X i ti)(hs:Rset X ts)
  (ha:∀v,assign (.Subscript o i pos) X.env v=(do
   let ov <-holding [v] (eval o X.env)
   let iv <-holding [v,ov] (eval i X.env)
   standAt pos
   holding [v,ov,iv] (setItem ov iv v)
   release [v,ov,iv] []):=by intro _;rfl):G X (.Subscript o i pos) (gSub to ti ts):=⟨L2.pg_sub ho.h hi.h hs.h ha⟩
theorem pi_range1{tg:Expr}(hg:Gl X "range")(hm:X.mg "range" = none)(ha:A X [a] tr)(hs:starEach [a] X.env=[(false,eval a X.env)]:=by rfl):It X tg (.Call (.Name "range" p) [a] [] pos) (iRng1 tr):=⟨L2.pi_range1 hg hm ha.h hs⟩
theorem pi_range2{tg:Expr}(hg:Gl X "range")(hm:X.mg "range" = none)(ha:A X [a,b] tr)(hs:starEach [a,b] X.env=[(false,eval a X.env),(false,eval b X.env)]:=by rfl)(hs2:starEach [b] X.env=[(false,eval b X.env)]:=by rfl):It X tg (.Call (.Name "range" p) [a,b] [] pos) (iRng2 tr):=⟨L2.pi_range2 hg hm ha.h hs hs2⟩
theorem pi_list{tg:Expr}(h:E X e te):It X tg e (iList X.K te):=⟨L2.pi_list h.h⟩
theorem pa_nil:A X [] tNil:=⟨L2.pa_nil⟩
theorem pa_cons(ha:E X e te)(hr:A X es tr)(hs:starEach (e::es) X.env=(false,eval e X.env)::starEach es X.env:=by rfl):A X (e::es) (tCons te tr):=⟨L2.pa_cons ha.h hr.h hs⟩
theorem pts_nil:Ts X [] tTrue:=⟨L2.pts_nil⟩
theorem pts_one(h:T X e tt):Ts X [e] tt:=⟨L2.pts_one h.h⟩
theorem pe_comp{elt iter:Expr}{px:Pos}{ifs:List Expr}{scope:Scope}{wi:TI}(hc:CompOk X.N X.env.scope scope x)(hcalm:X.calm=true)(hi:It X (.Name x px) iter wi)
  (ht:∀cl C fp s3 H3,Ts (cxComp X scope cl C x fp s3 H3) ifs tt) (he:∀cl C fp s3 H3,E (cxComp X scope cl C x fp s3 H3) elt te)
  (hs:∀x,foldedSetIterable iter X.env x=pure x:=by intro _;rfl):E X (.ListComp elt [⟨.Name x px,iter,ifs,0⟩] scope pos) (tComp wi tt te):=
 ⟨L2.pe_comp hc hcalm hi.h (fun cl C fp s3 H3=>(ht cl C fp s3 H3).h) (fun cl C fp s3 H3=>(he cl C fp s3 H3).h) hs⟩
theorem ps_setcomp{elt iter:Expr}{px py spos:Pos}{ifs:List Expr}{scope:Scope}{wi:TI}{n:Nat}{y:Str}(hN:X.N.Nodup)(hiy:X.N[n]? = some y)(hy:X.env.scope.names.lookup y=some .local)(hc:CompOk X.N X.env.scope scope x)(hcalm:X.calm=true)(hi:It X (.Name x px) iter wi)
  (ht:∀cl C fp s3 H3,Ts (cxComp X scope cl C x fp s3 H3) ifs tt) (he:∀cl C fp s3 H3,E (cxComp X scope cl C x fp s3 H3) elt te)
  (hsw:swapsWith (.ListComp elt [⟨.Name x px,iter,ifs,0⟩] scope pos) (some (.Name y py)) spos.line X.env=pure true:=by rfl)
  (hs:∀x,foldedSetIterable iter X.env x=pure x:=by intro _;rfl) :
  S X (.Assign [.Name y py] (.ListComp elt [⟨.Name x px,iter,ifs,0⟩] scope pos) spos) (fun D σ H=>tComp wi tt te σ H fun v H1=>D.nx (σ.set n (some v)) H1):=
 ⟨L2.ps_setcomp hN hiy hy hc hcalm hi.h (fun cl C fp s3 H3=>(ht cl C fp s3 H3).h) (fun cl C fp s3 H3=>(he cl C fp s3 H3).h) hsw hs⟩
theorem pe_int{n:Int}{j}:E X (.Constant (.int n) j pos) (tC (.int n)):=⟨L2.pe_int⟩
theorem pe_bl{v:Bool}{j}:E X (.Constant (.bool v) j pos) (tC (.bl v)):=⟨L2.pe_bl⟩
theorem pe_non{j}:E X (.Constant .none j pos) (tC .non):=⟨L2.pe_non⟩
theorem pe_str{j}:E X (.Constant (.str x) j pos) (tC (.str x)):=⟨L2.pe_str⟩
theorem pv(n:Nat)(hN:X.N[n]? = some x:=by rfl)(hv:Vis X.env.scope x:=by first | exact Or.inl rfl | exact Or.inr (Or.inl rfl) | exact Or.inr (Or.inr rfl))(hd:(x == ("__debug__" : Str))=false:=by decide)
  (hcd:(x == ("__classdict__" : Str))=false:=by decide):E X (.Name x pos) (tVar n):=⟨L2.pe_var hN hv hd hcd⟩
theorem pe_bltn{v:V}{u:Value}(hg:Gl X x)(hm:X.mg x=none)(hv:bootBuiltins x=some u)(r:RelV v u)(hn:x ≠ "__name__" := by decide)(hd:(x == ("__debug__" : Str))=false:=by decide):E X (.Name x pos) (tC v):=⟨L2.pe_bltn hg hm hv r hn hd⟩
theorem pe_globT{v:V}(hm:∃u,X.mg x=some u/\RelV v u)(hg:Gl X x)(hd:(x == ("__debug__" : Str))=false:=by decide):E X (.Name x pos) (tC v):=by
 obtain⟨u,h1,h2⟩:=hm
 exact⟨L2.pe_glob hg h1 h2 hd⟩
theorem pe_op{op:Operator}{r:R2}(ho:Rop X (binaryOp op) r)(ha:E X a ta)(hb:E X b tb):E X (.BinOp a op b pos) (tOp r ta tb):=⟨L2.pe_op ho.h ha.h hb.h⟩
theorem pe_un{op:UnaryOp}{r:V->Hp->VK->Prop}(ho:Run X (unaryOp op) r)(ha:E X a ta):E X (.UnaryOp op a pos) (tUn r ta):=⟨L2.pe_un ho.h ha.h⟩
theorem pe_not(ha:E X a ta):E X (.UnaryOp .Not a pos) (tNotV ta):=⟨L2.pe_not ha.h⟩
theorem pe_cmpR{op:CmpOp}{r:R2}(ho:Rop X (compareOp op) r)(ha:E X a ta)(hb:E X b tb)(hm:behindInMarks op b=false):E X (.Compare a [op] [b] pos) (tOp r ta tb):=⟨L2.pe_cmpR ho.h ha.h hb.h hm⟩
theorem pt_cmpR{op:CmpOp}{r:R2}(ho:Rop X (compareOp op) r)(ha:E X a ta)(hb:E X b tb)(hm:behindInMarks op b=false):T X (.Compare a [op] [b] pos) (tTest (tOp r ta tb)):=⟨L2.pt_cmpR ho.h ha.h hb.h hm⟩
theorem pe_chain{op op':CmpOp}{r r':R2}(ho:Rop X (compareOp op) r)(ho':Rop X (compareOp op') r')(ha:E X a ta)(hb:E X b tb)(hc:E X c tc)
  (hm:lastMarks [op,op'] [b,c]=false:=by with_unfolding_all rfl):E X (.Compare a [op,op'] [b,c] pos) (tChain r r' ta tb tc):=⟨L2.pe_chain ho.h ho'.h ha.h hb.h hc.h hm⟩
theorem pt_chain{op op':CmpOp}{r r':R2}(ho:Rop X (compareOp op) r)(ho':Rop X (compareOp op') r')(ha:E X a ta)(hb:E X b tb)(hc:E X c tc)
  (hm:lastMarks [op,op'] [b,c]=false:=by with_unfolding_all rfl):T X (.Compare a [op,op'] [b,c] pos) (tTest (tChain r r' ta tb tc)):=⟨L2.pt_chain ho.h ho'.h ha.h hb.h hc.h hm⟩
theorem pe_one{op}(h:E X a te):E X (.BoolOp op [a] pos) te:=⟨L2.pe_one h.h⟩
theorem pe_and(ha:E X a ta)(hb:E X (.BoolOp .And (b::more) pos) tb):E X (.BoolOp .And (a::b::more) pos) (tAndV ta tb):=⟨L2.pe_and ha.h hb.h⟩
theorem pe_or(ha:E X a ta)(hb:E X (.BoolOp .Or (b::more) pos) tb):E X (.BoolOp .Or (a::b::more) pos) (tOrV ta tb):=⟨L2.pe_or ha.h hb.h⟩
theorem pe_ifExp(hc:T X c tt)(ha:E X a ta)(hb:E X b tb):E X (.IfExp c a b pos) (tIf tt ta tb):=⟨L2.pe_ifExp hc.h ha.h hb.h⟩
theorem pe_tup{k}(h:A X es tr):E X (.Tuple es k pos) (tTup tr):=⟨L2.pe_tup h.h⟩
theorem pe_lst(h:A X es tr):E X (.List es pos) (tLst tr):=⟨L2.pe_lst h.h⟩
theorem po_none:O X none tNoPart:=⟨L2.po_none⟩
theorem po_some(h:E X e te):O X (some e) (tPart te):=⟨L2.po_some h.h⟩
theorem pe_slice{lo hi:Option Expr}{tl th:TO}{r:V->Option Int->Option Int->Hp->VK->Prop}(hr:Rsl X r)(he:E X e te)(hl:O X lo tl)(hu:O X hi th):E X (.Subscript e (.Slice lo hi none p) pos) (tSl r te tl th):=⟨L2.pe_slice hr.h he.h hl.h hu.h⟩
theorem pe_ix{r:R2}(hr:Rix X r)(ha:E X a ta)(hb:E X b tb)(hs:PlainIx b):E X (.Subscript a b pos) (tOp r ta tb):=⟨L2.pe_ix hr.h ha.h hb.h hs⟩
theorem pe_own{k j:Nat}{ps:List Str}{sp:Sp}(C:Callee X.prog X.w X.K X.mg X.base k x ps sp)(hr:Room j X.A)(hk:k<=j)(hg:Gl X x)(ha:A X (e::es) tr)
  (hdb:(x == ("__debug__" : Str))=false:=by decide) (he:starEach (e::es) X.env=(false,eval e X.env)::starEach es X.env:=by rfl) (hpl:(backTo pos (starEach es X.env)).any (·.1)=false:=by rfl) :
  E X (.Call (.Name x p) (e::es) [] pos) (tCall sp [] E0 tr):=⟨L2.pe_own C hr hk hg ha.h hdb he hpl⟩
theorem pe_callB{id:String}{r:List V->Hp->VK->Prop}(hc:Rcall X (.builtin id) r)(hg:Gl X x)(hm:X.mg x=none)(hv:bootBuiltins x=some (.builtin id))(ha:A X (e::es) tr)(hn:x ≠ "__name__" := by decide)(hdb:(x == ("__debug__" : Str))=false:=by decide)
  (he:starEach (e::es) X.env=(false,eval e X.env)::starEach es X.env:=by rfl) (hpl:(backTo pos (starEach es X.env)).any (·.1)=false:=by rfl):E X (.Call (.Name x p) (e::es) [] pos) (tCB r tr):=⟨L2.pe_callB hc.h hg hm hv ha.h hn hdb he hpl⟩
theorem pe_callTy{id:String}{r:List V->Hp->VK->Prop}(hc:Rcall X (.type id) r)(hg:Gl X x)(hm:X.mg x=none)(hv:bootBuiltins x=some (.type id))(ha:A X (e::es) tr)(hn:x ≠ "__name__" := by decide)(hdb:(x == ("__debug__" : Str))=false:=by decide)
  (he:starEach (e::es) X.env=(false,eval e X.env)::starEach es X.env:=by rfl) (hpl:(backTo pos (starEach es X.env)).any (·.1)=false:=by rfl):E X (.Call (.Name x p) (e::es) [] pos) (tCB r tr):=⟨L2.pe_callTy hc.h hg hm hv ha.h hn hdb he hpl⟩
theorem pe_bm{ty id:String}{name:Str}{r:V->List V->Hp->VK->Prop}{apos:Pos}(pa:PlainAttrs ty)(slot:Slot ty name id)(hty:typeOf (.builtin id)=pure (.type "method_descriptor"))(hm:Rmt X id r)(ho:E X o to)(ha:A X (e::es) tr)
  (hbase:attributeBase o name X.env (eval o X.env)=eval o X.env:=by rfl)
  (hfew:((backTo pos (starEach (e::es) X.env)).all (fun x => !x.1)&&(backToKw pos (keywordEach [] X.env)).all (fun x=>x.1.isSome)
   && decide ((e::es).length+([]:List Keyword).length+(if([]:List Keyword).isEmpty then 0 else 1)<30))=true:=by rfl)
  (hline:(apos.endLine == pos.line)=true:=by rfl) (hs:starEach (e::es) X.env=(false,eval e X.env)::starEach es X.env:=by rfl) (hplain:(backTo pos (starEach es X.env)).any (·.1)=false:=by rfl) :
  E X (.Call (.Attribute o name apos) (e::es) [] pos) (tBM X.K ty r to tr):=⟨L2.pe_bm pa slot hty hm.h ho.h ha.h hbase hfew hline hs hplain⟩
theorem pt_not(ha:T X a tt):T X (.UnaryOp .Not a pos) (tNot tt):=⟨L2.pt_not ha.h⟩
theorem pw_and1(ha:T X a tt):W X (.BoolOp .And [a] pos) tt:=⟨L2.pw_and1 ha.h⟩
theorem pw_or1(ha:T X a tt):W X (.BoolOp .Or [a] pos) tt:=⟨L2.pw_or1 ha.h⟩
theorem pw_and(ha:T X a tt)(hb:W X (.BoolOp .And (b::more) pos) tu):W X (.BoolOp .And (a::b::more) pos) (tAnd tt tu):=⟨L2.pw_and ha.h hb.h⟩
theorem pw_or(ha:T X a tt)(hb:W X (.BoolOp .Or (b::more) pos) tu):W X (.BoolOp .Or (a::b::more) pos) (tOr tt tu):=⟨L2.pw_or ha.h hb.h⟩
theorem pw_pt(h:W X e tt):T X e tt:=⟨PW.pt h.h⟩
theorem pt_val(h:E X e te)(he:∀whole,isTrue e X.env whole=(do let v <-whole;standAt e.pos;holding [v] (truthy v)):=by intro _;rfl):T X e (tB te):=⟨L2.pt_val h.h he⟩
theorem op_qadd:Rop X (binaryOp .Add) qAdd:=⟨L2.op_qadd⟩
theorem op_qsub:Rop X (binaryOp .Sub) qSub:=⟨L2.op_qsub⟩
theorem op_qmul:Rop X (binaryOp .Mult) qMul:=⟨L2.op_qmul⟩
theorem op_qmod:Rop X (binaryOp .Mod) qMod:=⟨L2.op_qmod⟩
theorem op_qdiv:Rop X (binaryOp .FloorDiv) qDiv:=⟨L2.op_qdiv⟩
theorem op_qpow:Rop X (binaryOp .Pow) qPow:=⟨L2.op_qpow⟩
theorem op_qeq{k:Nat}(hr:Room k X.A):Rop X (compareOp .Eq) qEq:=⟨L2.op_qeq hr.units0⟩
theorem op_qne{k:Nat}(hr:Room k X.A):Rop X (compareOp .NotEq) qNe:=⟨L2.op_qne hr.units0⟩
theorem call_qlist:Rcall X (.type "list") qList:=⟨L2.call_qlist⟩
theorem op_qlt:Rop X (compareOp .Lt) qLt:=⟨L2.op_qlt⟩
theorem op_qle:Rop X (compareOp .LtE) qLe:=⟨L2.op_qle⟩
theorem op_qgt:Rop X (compareOp .Gt) qGt:=⟨L2.op_qgt⟩
theorem op_qge:Rop X (compareOp .GtE) qGe:=⟨L2.op_qge⟩
theorem op_qin:Rop X (compareOp .In) (qIn false):=⟨L2.op_qin⟩
theorem op_qnotin:Rop X (compareOp .NotIn) (qIn true):=⟨L2.op_qnotin⟩
theorem op_qis:Rop X (compareOp .Is) qIs:=⟨L2.op_qis⟩
theorem op_qisnot:Rop X (compareOp .IsNot) qIsNot:=⟨L2.op_qisnot⟩
theorem pe_dnewK:E X (.Dict [] [] pos) tDNewK:=⟨L2.pe_dnewK⟩
theorem pe_dget{k:Nat}(hr:Room k X.A)(ho:E X o to)(hi:E X i ti)(hs:NoSl i):E X (.Subscript o i pos) (tDGet to ti):=⟨L2.pe_dget (hu_of hr) ho.h hi.h hs⟩
theorem pe_din{k:Nat}(hr:Room k X.A)(hi:E X i ti)(ho:E X o to)(h1:behindInMarks .In o=false):E X (.Compare i [.In] [o] pos) (tDIn ti to):=⟨L2.pe_cmp (L2.pc_din (hu_of hr) hi.h ho.h) h1⟩
theorem pt_din{k:Nat}(hr:Room k X.A)(hi:E X i ti)(ho:E X o to)(h1:behindInMarks .In o=false):T X (.Compare i [.In] [o] pos) (tB (tDIn ti to)):=⟨L2.pt_cmp (L2.pc_din (hu_of hr) hi.h ho.h) h1⟩
theorem ps_dput{k:Nat}(hr:Room k X.A)(ho:E X o to)(hi:E X i ti)(hv:E X e te)(hs:swapsWith e (some (.Subscript o i pos')) pos.line X.env=pure false:=by rfl):S X (.Assign [.Subscript o i pos'] e pos) (sDPut to ti te):=⟨L2.ps_dput (hu_of hr) ho.h hi.h hv.h hs⟩
theorem pi_str{tg:Expr}(h:E X e te):It X tg e (iStr te):=⟨L2.pi_str h.h⟩
theorem call_qall(hc:X.calm=true):Rcall X (.builtin "all") qAll:=⟨L2.call_qall hc⟩
theorem un_neg:Run X (unaryOp .USub) (rU fun i=>.int (-i)):=⟨L2.un_neg⟩
theorem ix_q:Rix X qIx:=⟨L2.ix_q⟩
theorem sl_q:Rsl X qSl:=⟨L2.sl_q⟩
theorem sl_list:Rsl X (rSlL X.K):=⟨L2.sl_list⟩
theorem set_q:Rset X qSet:=⟨L2.set_q⟩
theorem get_q:Rget X qGet:=⟨L2.get_q⟩
theorem ip_add:Rip X .Add (ipI fun i j=>i+j):=⟨L2.ip_add⟩
theorem call_qlen:Rcall X (.builtin "len") qLen:=⟨L2.call_qlen⟩
theorem call_qabs:Rcall X (.builtin "abs") qAbs:=⟨L2.call_qabs⟩
theorem call_qisi:Rcall X (.builtin "isinstance") qIsi:=⟨L2.call_qisi⟩
theorem mt_qappend:Rmt X "list.append" qAppend:=⟨L2.mt_qappend⟩
theorem mt_qjoin:Rmt X "str.join" qJoin:=⟨L2.mt_qjoin⟩
end
theorem fun_ok{P:Program}{w:World}{K:Fg}{mg:Str->Option Value}{base:Heap}{x qual:Str}{st:Stmt}{f:Addr}{fd:FuncData}{N ps:List Str}{k:Nat}{sp:Sp}(F:Fun K x qual st f fd)(S:FnScope N ps (defScope st))(len:∀vs H Q E,sp vs H Q E->vs.length=ps.length)
  (hbody:∀(cdv:Value) (A:Around) (outer:List Env) (s:Shared) (H:Hp) (vs:List V) (Q:VK) (E:XK),Room k (A.deeper (envOfC qual (defScope st) s.heap.objs.size f cdv))->sp vs H Q E ->
   ∃t,Ss (cxOf CX0 P w K mg base N qual (defScope st) f cdv A outer s H E).nox (defBody st) t/\t { nx:=fun _ H'=>Q .non H',rt:=Q } (start N vs) H):FnOk P w K mg base CX0 (k+1) f fd ps sp:=
 F.ok S len fun cdv A outer s H vs Q E hr h=>let⟨t,a,b⟩:=hbody cdv A outer s H vs Q E hr h; ⟨t,a.h,b⟩
end Y
namespace Y
open PySem PySem.Spec PyProof.Rows L2
section
variable {X:Cx}{st:Stmt}{rest:List Stmt}{t u:TS}{e a b c o i:Expr}{es more:List Expr}{te ta tb tc to ti:TE}{tt tu:TT}{tr:TA}{pos p pos':Pos}{x y:Str}
theorem pi_enum{elts:List Expr}{x1}{tp:Pos}(hg:Gl X "enumerate")(hm:X.mg "enumerate" = none)(ha:A X [a] tr)(hs:starEach [a] X.env=[(false,eval a X.env)]:=by rfl) :
  It X (.Tuple elts x1 tp) (.Call (.Name "enumerate" p) [a] [] pos) (iEnum X.K tr):=⟨L2.pi_enum hg hm ha.h hs⟩
theorem pi_zip{elts:List Expr}{x1}{tp:Pos}(hg:Gl X "zip")(hm:X.mg "zip" = none)(ha:A X [a,b] tr)(hs:starEach [a,b] X.env=[(false,eval a X.env),(false,eval b X.env)]:=by rfl)(hs2:starEach [b] X.env=[(false,eval b X.env)]:=by rfl) :
  It X (.Tuple elts x1 tp) (.Call (.Name "zip" p) [a,b] [] pos) (iZip X.K tr):=⟨L2.pi_zip hg hm ha.h hs hs2⟩
theorem pe_compP{elt iter:Expr}{px py pt:Pos}{kt}{ifs:List Expr}{scope:Scope}{wi:TI}(hc:CompOkP X.N X.env.scope scope x y)(hcalm:X.calm=true)(hi:It X (.Tuple [.Name x px,.Name y py] kt pt) iter wi)
  (ht:∀cl C fp s3 H3,Ts (cxCompP X scope cl C x y fp s3 H3) ifs tt) (he:∀cl C fp s3 H3,E (cxCompP X scope cl C x y fp s3 H3) elt te)
  (hs:∀x,foldedSetIterable iter X.env x=pure x:=by intro _;rfl):E X (.ListComp elt [⟨.Tuple [.Name x px,.Name y py] kt pt,iter,ifs,0⟩] scope pos) (tCompP X.K wi tt te):=
 ⟨L2.pe_compP hc hcalm hi.h (fun cl C fp s3 H3=>(ht cl C fp s3 H3).h) (fun cl C fp s3 H3=>(he cl C fp s3 H3).h) hs⟩
theorem ps_while{body:List Stmt}(hp:PassesOwn (model X.prog X.w) X.A X.env X.xe)(hc:T X c tt)(hb:Ss X body t):S X (.While c body [] pos) (tWhile tt t):=⟨L2.ps_while hp hc.h hb.h⟩
theorem ps_raise{e c:Option Expr}:S X (.Raise e c pos) (fun _ _ _=>False):=⟨L2.ps_raise⟩
theorem pe_fld{f:Str}(he:E X e te)(hb:attributeBase e f X.env (eval e X.env)=eval e X.env:=by rfl):E X (.Attribute e f pos) (tFld X.K te f):=⟨L2.pe_fld he.h hb⟩
theorem ps_fld{f:Str}(ha:E X o to)(hv:E X e te)(hs:swapsWith e (some (.Attribute o f pos')) pos.line X.env=pure false:=by rfl):S X (.Assign [.Attribute o f pos'] e pos) (sFld X.K to te f):=⟨L2.ps_fld ha.h hv.h hs⟩
theorem pe_mk{k j:Nat}{C:Addr}{ps:List Str}{sp:Sp}(M:Maker X.prog X.w X.K X.mg X.base k x C ps sp)(hr:Room j X.A)(hk:k+1<=j)(hg:Gl X x)(ha:A X (e::es) tr)
  (hdb:(x == ("__debug__" : Str))=false:=by decide) (he:starEach (e::es) X.env=(false,eval e X.env)::starEach es X.env:=by rfl) (hpl:(backTo pos (starEach es X.env)).any (·.1)=false:=by rfl) :
  E X (.Call (.Name x p) (e::es) [] pos) (tMake C sp [] E0 tr):=⟨L2.pe_mk M hr hk hg ha.h hdb he hpl⟩
theorem pe_mth{pl:Sem Bool}{k j:Nat}{m:Str}{C:Addr}{ps:List Str}{sp:Sp}{apos:Pos}(M:MCallee X.prog X.w X.K X.mg X.base k m C ps sp)(hr:Room j X.A)(hk:k<=j)(ho:E X o to)(ha:A X (e::es) tr)
  (hst:starEach (e::es) X.env=(false,eval e X.env)::starEach es X.env:=by rfl) (hpl:(backTo pos (starEach es X.env)).any (·.1)=false:=by rfl)
  (ht:eval (.Call (.Attribute o m apos) (e::es) [] pos) X.env=(do
   let ov <-eval o X.env
   standAt apos.atName
   let(f,first) <-holding [ov] (getMethod ov m pl)
   callWith pos f first (backTo pos (starEach (e::es) X.env)) (backToKw pos (keywordEach [] X.env))):=by rfl) :
  E X (.Call (.Attribute o m apos) (e::es) [] pos) (tMeth C m sp [] E0 to tr):=⟨L2.pe_mth (pl:=pl) M hr hk ho.h ha.h hst hpl ht⟩
theorem pe_bm0{ty id:String}{name:Str}{r:V->List V->Hp->VK->Prop}{apos:Pos}(pa:PlainAttrs ty)(slot:Slot ty name id)(hty:typeOf (.builtin id)=pure (.type "method_descriptor"))(hm:Rmt X id r)(ho:E X o to)
  (hbase:attributeBase o name X.env (eval o X.env)=eval o X.env:=by rfl) (hline:(apos.endLine == pos.line)=true:=by rfl):E X (.Call (.Attribute o name apos) [] [] pos) (tBM0 X.K ty r to):=⟨L2.pe_bm0 pa slot hty hm.h ho.h hbase hline⟩
structure Ps(X:Cx)(pos:Pos)(ks:List (Option Expr))(vs:List Expr)(trs:List (TE×TE)):Prop where h:PPs X pos ks vs trs
theorem pps_nil:Ps X pos [] [] []:=⟨L2.pps_nil⟩
theorem pps_cons{ks:List (Option Expr)}{vs:List Expr}{trs:List (TE×TE)}(hk:E X a ta)(hv:E X b tb)(hr:Ps X pos ks vs trs):Ps X pos (some a::ks) (b::vs) ((ta,tb)::trs):=⟨L2.pps_cons hk.h hv.h hr.h⟩
theorem pe_disp{keys:List (Option Expr)}{values:List Expr}{trs:List (TE×TE)}(h:Ps X pos keys values trs)(hall:keys.all (·.isSome)=true:=by rfl)(hl:keys.length=values.length:=by rfl)(h0:keys≠[]:=by intro z;cases z)
  (h15:keys.length<=15:=by decide):E X (.Dict keys values pos) (tDisp trs):=⟨L2.pe_disp h.h hall hl h0 h15⟩
theorem pt_dnotin{k:Nat}(hr:Room k X.A)(hi:E X i ti)(ho:E X o to)(h1:behindInMarks .NotIn o=false):T X (.Compare i [.NotIn] [o] pos) (tB (tDNotIn ti to)):=⟨L2.pt_cmp (L2.pc_dnotin (hu_of hr) hi.h ho.h) h1⟩
theorem call_qmin(hc:X.calm=true):Rcall X (.builtin "min") qMin:=⟨L2.call_qmin hc⟩
theorem call_qany(hc:X.calm=true):Rcall X (.builtin "any") qAny:=⟨L2.call_qany hc⟩
theorem call_qsorted:Rcall X (.builtin "sorted") qSorted:=⟨L2.call_qsorted⟩
theorem call_qlistd(hc:X.calm=true):Rcall X (.type "list") qListD:=⟨L2.call_qlistd hc⟩
theorem mt_qindex:Rmt X "list.index" qIndex:=⟨L2.mt_qindex⟩
theorem mt_qextend:Rmt X "list.extend" qExtend:=⟨L2.mt_qextend⟩
theorem mt_qpop:Rmt X "list.pop" qPop:=⟨L2.mt_qpop⟩
theorem mt_qclear:Rmt X "list.clear" qClear:=⟨L2.mt_qclear⟩
theorem op_qeqt{k:Nat}(hr:Room k X.A):Rop X (compareOp .Eq) (qEqT X.K):=⟨L2.op_qeqt hr⟩
theorem op_qnet{k:Nat}(hr:Room k X.A):Rop X (compareOp .NotEq) (qNeT X.K):=⟨L2.op_qnet hr⟩
theorem op_qeqk{k:Nat}(hr:Room k X.A):Rop X (compareOp .Eq) (qEqK X.K):=⟨L2.op_qeqk hr⟩
theorem op_qnek{k:Nat}(hr:Room k X.A):Rop X (compareOp .NotEq) (qNeK X.K):=⟨L2.op_qnek hr⟩
theorem op_qink:Rop X (compareOp .In) (qInK X.K):=⟨L2.op_qink⟩
end
end Y
namespace Y
open PySem PySem.Spec PyProof.Rows L2
end Y
namespace Y
open PySem PySem.Spec PyProof.Rows L2
end Y
namespace Y
open PySem PySem.Spec PyProof.Rows L2
end Y
namespace Y
open PySem PySem.Spec PyProof.Rows L2
theorem op_qnex{X:Cx}{k:Nat}(hr:Room k X.A):Rop X (compareOp .NotEq) (qNeX X.K):=⟨L2.op_qnex hr⟩
theorem op_qeqe{X:Cx}{k:Nat}(hr:Room k X.A):Rop X (compareOp .Eq) qEqE:=⟨L2.op_qeqe hr.units0⟩
theorem op_catT{X:Cx}:Rop X (binaryOp .Add) (rCatT X.K):=⟨L2.op_catT⟩
theorem call_qtuple{X:Cx}:Rcall X (.type "tuple") qTuple:=⟨L2.call_qtuple⟩
theorem call_qstri{X:Cx}:Rcall X (.type "str") qStrI:=⟨L2.call_qstri⟩
end Y
namespace Y
open PySem PySem.Spec PyProof.Rows L2
section
variable {X:Cx}{e0 e1 e2 e3 e4:Expr}{t0 t1 t2 t3 t4:TE}
theorem pa1(h0:E X e0 t0)(s0:starEach [e0] X.env=(false,eval e0 X.env)::starEach [] X.env:=by rfl):A X [e0] (tCons t0 tNil):=(pa_cons h0 pa_nil s0)
theorem pa2(h0:E X e0 t0)(h1:E X e1 t1)(s0:starEach [e0,e1] X.env=(false,eval e0 X.env)::starEach [e1] X.env:=by rfl)(s1:starEach [e1] X.env=(false,eval e1 X.env)::starEach [] X.env:=by rfl):A X [e0,e1] (tCons t0 (tCons t1 tNil)):=(pa_cons h0 (pa_cons h1 pa_nil s1) s0)
theorem pa3(h0:E X e0 t0)(h1:E X e1 t1)(h2:E X e2 t2)(s0:starEach [e0,e1,e2] X.env=(false,eval e0 X.env)::starEach [e1,e2] X.env:=by rfl)(s1:starEach [e1,e2] X.env=(false,eval e1 X.env)::starEach [e2] X.env:=by rfl)(s2:starEach [e2] X.env=(false,eval e2 X.env)::starEach [] X.env:=by rfl):A X [e0,e1,e2] (tCons t0 (tCons t1 (tCons t2 tNil))):=(pa_cons h0 (pa_cons h1 (pa_cons h2 pa_nil s2) s1) s0)
theorem pa4(h0:E X e0 t0)(h1:E X e1 t1)(h2:E X e2 t2)(h3:E X e3 t3)(s0:starEach [e0,e1,e2,e3] X.env=(false,eval e0 X.env)::starEach [e1,e2,e3] X.env:=by rfl)(s1:starEach [e1,e2,e3] X.env=(false,eval e1 X.env)::starEach [e2,e3] X.env:=by rfl)(s2:starEach [e2,e3] X.env=(false,eval e2 X.env)::starEach [e3] X.env:=by rfl)(s3:starEach [e3] X.env=(false,eval e3 X.env)::starEach [] X.env:=by rfl):A X [e0,e1,e2,e3] (tCons t0 (tCons t1 (tCons t2 (tCons t3 tNil)))):=(pa_cons h0 (pa_cons h1 (pa_cons h2 (pa_cons h3 pa_nil s3) s2) s1) s0)
theorem pa5(h0:E X e0 t0)(h1:E X e1 t1)(h2:E X e2 t2)(h3:E X e3 t3)(h4:E X e4 t4)(s0:starEach [e0,e1,e2,e3,e4] X.env=(false,eval e0 X.env)::starEach [e1,e2,e3,e4] X.env:=by rfl)(s1:starEach [e1,e2,e3,e4] X.env=(false,eval e1 X.env)::starEach [e2,e3,e4] X.env:=by rfl)(s2:starEach [e2,e3,e4] X.env=(false,eval e2 X.env)::starEach [e3,e4] X.env:=by rfl)(s3:starEach [e3,e4] X.env=(false,eval e3 X.env)::starEach [e4] X.env:=by rfl)(s4:starEach [e4] X.env=(false,eval e4 X.env)::starEach [] X.env:=by rfl):A X [e0,e1,e2,e3,e4] (tCons t0 (tCons t1 (tCons t2 (tCons t3 (tCons t4 tNil))))):=(pa_cons h0 (pa_cons h1 (pa_cons h2 (pa_cons h3 (pa_cons h4 pa_nil s4) s3) s2) s1) s0)
end
end Y
local macro_rules | `(tactic| walk_at "sc") => `(tactic| exact ⟨rfl, rfl, rfl, by decide +kernel, rfl, by decide +kernel, by decide +kernel⟩)
namespace Y
open PySem PySem.Spec PyProof.Rows L2
section
variable {X:Cx}{e a b o:Expr}{es:List Expr}{te ta tb to:TE}{tr:TA}{pos p pos':Pos}{x:Str}
theorem ps_s(n:Nat)(hN:X.N.Nodup)(he:E X e te)(hi:X.N[n]? = some x:=by rfl)(hx:Loc X.env.scope x:=by first | exact Or.inl rfl | exact Or.inr rfl)(hs:swapsWith e (some (.Name x pos')) pos.line X.env=pure false:=by rfl)(hf:X.fn x=true\/X.env.scope.names.lookup x=some .local:=by first | exact .inl rfl | exact .inr rfl) :
  S X (.Assign [.Name x pos'] e pos) (tAsg te (gName n)):=ps_set hN hi hx he hs hf
theorem pg_n(n:Nat)(hN:X.N.Nodup)(hi:X.N[n]? = some x:=by rfl)(hx:Loc X.env.scope x:=by first | exact Or.inl rfl | exact Or.inr rfl)(hf:X.fn x=true\/X.env.scope.names.lookup x=some .local:=by first | exact .inl rfl | exact .inr rfl):G X (.Name x pos) (gName n):=pg_name hN hi hx hf
theorem pe_w{k j:Nat}{ps:List Str}{sp:Sp}(C:Callee X.prog X.w X.K X.mg X.base k x ps sp)(hr:Room j X.A)(ha:A X (e::es) tr)(hk:k<=j:=by decide)(hg:Gl X x:=by rfl)
  (hdb:(x == ("__debug__" : Str))=false:=by decide) (he:starEach (e::es) X.env=(false,eval e X.env)::starEach es X.env:=by rfl) (hpl:(backTo pos (starEach es X.env)).any (·.1)=false:=by rfl) :
  E X (.Call (.Name x p) (e::es) [] pos) (tCall sp [] E0 tr):=pe_own C hr hk hg ha hdb he hpl
theorem pe_k{k j:Nat}{C:Addr}{ps:List Str}{sp:Sp}(M:Maker X.prog X.w X.K X.mg X.base k x C ps sp)(hr:Room j X.A)(ha:A X (e::es) tr)(hk:k+1<=j:=by decide)(hg:Gl X x:=by rfl)
  (hdb:(x == ("__debug__" : Str))=false:=by decide) (he:starEach (e::es) X.env=(false,eval e X.env)::starEach es X.env:=by rfl) (hpl:(backTo pos (starEach es X.env)).any (·.1)=false:=by rfl) :
  E X (.Call (.Name x p) (e::es) [] pos) (tMake C sp [] E0 tr):=pe_mk M hr hk hg ha hdb he hpl
theorem pe_x(ha:E X a ta)(hb:E X b tb)(hs:PlainIx b:=by exact fun _ _=>rfl):E X (.Subscript a b pos) (tOp qIx ta tb):=pe_ix ix_q ha hb hs
theorem pe_c{op:CmpOp}{r:R2}(ho:Rop X (compareOp op) r)(ha:E X a ta)(hb:E X b tb)(hm:behindInMarks op b=false:=by exact nomark _):E X (.Compare a [op] [b] pos) (tOp r ta tb):=pe_cmpR ho ha hb hm
theorem pt_c{op:CmpOp}{r:R2}(ho:Rop X (compareOp op) r)(ha:E X a ta)(hb:E X b tb)(hm:behindInMarks op b=false:=by exact nomark _):T X (.Compare a [op] [b] pos) (tTest (tOp r ta tb)):=pt_cmpR ho ha hb hm
end
end Y
namespace RD
open PySem PySem.Spec L2
def Kept(b:Addr)(H H':Hp):Prop:=(∀a o,H a=some o->a≠b->H' a=some o)/\∀o,H b=some o->∃o',H' b=some o'
theorem Kept.refl(b:Addr)(H:Hp):Kept b H H:=⟨fun _ _ h _=>h,fun o h=>⟨o,h⟩⟩
theorem Kept.trans{b:Addr}{H H1 H2:Hp}(x:Kept b H H1)(y:Kept b H1 H2):Kept b H H2:=
 ⟨fun a o h n=>y.1 a o (x.1 a o h n) n,fun o h=>let⟨o',h'⟩:=x.2 o h;y.2 o' h'⟩
theorem Kept.upd(b:Addr)(H:Hp)(o:HO):Kept b H (upd H b o):=⟨fun a u h n=>by rw[upd_ne n];exact h,fun _ _=>⟨o,upd_same⟩⟩
theorem Kept.new{b p:Addr}{H:Hp}{o:HO}(h:H p=none):Kept b H (L2.upd H p o):=
 ⟨fun a u e _=>by rw[upd_ne (ne_of_none e h)];exact e,fun u e=>⟨u,by rw[upd_ne (ne_of_none e h)];exact e⟩⟩
theorem Kept.of_same{b:Addr}{H H':Hp}(s:Same H H'):Kept b H H':=⟨fun a o h _=>s a o h,fun o h=>⟨o,s _ _ h⟩⟩
theorem same_new{p:Addr}{H:Hp}{o:HO}(h:H p=none):Same H (L2.upd H p o):=fun a u e=>by rw[upd_ne (ne_of_none e h)];exact e
theorem Kept.none{b p:Addr}{H H':Hp}(k:Kept b H H')(h:H' p=Option.none):H p=Option.none:=by
 cases e:H p with
 | none=>rfl
 | some o=>
  by_cases z:p=b
  ·subst z
   obtain⟨o',h'⟩:=k.2 o e
   rw[h]at h'
   cases h'
  ·rw[k.1 p o e z]at h
   cases h
theorem Kept.tup{b a:Addr}{H H':Hp}{xs ys:List V}(k:Kept b H H')(hb:H b=some (.lst ys))(h:H a=some (.tup xs)):H' a=some (.tup xs):=
 k.1 a _ h (ne_of h hb (by intro z;cases z))
structure Bag(H:Hp)(b c:Addr):Prop where
 ex:∃(i0 i1 i2:Int) (ns:List Int),H b=some (.lst [.int i0,.int i1,.int i2,.ref c])/\H c=some (.lst (ns.map V.int))/\0<=i0/\0<=i1/\i1<2147483647/\0<=i2/\∀x∈ns,0<=x
theorem Bag.lst{H:Hp}{b c:Addr}(h:Bag H b c):∃xs,H b=some (.lst xs):=by
 obtain⟨i0,i1,i2,ns,h,_⟩:=h.ex
 exact⟨_,h⟩
theorem Bag.same{H H':Hp}{b c:Addr}(h:Bag H b c)(s:Same H H'):Bag H' b c:=by
 obtain⟨i0,i1,i2,ns,h1,h2,r⟩:=h.ex
 exact⟨i0,i1,i2,ns,s _ _ h1,s _ _ h2,r⟩
theorem Bag.new{H:Hp}{b c p:Addr}{o:HO}(h:Bag H b c)(n:H p=none):Bag (L2.upd H p o) b c:=h.same (same_new n)
theorem Bag.put{H:Hp}{b c p:Addr}{o:HO}(h:Bag H b c)(n1:p≠b)(n2:p≠c):Bag (L2.upd H p o) b c:=by
 obtain⟨i0,i1,i2,ns,h1,h2,r⟩:=h.ex
 exact⟨i0,i1,i2,ns,by rw[upd_ne n1.symm];exact h1,by rw[upd_ne n2.symm];exact h2,r⟩
theorem Bag.nb{H:Hp}{b c p:Addr}(h:Bag H b c)(n:H p=none):p≠b/\p≠c:=by
 obtain⟨i0,i1,i2,ns,h1,h2,r⟩:=h.ex
 exact⟨(ne_of_none h1 n).symm,(ne_of_none h2 n).symm⟩
theorem Kept.put{b p:Addr}{H H':Hp}{o:HO}(k:Kept b H H')(n:H p=Option.none):Kept b H (L2.upd H' p o):=
 ⟨fun a u e z=>by rw[upd_ne (ne_of_none e n)];exact k.1 a u e z,fun u e=>by
  obtain⟨o',h⟩:=k.2 u e
  exact⟨o',by rw[upd_ne (ne_of_none e n)];exact h⟩⟩
theorem atI0{α:Type}(a:α)(r:List α):atI (a::r) 0=some a:=by
 have := @atI_nat α (a::r) 0 a rfl
 simpa using this
theorem atI1{α:Type}(a b:α)(r:List α):atI (a::b::r) 1=some b := @atI_nat α (a::b::r) 1 b rfl
theorem atI2{α:Type}(a b c:α)(r:List α):atI (a::b::c::r) 2=some c := @atI_nat α (a::b::c::r) 2 c rfl
theorem atI3{α:Type}(a b c d:α)(r:List α):atI (a::b::c::d::r) 3=some d := @atI_nat α (a::b::c::d::r) 3 d rfl
theorem atI_of{α:Type}{xs:List α}{i:Int}(h0:0<=i)(h1:i<xs.length):∃v,atI xs i=some v/\xs[i.toNat]? = some v:=by
 have hl:i.toNat<xs.length:=by omega
 have e:xs[i.toNat]? = some (xs[i.toNat]'hl):=by simp[hl]
 refine⟨_,?_,e⟩
 have:=atI_nat e
 rwa [Int.toNat_of_nonneg h0]at this
end RD
namespace RD
open PySem PySem.Spec L2
section
variable {t u:TS}{D:Ends}{σ:St}{H:Hp}{te ta tb tc to ti:TE}{tt tu:TT}{tr:TA}{Q:VK}{QB:Bool->Hp->Prop}{QA:List V->Hp->Prop}{QO:Option Int->Hp->Prop}{v x y:V}{i j:Int}{n:Nat}{r r':R2}{K:Fg}
theorem s_seq(h:t { D with nx:=u D } σ H):tSeq t u D σ H:=h
theorem s_cut{P:St->Hp->Prop}(tail:∀σ H,P σ H->u D σ H)(main:∀nx:St->Hp->Prop,(∀σ H,P σ H->nx σ H)->t { D with nx:=nx } σ H):tSeq t u D σ H:=main _ tail
theorem s_asg{g:TG}(h:te σ H fun x H1=>g x σ H1 D.nx):tAsg te g D σ H:=h
theorem s_gname{QS:St->Hp->Prop}(h:QS (σ.set n (some v)) H):gName n v σ H QS:=h
theorem s_gsub{QS:St->Hp->Prop}{ts:TSet}(h:to σ H fun o H1=>ti σ H1 fun i H2=>ts o i v H2 fun H3=>QS σ H3):gSub to ti ts v σ H QS:=h
theorem s_ret(h:te σ H D.rt):tRet te D σ H:=h
theorem s_drop(h:te σ H fun _ H1=>D.nx σ H1):tDrop te D σ H:=h
theorem s_if(h:tt σ H fun b H1=>if b=true then t D σ H1 else u D σ H1):tIfS tt t u D σ H:=h
theorem s_next(h:D.nx σ H):tNext D σ H:=h
theorem s_test(h:te σ H fun x H'=>∃k,x=.bl k/\QB k H'):tTest te σ H QB:=h
theorem s_tB(h:te σ H fun x H'=>∃k,x=.bl k/\QB k H'):tB te σ H QB:=h
theorem s_not(h:tt σ H fun c H1=>QB (!c) H1):tNot tt σ H QB:=h
theorem s_and(h:tt σ H fun c H1=>if c=true then tu σ H1 QB else QB false H1):tAnd tt tu σ H QB:=h
theorem s_or(h:tt σ H fun c H1=>if c=true then QB true H1 else tu σ H1 QB):tOr tt tu σ H QB:=h
theorem s_andV(h:ta σ H fun x H1=>∃c,x=.bl c/\if c=true then tb σ H1 Q else Q (.bl false) H1):tAndV ta tb σ H Q:=h
theorem s_orV(h:ta σ H fun x H1=>∃c,x=.bl c/\if c=true then Q (.bl true) H1 else tb σ H1 Q):tOrV ta tb σ H Q:=h
theorem s_notV(h:ta σ H fun x H1=>∃c,x=.bl c/\Q (.bl (!c)) H1):tNotV ta σ H Q:=h
theorem s_ifE(h:tt σ H fun c H1=>if c=true then ta σ H1 Q else tb σ H1 Q):tIf tt ta tb σ H Q:=h
theorem s_op(h:ta σ H fun x H1=>tb σ H1 fun y H2=>r x y H2 Q):tOp r ta tb σ H Q:=h
theorem s_chain(h:ta σ H fun x H1=>tb σ H1 fun y H2=>r x y H2 fun z H3=>∃k,z=.bl k/\(if k=true then tc σ H3 fun w' H4=>r' y w' H4 Q else Q (.bl false) H3)):tChain r r' ta tb tc σ H Q:=h
theorem s_un{f:V->Hp->VK->Prop}(h:ta σ H fun x H1=>f x H1 Q):tUn f ta σ H Q:=h
theorem s_neg(h:Q (.int (-i)) H):rU (fun i=>.int (-i)) (.int i) H Q:=⟨i,rfl,h⟩
theorem s_var(e:σ[n]? = some (some v))(h:Q v H):tVar n σ H Q:=⟨v,e,h⟩
theorem s_c(h:Q v H):tC v σ H Q:=h
theorem s_cons(h:te σ H fun x H1=>tr σ H1 fun xs H2=>QA (x::xs) H2):tCons te tr σ H QA:=h
theorem s_nil(h:QA [] H):tNil σ H QA:=h
theorem s_call{sp:Sp}{E:XK}(h:tr σ H fun vs H1=>sp (vs++[]) H1 Q E):tCall sp [] E tr σ H Q:=h
theorem s_cb{f:List V->Hp->VK->Prop}(h:tr σ H fun vs H1=>f vs H1 Q):tCB f tr σ H Q:=h
def New(o:HO)(n:Nat)(H:Hp)(Q:VK):Prop:=n<=sizeLine/\∀p,H p=none->Q (.ref p) (upd H p o)
theorem new_i{o:HO}{n:Nat}(hl:n<=100000)(h:∀p H',H p=none->H' p=some o->Same H H'->Q (.ref p) H'):New o n H Q:=
 ⟨Nat.le_trans hl (by rw[PySem.sizeLine_eq];decide),fun p hp=>h p _ hp upd_same (same_new hp)⟩
theorem s_tup(h:tr σ H fun xs H1=>New (.tup xs) xs.length H1 Q):tTup tr σ H Q:=h
theorem s_lst(h:tr σ H fun xs H1=>New (.lst xs) xs.length H1 Q):tLst tr σ H Q:=h
theorem s_sl{f:V->Option Int->Option Int->Hp->VK->Prop}{tl th:TO}(h:te σ H fun x H1=>tl σ H1 fun l H2=>th σ H2 fun u H3=>f x l u H3 Q):tSl f te tl th σ H Q:=h
theorem s_part(h:te σ H fun x H1=>∃i,x=.int i/\QO (some i) H1):tPart te σ H QO:=h
theorem s_nopart(h:QO none H):tNoPart σ H QO:=h
theorem s_rev(h:te σ H fun x H1=>qRev x H1 Q):tRev te σ H Q:=h
theorem s_true(h:QB true H):tTrue σ H QB:=h
theorem s_bm{f:V->List V->Hp->VK->Prop}(h:to σ H fun x H1=>tyV K "list" x H1/\tr σ H1 fun xs H2=>f x xs H2 Q):tBM K "list" f to tr σ H Q:=h
theorem s_bmS{s:Str}{f:V->List V->Hp->VK->Prop}(h:tr σ H fun xs H2=>f (.str s) xs H2 Q):tBM K "str" f (tC (.str s)) tr σ H Q:=⟨rfl,h⟩
theorem s_augS{tget:V->V->Hp->VK->Prop}{tip:TIp}{tset:TSet}(h:to σ H fun o H1=>ti σ H1 fun i H2=>tget o i H2 fun x H3=>te σ H3 fun y H4=>tip x y H4 fun z H5=>tset o i z H5 fun H6=>D.nx σ H6):tAugS to ti te tget tip tset D σ H:=h
theorem q_add(h:Q (.int (i+j)) H):qAdd (.int i) (.int j) H Q:=h
theorem q_addS{a b:Str}(hl:a.length+b.length<=sizeLine)(h:Q (.str (a++b)) H):qAdd (.str a) (.str b) H Q:=⟨hl,h⟩
theorem q_addL{a b:Addr}{xs ys:List V}(ha:H a=some (.lst xs))(hb:H b=some (.lst ys))(h:New (.lst (xs++ys)) (xs.length+ys.length) H Q):qAdd (.ref a) (.ref b) H Q:=by
 unfold qAdd
 simp only[ha,hb]
 exact h
theorem q_int0{g:Int->Int->V}(h:Q (g i j) H):q2I0 g (.int i) (.int j) H Q:=h
theorem q_int{C:Int->Int->Prop}{g:Int->Int->V}(hc:C i j)(h:Q (g i j) H):q2I C g (.int i) (.int j) H Q:=⟨hc,h⟩
theorem q_ip{f:Int->Int->Int}(h:Q (.int (f i j)) H):ipI f (.int i) (.int j) H Q:=⟨i,j,rfl,rfl,h⟩
theorem q_ixL{p:Addr}{xs:List V}(hp:H p=some (.lst xs))(he:atI xs i=some v)(h:Q v H):qIx (.ref p) (.int i) H Q:=by
 unfold qIx
 simp only[hp]
 exact⟨v,he,h⟩
theorem q_ixT{p:Addr}{xs:List V}(hp:H p=some (.tup xs))(he:atI xs i=some v)(h:Q v H):qIx (.ref p) (.int i) H Q:=by
 unfold qIx
 simp only[hp]
 exact⟨v,he,h⟩
theorem q_ixS{z:Str}{c:Nat}(hz:z.length<=sizeLine)(he:atI z.cps.toList i=some c)(h:Q (.str ⟨#[c]⟩) H):qIx (.str z) (.int i) H Q:=⟨hz,c,he,h⟩
theorem q_set{p:Addr}{xs:List V}{QH:Hp->Prop}{k:Nat}(hp:H p=some (.lst xs))(he:ixN xs.length i=some k)(h:QH (upd H p (.lst (xs.set k v)))):qSet (.ref p) (.int i) v H QH:=by
 unfold qSet
 simp only[hp]
 exact⟨k,he,h⟩
theorem q_get{p:Addr}{xs:List V}(hp:H p=some (.lst xs))(h0:0<=i)(he:xs[i.toNat]? = some v)(h:Q v H):qGet (.ref p) (.int i) H Q:=by
 unfold qGet
 simp only[hp]
 exact⟨h0,v,he,h⟩
theorem q_lenL{p:Addr}{xs:List V}(hp:H p=some (.lst xs))(h:Q (.int xs.length) H):qLen [.ref p] H Q:=by
 unfold qLen
 simp only[hp]
 exact h
theorem q_lenT{p:Addr}{xs:List V}(hp:H p=some (.tup xs))(h:Q (.int xs.length) H):qLen [.ref p] H Q:=by
 unfold qLen
 simp only[hp]
 exact h
theorem q_lenS{z:Str}(hz:z.length<=sizeLine)(h:Q (.int z.length) H):qLen [.str z] H Q:=⟨hz,h⟩
theorem q_abs(h:Q (.int (if i<0 then -i else i)) H):qAbs [.int i] H Q:=h
theorem q_eq(hs:scal x y=true)(h:Q (.bl (decide (x=y))) H):qEq x y H Q:=⟨_,if_pos hs,h⟩
theorem q_ne(hs:scal x y=true)(h:Q (.bl (!decide (x=y))) H):qNe x y H Q:=⟨_,if_pos hs,h⟩
theorem eqO_tup{a b:Addr}{xs ys:List V}(ha:H a=some (.tup xs))(hb:H b=some (.tup ys))(fx:xs.all flatV=true)(fy:ys.all flatV=true):eqO (.ref a) (.ref b) H=some (flatEq xs ys):=by
 unfold eqO
 rw[if_neg (by intro z;cases z)]
 simp only[ha,hb]
 rw[if_pos ⟨fx,fy⟩]
theorem eqO_lst{a b:Addr}{xs ys:List V}(ha:H a=some (.lst xs))(hb:H b=some (.lst ys))(fx:xs.all flatV=true)(fy:ys.all flatV=true):eqO (.ref a) (.ref b) H=some (flatEq xs ys):=by
 unfold eqO
 rw[if_neg (by intro z;cases z)]
 simp only[ha,hb]
 rw[if_pos ⟨fx,fy⟩]
theorem eqV_self(v:V)(h:flatV v=true):eqV v v=true:=by
 cases v with
 | non=>rfl
 | bl b=>simp[eqV]
 | int i=>simp[eqV]
 | str s=>simp[eqV]
 | byt b=>cases h
 | flt b=>cases h
 | ref a=>cases h
 | ty n=>cases h
theorem flatEq_self(xs:List V)(h:xs.all flatV=true):flatEq xs xs=true:=by
 unfold flatEq
 rw[Nat.min_self,beq_self_eq_true,Bool.and_true,List.all_eq_true]
 intro j hj
 have hl:j<xs.length:=by simpa using hj
 have e:xs.getD j .non=xs[j]:=by simp[List.getD,hl]
 rw[e]
 exact eqV_self _ (List.all_eq_true.mp h _ (List.getElem_mem _))
theorem q_list{p:Addr}{ys:List V}(hp:H p=some (.tup ys))(h:∀l H',H l=none->H' l=some (.lst ys)->Same H H'->Q (.ref l) H'):qList [.ref p] H Q:=by
 unfold qList
 simp only[hp]
 exact fun l hl=>h l _ hl upd_same (same_new hl)
theorem q_inT{p:Addr}{xs:List V}(hp:H p=some (.tup xs))(hx:flatV x=true)(ha:xs.all flatV=true)(h:Q (.bl (inV x xs)) H):qIn false x (.ref p) H Q:=by
 unfold qIn
 cases x <;> first | (simp only[hp];exact⟨hx,ha,h⟩) | cases hx
theorem q_ninL{p:Addr}{xs:List V}(hp:H p=some (.lst xs))(hx:flatV x=true)(ha:xs.all flatV=true)(h:Q (.bl (!inV x xs)) H):qIn true x (.ref p) H Q:=by
 unfold qIn
 cases x <;> first | (simp only[hp];exact⟨hx,ha,h⟩) | cases hx
theorem q_append{l:Addr}{xs:List V}(hp:H l=some (.lst xs))(hl:xs.length<sizeLine)(h:Q .non (upd H l (.lst (xs++[y])))):qAppend (.ref l) [y] H Q:=by
 unfold qAppend
 simp only[hp]
 exact⟨hl,h⟩
theorem q_slT{a:Addr}{xs:List V}{lo hi:Option Int}(ha:H a=some (.tup xs))(hw:¬(HT.sIx xs.length 0 lo=0/\HT.sIx xs.length xs.length hi=xs.length))(h:∀p H',H p=none->H' p=some (.tup (cutV xs lo hi))->Same H H'->Q (.ref p) H'):qSl (.ref a) lo hi H Q:=by
 unfold qSl
 simp only[ha]
 exact⟨hw,fun p hp=>h p _ hp upd_same (same_new hp)⟩
theorem q_slL{a:Addr}{xs:List V}{lo hi:Option Int}(ha:H a=some (.lst xs))(h:∀p H',H p=none->H' p=some (.lst (cutV xs lo hi))->Same H H'->Q (.ref p) H'):qSl (.ref a) lo hi H Q:=by
 unfold qSl
 simp only[ha]
 exact fun p hp=>h p _ hp upd_same (same_new hp)
theorem q_isi{s c:String}(e:tyName x H=some s)(hc:c∈kindsK)(h:Q (.bl (isKind s c)) H):qIsi [x,.ty c] H Q:=⟨s,e,hc,h⟩
theorem q_join{s:Str}{l:Addr}{xs:List V}{ss:List Str}(hp:H l=some (.lst xs))(e:strsOf xs=some ss)(hl:(ss.map (·.length)).sum+ss.length * s.length<=16777216)(h:Q (.str (Txt.join s ss)) H):qJoin (.str s) [.ref l] H Q:=by
 unfold qJoin
 simp only[hp]
 exact⟨ss,e,hl,h⟩
end
end RD
namespace RD
open PySem PySem.Spec L2
section
variable {σ:St}{H1:Hp}{te:TE}{Q:VK}{D:Addr}{K:Fg}
theorem comp_rng{QD:Hp->Prop}{lo:Int}{n:Nat}(Pv:Nat->List V->Hp->Prop)(h0:Pv 0 [] (upd H1 D (.lst [])))(hP:∀i ys H,Pv i ys H->H D=some (.lst ys))
  (step:∀i ys H2,i<n->Pv i ys H2->∀R:VK,(∀y H5,H5 D=some (.lst ys)->ys.length<sizeLine->Pv (i+1) (ys++[y]) (upd H5 D (.lst (ys++[y])))->R y H5)->te (some (.int (lo+i))::σ) H2 R)
  (done:∀ys H2,Pv n ys H2->QD H2) :
  ∃W:Nat->Nat->List V->Hp->Prop,(∃m,W 0 m [] (upd H1 D (.lst [])))/\∀i m ys H2,W i m ys H2->H2 D=some (.lst ys) /\
   (((Itr lo n).stop i H2 ∧ QD H2) ∨ ((Itr lo n).go i H2 ∧ ∀ x H3, (Itr lo n).yld i H2 x H3 → tTrue (some x :: σ) H3 fun ok H4 => if ok = true then
     te (some x::σ) H4 (fun y H5=>H5 D=some (.lst ys)/\ys.length<sizeLine/\∃m',m'<m/\W (i+1) m' (ys++[y]) (upd H5 D (.lst (ys++[y]))))
     else ∃m',m'<m/\W (i+1) m' ys H4)):=by
 refine⟨fun i m ys H=>m=n - i/\i<=n/\Pv i ys H,⟨n,rfl,Nat.zero_le _,h0⟩,?_⟩
 rintro i m ys H2 ⟨rfl,hi,p⟩
 refine⟨hP i ys H2 p,?_⟩
 by_cases hlt:i<n
 ·refine .inr ⟨hlt,fun x H3 y=>?_⟩
  obtain⟨e,y⟩:=y
  subst e y
  refine s_true ?_
  rw[if_pos rfl]
  exact step i ys _ hlt p _ fun y H5 h1 h2 h3=>⟨h1,h2,n - (i+1),by omega,rfl,hlt,h3⟩
 ·have e:i=n:=by omega
  subst e
  exact .inl ⟨Nat.le_refl _,done ys H2 p⟩
theorem comp_lst{QD:Hp->Prop}{a:Addr}{xs:List V}(Pv:Nat->List V->Hp->Prop)(h0:Pv 0 [] (upd H1 D (.lst [])))(hP:∀i ys H,Pv i ys H->H D=some (.lst ys))(hl:∀i ys H,i<=xs.length->Pv i ys H->SqL K H a xs)
  (step:∀i x ys H2,xs[i]? = some x->Pv i ys H2->∀R:VK,(∀y H5,H5 D=some (.lst ys)->ys.length<sizeLine->Pv (i+1) (ys++[y]) (upd H5 D (.lst (ys++[y])))->R y H5)->te (some x::σ) H2 R)
  (done:∀ys H2,Pv xs.length ys H2->QD H2) :
  ∃W:Nat->Nat->List V->Hp->Prop,(∃m,W 0 m [] (upd H1 D (.lst [])))/\∀i m ys H2,W i m ys H2->H2 D=some (.lst ys) /\
   (((Itl K a).stop i H2 ∧ QD H2) ∨ ((Itl K a).go i H2 ∧ ∀ x H3, (Itl K a).yld i H2 x H3 → tTrue (some x :: σ) H3 fun ok H4 => if ok = true then
     te (some x::σ) H4 (fun y H5=>H5 D=some (.lst ys)/\ys.length<sizeLine/\∃m',m'<m/\W (i+1) m' (ys++[y]) (upd H5 D (.lst (ys++[y]))))
     else ∃m',m'<m/\W (i+1) m' ys H4)):=by
 refine⟨fun i m ys H=>m=xs.length - i/\i<=xs.length/\Pv i ys H,⟨xs.length,rfl,Nat.zero_le _,h0⟩,?_⟩
 rintro i m ys H2 ⟨rfl,hi,p⟩
 refine⟨hP i ys H2 p,?_⟩
 have q:=hl i ys H2 hi p
 by_cases hlt:i<xs.length
 ·refine .inr ⟨⟨xs,xs[i],q,by simp[hlt]⟩,fun x H3 y=>?_⟩
  obtain⟨e,y⟩:=y
  subst e
  refine s_true ?_
  rw[if_pos rfl]
  exact step i x ys _ (y xs q) p _ fun y H5 h1 h2 h3=>⟨h1,h2,xs.length - (i+1),by omega,rfl,hlt,h3⟩
 ·have e:i=xs.length:=by omega
  subst e
  exact .inl ⟨⟨xs,q,Nat.le_refl _⟩,done ys H2 p⟩
theorem s_comp{wi:TI}{tt:TT}(h:wi σ H1 fun J H1=>∀D,H1 D=none->∃W:Nat->Nat->List V->Hp->Prop,
 (∃m,W 0 m [] (upd H1 D (.lst [])))/\∀i m ys H2,W i m ys H2->H2 D=some (.lst ys) /\
  ((J.stop i H2 ∧ Q (.ref D) H2) ∨ (J.go i H2 ∧ ∀ x H3, J.yld i H2 x H3 → tt (some x :: σ) H3 fun ok H4 => if ok = true then
    te (some x::σ) H4 (fun y H5=>H5 D=some (.lst ys)/\ys.length<sizeLine/\∃m',m'<m/\W (i+1) m' (ys++[y]) (upd H5 D (.lst (ys++[y]))))
    else ∃m',m'<m/\W (i+1) m' ys H4))):tComp wi tt te σ H1 Q:=h
theorem s_rng1{ta:TA}{R:It->Hp->Prop}(h:ta σ H1 fun vs H2=>∃j:Int,vs=[.int j] /\ -(2 ^ 62)<=j/\j<2 ^ 62/\R (Itr 0 j.toNat) H2):iRng1 ta σ H1 R:=h
theorem s_ilst{ta:TE}{R:It->Hp->Prop}(h:ta σ H1 fun x H2=>∃a,x=.ref a/\(∃xs,SqL K H2 a xs)/\R (Itl K a) H2):iList K ta σ H1 R:=h
theorem s_for{wi:TI}{g:TG}{tb:TS}{D:Ends}(h:wi σ H1 fun J H1=>∃W:Nat->Nat->St->Hp->Prop,(∃m,W 0 m σ H1)/\∀i m σ H,W i m σ H ->
 (J.stop i H/\D.nx σ H)\/(J.go i H/\∃N:St->Hp->Prop,(∀σ' H',N σ' H'->∃m',m'<m/\W (i+1) m' σ' H')/\∀x H',J.yld i H x H'->g x σ H' fun σ2 H2=>tb { D with nx:=N,ct:=N,bk:=D.nx } σ2 H2)):tFor wi g tb D σ H1:=h
end
def TSame(H H':Hp):Prop:=∀a xs,H a=some (.tup xs)->H' a=some (.tup xs)
theorem TSame.refl(H:Hp):TSame H H:=fun _ _ h=>h
theorem TSame.trans{H H1 H2:Hp}(x:TSame H H1)(y:TSame H1 H2):TSame H H2:=fun a xs h=>y a xs (x a xs h)
theorem TSame.new{H:Hp}{p:Addr}{o:HO}(h:H p=none):TSame H (upd H p o):=fun a xs e=>by rw[upd_ne (ne_of_none e h)];exact e
theorem TSame.put{H:Hp}{p:Addr}{ys:List V}{o:HO}(h:H p=some (.lst ys)):TSame H (upd H p o):=fun a xs e=>by
 rw[upd_ne (ne_of e h (by intro z;cases z))];exact e
theorem Same.ts{H H':Hp}(s:Same H H'):TSame H H':=fun a xs h=>s a _ h
theorem Kept.ts{b c:Addr}{H H':Hp}(k:Kept b H H')(hB:Bag H b c):TSame H H':=fun a xs h=>by
 obtain⟨ys,hb⟩:=hB.lst
 exact k.tup hb h
def OpV(v:V):Prop:=(∃s,v=.str s)\/∃n:Int,v=.int n/\0<=n/\n<1000000000000
theorem OpV.flat{v:V}(h:OpV v):flatV v=true:=by
 rcases h with ⟨s,rfl⟩ | ⟨n,rfl,_⟩ <;> rfl
def DeedAt(H:Hp)(p:Addr):Prop:=∃k v1 v2,H p=some (.tup [.str k,v1,v2])/\OpV v1/\OpV v2/\k∈(["plus", "minus", "times", "less", "same"]:List Str)
theorem DeedAt.ts{H H':Hp}{p:Addr}(h:DeedAt H p)(t:TSame H H'):DeedAt H' p:=by
 obtain⟨k,v1,v2,h,a,b,c⟩:=h
 exact⟨k,v1,v2,t _ _ h,a,b,c⟩
inductive RowIs(H:Hp):List V->Prop
 | set (n:Str) (p:Addr):DeedAt H p->RowIs H [.str "set", .str n,.ref p]
 | copy (n:Str) (v:V):OpV v->RowIs H [.str "copy", .str n,v]
 | take (n:Str):RowIs H [.str "take", .str n]
 | tell (v:V):OpV v->RowIs H [.str "tell", v]
 | ask (v:V):OpV v->RowIs H [.str "ask", v]
 | skip:RowIs H [.str "skip"]
theorem RowIs.ts{H H':Hp}{xs:List V}(h:RowIs H xs)(t:TSame H H'):RowIs H' xs:=by
 cases h with
 | set n p d=>exact .set n p (d.ts t)
 | copy n v o=>exact .copy n v o
 | take n=>exact .take n
 | tell v o=>exact .tell v o
 | ask v o=>exact .ask v o
 | skip=>exact .skip
def RowAt(H:Hp)(v:V):Prop:=∃p xs,v=.ref p/\H p=some (.tup xs)/\RowIs H xs
theorem RowAt.ts{H H':Hp}{v:V}(h:RowAt H v)(t:TSame H H'):RowAt H' v:=by
 obtain⟨p,xs,rfl,h,r⟩:=h
 exact⟨p,xs,rfl,t _ _ h,r.ts t⟩
structure Names(H:Hp)(a:Addr):Prop where
 ex:∃ss:List Str,H a=some (.lst (ss.map V.str))/\ss≠[]/\ss.length<=8
theorem Names.kept{b c a:Addr}{H H':Hp}(h:Names H a)(hB:Bag H b c)(k:Kept b H H'):Names H' a/\a≠b:=by
 obtain⟨ss,h1,h2,h3⟩:=h.ex
 obtain⟨i0,i1,i2,ns,hb,_⟩:=hB.ex
 have ne:a≠b:=ne_of h1 hb (by
  intro z
  have z:=HO.lst.inj z
  cases ss with
  | nil=>exact h2 rfl
  | cons s r=>cases z)
 exact⟨⟨ss,k.1 a _ h1 ne,h2,h3⟩,ne⟩
theorem Names.same{H H':Hp}{a:Addr}(h:Names H a)(s:Same H H'):Names H' a:=by
 obtain⟨ss,h1,h2,h3⟩:=h.ex
 exact⟨ss,s _ _ h1,h2,h3⟩
theorem Names.new{H:Hp}{a p:Addr}{o:HO}(h:Names H a)(n:H p=none):Names (upd H p o) a:=by
 obtain⟨ss,h1,h2,h3⟩:=h.ex
 exact⟨ss,by rw[upd_ne (ne_of_none h1 n)];exact h1,h2,h3⟩
theorem small{n:Nat}(h:n<=100000):n<=sizeLine:=Nat.le_trans h (by rw[PySem.sizeLine_eq];decide)
theorem smallT{n:Nat}(h:n<100000):n<sizeLine:=Nat.lt_of_lt_of_le h (by rw[PySem.sizeLine_eq];decide)
theorem iteT'{c:Bool}{A B:Prop}(hc:c=true)(h:A):if c=true then A else B:=by rw[if_pos hc];exact h
theorem iteF'{c:Bool}{A B:Prop}(hc:c=false)(h:B):if c=true then A else B:=by rw[hc];exact L2.iteF h
end RD
namespace RD
open PySem PySem.Spec L2
section
variable {t u:TS}{D:Ends}{σ:St}{H H1:Hp}{te ta tb tc to ti:TE}{tt tu:TT}{tr:TA}{Q:VK}{QB:Bool->Hp->Prop}{QA:List V->Hp->Prop}{v x y:V}{i j:Int}{n:Nat}{K:Fg}
theorem s_dnew(h:∀p H',H p=none->H' p=some (.dK [])->Same H H'->Q (.ref p) H'):tDNewK σ H Q:=fun p hp=>h p _ hp upd_same (same_new hp)
theorem s_din(h:ti σ H fun y H1=>to σ H1 fun x H2=>∃a o,x=.ref a/\DGet H2 a y o/\Q (.bl o.isSome) H2):tDIn ti to σ H Q:=h
theorem s_dnotin(h:ti σ H fun y H1=>to σ H1 fun x H2=>∃a o,x=.ref a/\DGet H2 a y o/\Q (.bl (!o.isSome)) H2):tDNotIn ti to σ H Q:=h
theorem s_dput(h:te σ H fun v H1=>to σ H1 fun x H2=>ti σ H2 fun y H3=>∃a H4,x=.ref a/\DPut H3 a y v H4/\D.nx σ H4):sDPut to ti te D σ H:=h
theorem s_fld{f:Str}(h:ta σ H fun x H1=>∃a C dx fs v,x=.ref a/\H1 a=some (.ins C dx fs)/\Cls K C/\NoAttr K C f/\fs.lookup f=some v/\Q v H1):tFld K ta f σ H Q:=h
theorem s_sfld{f:Str}(h:te σ H fun y H1=>ta σ H1 fun x H2=>∃a C dx fs,x=.ref a/\H2 a=some (.ins C dx fs)/\Cls K C/\NoAttr K C f/\fs.length<1000/\D.nx σ (upd H2 a (.ins C dx (putF f y fs)))):sFld K ta te f D σ H:=h
theorem s_meth{C:Addr}{m:Str}{sp:Sp}{E:XK}(h:ta σ H fun x H1=>∃a dx fs,x=.ref a/\H1 a=some (.ins C dx fs)/\fs.lookup m=none/\tr σ H1 fun vs H2=>sp (x::(vs++[])) H2 Q E):tMeth C m sp [] E ta tr σ H Q:=h
theorem s_make{C:Addr}{sp:Sp}{E:XK}(h:tr σ H fun vs H1=>∀x dx,H1 x=none->H1 dx=none->dx≠x ->
 sp (.ref x::(vs++[])) (upd (upd H1 dx (.own x)) x (.ins C dx [])) (fun v H2=>v=.non/\Q (.ref x) H2) E):tMake C sp [] E tr σ H Q:=h
theorem s_bm0{f:V->List V->Hp->VK->Prop}(h:to σ H fun x H1=>tyV K "list" x H1/\f x [] H1 Q):tBM0 K "list" f to σ H Q:=h
theorem ty_list{p:Addr}{xs:List V}(h:H p=some (.lst xs)):tyV K "list" (.ref p) H:=.inl ⟨rfl,xs,SqL.of h⟩
theorem s_gpair{p:Addr}{a b:Nat}{QS:St->Hp->Prop}(hp:SqT K H p [x,y])(h:QS ((σ.set a (some x)).set b (some y)) H):gTup K 2 (gCons (gName a) (gCons (gName b) gNil)) (.ref p) σ H QS:=
 ⟨p,_,rfl,hp,rfl,_,_,rfl,_,_,rfl,rfl,h⟩
theorem s_ienum{R:It->Hp->Prop}(h:tr σ H fun vs H1=>∃a,vs=[.ref a]/\(∃xs,SqL K H1 a xs)/\R (Ite K a) H1):iEnum K tr σ H R:=h
theorem s_izip{R:It->Hp->Prop}(h:tr σ H fun vs H1=>∃a b,vs=[.ref a,.ref b]/\(∃xs,SqL K H1 a xs)/\(∃xs,SqL K H1 b xs)/\R (Itz K a b) H1):iZip K tr σ H R:=h
theorem s_while(h:∃W:Nat->St->Hp->Prop,(∃m,W m σ H)/\∀m σ H,W m σ H ->
 tt σ H fun b H1=>if b=true then ∃N:St->Hp->Prop,(∀σ' H',N σ' H'->∃m',m'<m/\W m' σ' H')/\t { D with nx:=N,ct:=N,bk:=D.nx } σ H1 else D.nx σ H1):tWhile tt t D σ H:=h
theorem s_compP{wi:TI}(h:wi σ H1 fun J H1=>∀D,H1 D=none->∃W:Nat->Nat->List V->Hp->Prop,
 (∃m,W 0 m [] (upd H1 D (.lst [])))/\∀i m ys H2,W i m ys H2->H2 D=some (.lst ys) /\
  ((J.stop i H2 ∧ Q (.ref D) H2) ∨ (J.go i H2 ∧ ∀ x H3, J.yld i H2 x H3 → ∃ a u v, x = .ref a ∧ SqT K H3 a [u, v] ∧ tt (some u :: some v :: σ) H3 fun ok H4 => if ok = true then
    te (some u::some v::σ) H4 (fun y H5=>H5 D=some (.lst ys)/\ys.length<sizeLine/\∃m',m'<m/\W (i+1) m' (ys++[y]) (upd H5 D (.lst (ys++[y]))))
    else ∃m',m'<m/\W (i+1) m' ys H4))):tCompP K wi tt te σ H1 Q:=h
theorem comp_p{J:It}{D:Addr}{QD:Hp->Prop}(n:Nat)(Pv:Nat->List V->Hp->Prop)(h0:Pv 0 [] (upd H1 D (.lst [])))(hP:∀i ys H,Pv i ys H->H D=some (.lst ys))(stop:∀ys H,Pv n ys H->J.stop n H/\QD H)(go:∀i ys H,i<n->Pv i ys H->J.go i H)
  (step:∀i ys H2,i<n->Pv i ys H2->∀x H3,J.yld i H2 x H3->∃a u v,x=.ref a/\SqT K H3 a [u,v]/\∀(R:VK) (S:Hp->Prop),(∀y H5,H5 D=some (.lst ys)->ys.length<sizeLine->Pv (i+1) (ys++[y]) (upd H5 D (.lst (ys++[y])))->R y H5)->(∀H4,Pv (i+1) ys H4->S H4) ->
   tt (some u::some v::σ) H3 fun ok H4=>if ok=true then te (some u::some v::σ) H4 R else S H4) :
  ∃W:Nat->Nat->List V->Hp->Prop,(∃m,W 0 m [] (upd H1 D (.lst [])))/\∀i m ys H2,W i m ys H2->H2 D=some (.lst ys) /\
   ((J.stop i H2 ∧ QD H2) ∨ (J.go i H2 ∧ ∀ x H3, J.yld i H2 x H3 → ∃ a u v, x = .ref a ∧ SqT K H3 a [u, v] ∧ tt (some u :: some v :: σ) H3 fun ok H4 => if ok = true then
     te (some u::some v::σ) H4 (fun y H5=>H5 D=some (.lst ys)/\ys.length<sizeLine/\∃m',m'<m/\W (i+1) m' (ys++[y]) (upd H5 D (.lst (ys++[y]))))
     else ∃m',m'<m/\W (i+1) m' ys H4)):=by
 refine⟨fun i m ys H=>m=n - i/\i<=n/\Pv i ys H,⟨n,rfl,Nat.zero_le _,h0⟩,?_⟩
 rintro i m ys H2 ⟨rfl,hi,p⟩
 refine⟨hP i ys H2 p,?_⟩
 by_cases hlt:i<n
 ·refine .inr ⟨go i ys H2 hlt p,fun x H3 hy=>?_⟩
  obtain⟨a,u,v,e,hs,st⟩:=step i ys H2 hlt p x H3 hy
  exact⟨a,u,v,e,hs,st _ _ (fun y H5 h1 h2 h3=>⟨h1,h2,n - (i+1),by omega,rfl,hlt,h3⟩) fun H4 h4=>⟨n - (i+1),by omega,rfl,hlt,h4⟩⟩
 ·have e:i=n:=by omega
  subst e
  exact .inl (stop ys H2 p)
theorem for_i{J:It}{g:TG}{tb:TS}(n:Nat)(Pv:Nat->St->Hp->Prop)(h0:Pv 0 σ H)(stop:∀σ H,Pv n σ H->J.stop n H/\D.nx σ H)(go:∀i σ H,i<n->Pv i σ H->J.go i H)
  (hs:∀i σ H,i<n->Pv i σ H->∀x H',J.yld i H x H'->g x σ H' fun σ2 H2=>tb { D with nx:=Pv (i+1),ct:=Pv (i+1),bk:=D.nx } σ2 H2) :
  ∃W:Nat->Nat->St->Hp->Prop,(∃m,W 0 m σ H)/\∀i m σ H,W i m σ H ->
   (J.stop i H/\D.nx σ H)\/(J.go i H/\∃N:St->Hp->Prop,(∀σ' H',N σ' H'->∃m',m'<m/\W (i+1) m' σ' H')/\∀x H',J.yld i H x H'->g x σ H' fun σ2 H2=>tb { D with nx:=N,ct:=N,bk:=D.nx } σ2 H2):=by
 refine⟨fun i m σ H=>m=n - i/\i<=n/\Pv i σ H,⟨n,rfl,Nat.zero_le _,h0⟩,?_⟩
 rintro i m σ H ⟨rfl,hi,p⟩
 by_cases hlt:i<n
 ·exact .inr ⟨go i σ H hlt p,Pv (i+1),fun σ' H' p'=>⟨n - (i+1),by omega,rfl,hlt,p'⟩,fun x H' hy=>hs i σ H hlt p x H' hy⟩
 ·have e:i=n:=by omega
  subst e
  exact .inl (stop σ H p)
theorem q_min(h:Q (.int (if j<i then j else i)) H):qMin [.int i,.int j] H Q:=h
theorem boolsOf_map(bs:List Bool):boolsOf (bs.map V.bl)=some bs:=by
 induction bs with
 | nil=>rfl
 | cons s r ih=>simp[boolsOf,ih]
theorem q_any{l:Addr}{bs:List Bool}(hl:H l=some (.lst (bs.map V.bl)))(h:Q (.bl (bs.any id)) H):qAny [.ref l] H Q:=by
 unfold qAny
 simp only[hl]
 exact⟨bs,boolsOf_map bs,h⟩
theorem q_all{l:Addr}{bs:List Bool}(hl:H l=some (.lst (bs.map V.bl)))(h:Q (.bl (bs.all id)) H):qAll [.ref l] H Q:=by
 unfold qAll
 simp only[hl]
 exact⟨bs,boolsOf_map bs,h⟩
theorem q_extend{l b:Addr}{xs zs:List V}(hl:H l=some (.lst xs))(hb:H b=some (.lst zs))(hz:xs.length+zs.length<=sizeLine)(h:Q .non (upd H l (.lst (xs++zs)))):qExtend (.ref l) [.ref b] H Q:=by
 unfold qExtend
 simp only[hl,hb]
 exact⟨hz,h⟩
theorem q_pop{l:Addr}{xs:List V}{y:V}(hl:H l=some (.lst (xs++[y])))(h:Q y (upd H l (.lst xs))):qPop (.ref l) [] H Q:=by
 unfold qPop
 simp only[hl]
 refine⟨y,by simp,?_⟩
 simpa using h
theorem q_clear{l:Addr}{xs:List V}(hl:H l=some (.lst xs))(h:Q .non (upd H l (.lst []))):qClear (.ref l) [] H Q:=by
 unfold qClear
 simp only[hl]
 exact h
theorem q_listL{p:Addr}{ys:List V}(hp:H p=some (.lst ys))(h:∀l H',H l=none->H' l=some (.lst ys)->Same H H'->Q (.ref l) H'):qList [.ref p] H Q:=by
 unfold qList
 simp only[hp]
 exact fun l hl=>h l _ hl upd_same (same_new hl)
end
def IL(l:List Nat):List V:=l.map fun(n:Nat)=>V.int (n:Int)
theorem IL_len(l:List Nat):(IL l).length=l.length:=by simp[IL]
theorem IL_flat(l:List Nat):(IL l).all flatV=true:=by
 rw[List.all_eq_true]
 intro x hx
 obtain⟨s,_,rfl⟩:=List.mem_map.mp hx
 rfl
def KS(ks:List Nat):List (Key×V):=ks.map fun(k:Nat)=>(Sum.inl (k:Int),V.bl true)
theorem KS_val(ks:List Nat)(k:Nat):(valV (KS ks) (Sum.inl (k:Int))).isSome=decide (k∈ks):=by
 induction ks with
 | nil=>rfl
 | cons a r ih=>
  by_cases e:a=k
  ·subst e
   rw[show KS (a::r)=(Sum.inl (a:Int),V.bl true)::KS r from rfl,valV_pos rfl]
   simp
  ·rw[show KS (a::r)=(Sum.inl (a:Int),V.bl true)::KS r from rfl,valV_neg (by intro z;have:=Sum.inl.inj z;exact e (by omega)),ih]
   have:(k∈a::r)↔k∈r:=by
    rw[List.mem_cons]
    exact⟨fun h=>h.elim (fun z=>absurd z.symm e) id,.inr⟩
   simp[this]
def put1(ks:List Nat)(k:Nat):List Nat:=if k∈ks then ks else ks++[k]
theorem KS_put(ks:List Nat)(k:Nat):putK (KS ks) (Sum.inl (k:Int)) (V.bl true)=KS (put1 ks k):=by
 unfold putK put1
 rw[valV_any,KS_val]
 by_cases h:k∈ks
 ·rw[if_pos (decide_eq_true h),if_pos h]
  unfold KS
  rw[List.map_map]
  apply List.map_congr_left
  intro a _
  show(if(Sum.inl (a:Int):Key)=Sum.inl (k:Int)then ((Sum.inl (a:Int):Key),V.bl true)else ((Sum.inl (a:Int):Key),V.bl true))=_
  split <;> rfl
 ·rw[if_neg (by simpa using h),if_neg h]
  simp[KS]
theorem mem_put1{ks:List Nat}{k j:Nat}:j∈put1 ks k↔j∈ks\/j=k:=by
 unfold put1
 split
 ·rename_i h
  exact⟨.inl,fun q=>q.elim id fun z=>z ▸ h⟩
 ·simp
theorem nd_put1{ks:List Nat}{k:Nat}(h:ks.Nodup):(put1 ks k).Nodup:=by
 unfold put1
 split
 ·exact h
 ·rename_i hk
  rw[List.nodup_append]
  exact⟨h,by simp,fun a ha b hb=>by rw[List.mem_singleton.mp hb];intro z;exact hk (z ▸ ha)⟩
theorem KS_len(ks:List Nat):(KS ks).length=ks.length:=by simp[KS]
theorem nd_le:∀(n:Nat) (ks:List Nat),ks.Nodup->(∀k∈ks,k<n)->ks.length<=n:=by
 intro n
 induction n with
 | zero=>
  intro ks _ h
  cases ks with
  | nil=>exact Nat.le_refl _
  | cons a r=>exact absurd (h a List.mem_cons_self) (Nat.not_lt_zero _)
 | succ n ih=>
  intro ks nd h
  by_cases hn:n∈ks
  ·have:=ih (ks.erase n) (nd.erase n) fun k hk=>by
    have h1:=(List.Nodup.mem_erase_iff nd).mp hk
    have:=h k h1.2
    have:=h1.1
    omega
   rw[List.length_erase_of_mem hn]at this
   omega
  ·have:=ih ks nd fun k hk=>by
    have:=h k hk
    have:k≠n:=fun z=>hn (z ▸ hk)
    omega
   omega
theorem dget_in{H:Hp}{d:Addr}{ks:List Nat}(h:H d=some (.dK (KS ks)))(k:Nat):∃o,DGet H d (.int (k:Int)) o/\o.isSome=decide (k∈ks):=⟨_,DGet.k (k:=Sum.inl (k:Int)) h,KS_val ks k⟩
theorem dput_in{H:Hp}{d:Addr}{ks:List Nat}(h:H d=some (.dK (KS ks)))(hl:ks.length<100000)(k:Nat):DPut H d (.int (k:Int)) (.bl true) (upd H d (.dK (KS (put1 ks k)))):=by
 rw[<-KS_put]
 exact DPut.k (k:=Sum.inl (k:Int)) h (smallT (by rw[KS_len];exact hl))
end RD
namespace RD
theorem nd_sub:∀(l m:List Nat),l.Nodup->(∀x∈l,x∈m)->l.length<=m.length
 | [],_,_,_=>Nat.zero_le _
 | a::r,m,nd,h=>by
  have ha:=h a List.mem_cons_self
  have:=nd_sub r (m.erase a) (List.nodup_cons.mp nd).2 fun x hx=>(List.mem_erase_of_ne (show x≠a from fun z=>(List.nodup_cons.mp nd).1 (z ▸ hx))).mpr (h x (List.mem_cons_of_mem _ hx))
  rw[List.length_erase_of_mem ha]at this
  have:=List.length_pos_of_mem ha
  rw[List.length_cons]
  omega
inductive Gd(N:Nt):Nat->Prop
 | stop {k:Nat}:N[k]? = some []->Gd N k
 | step {k t:Nat} {l:List Nat}:N[k]? = some l->t∈l->Gd N t->Gd N k
inductive Rc(N:Nt):Nat->Prop
 | zero:Rc N 0
 | step {k t:Nat} {l:List Nat}:Rc N k->N[k]? = some l->t∈l->Rc N t
structure Valid(N:Nt):Prop where
 pos:0<N.length
 le:N.length<=400
 two:∀l∈N,l.length<=2
 lt:∀l∈N,∀t∈l,t<N.length
 rc:∀k,k<N.length->Rc N k
 gd:∀k,k<N.length->Gd N k
def mend1(N:Nt)(G:List Nat):List (List Nat):=(List.range N.length).map fun k=>if k∈G then N.getD k [] else (N.length - 1)::(N.getD k []).drop 1
theorem mend1_len(N:Nt)(G:List Nat):(mend1 N G).length=N.length:=by simp[mend1]
theorem mend1_at{N:Nt}{G:List Nat}{k:Nat}(h:k<N.length):(mend1 N G)[k]? = some (if k∈G then N.getD k [] else (N.length - 1)::(N.getD k []).drop 1):=by
 unfold mend1
 rw[List.getElem?_map,List.getElem?_range h]
 rfl
theorem mend1_in{N:Nt}{G:List Nat}{k:Nat}{l:List Nat}(h:N[k]? = some l)(hk:k∈G):(mend1 N G)[k]? = some l:=by
 have hl:=(List.getElem?_eq_some_iff.mp h).1
 rw[mend1_at hl,if_pos hk]
 simp[List.getD,h]
theorem mend1_out{N:Nt}{G:List Nat}{k:Nat}{l:List Nat}(h:N[k]? = some l)(hk:¬k∈G):(mend1 N G)[k]? = some ((N.length - 1)::l.drop 1):=by
 have hl:=(List.getElem?_eq_some_iff.mp h).1
 rw[mend1_at hl,if_neg hk]
 simp[List.getD,h]
theorem gd_mend{N:Nt}{G:List Nat}(hG:∀k∈G,Gd N k)(hl:N[N.length - 1]? = some [])(hm:N.length - 1∈G):∀k,k<N.length->Gd (mend1 N G) k:=by
 have last:Gd (mend1 N G) (N.length - 1):=.stop (mend1_in hl hm)
 have out:∀k,k<N.length->¬k∈G->Gd (mend1 N G) k:=fun k hk h=>.step (mend1_out (l:=N[k]) (by simp) h) List.mem_cons_self last
 have go:∀k,Gd N k->Gd (mend1 N G) k:=by
  intro k h
  induction h with
  | @stop k h=>
   by_cases hk:k∈G
   ·exact .stop (mend1_in h hk)
   ·exact out k (List.getElem?_eq_some_iff.mp h).1 hk
  | @step k t l h ht _ ih=>
   by_cases hk:k∈G
   ·exact .step (mend1_in h hk) ht ih
   ·exact out k (List.getElem?_eq_some_iff.mp h).1 hk
 intro k hk
 by_cases h:k∈G
 ·exact go k (hG k h)
 ·exact out k hk h
theorem mend1_small{N:Nt}{G:List Nat}(hp:0<N.length)(hs:∀l∈N,l.length<=2/\∀t∈l,t<N.length)(hl:N[N.length - 1]? = some [])(hm:N.length - 1∈G):∀l∈mend1 N G,l.length<=2/\∀t∈l,t<N.length:=by
 intro l hl'
 obtain⟨k,hk⟩:=List.mem_iff_getElem?.mp hl'
 have hkl:k<N.length:=by have:=(List.getElem?_eq_some_iff.mp hk).1;rwa [mend1_len]at this
 rw[mend1_at hkl]at hk
 have e:N.getD k []=N[k]:=by simp[List.getD,hkl]
 rw[e]at hk
 obtain⟨h1,h2⟩:=hs N[k] (List.getElem_mem _)
 by_cases hg:k∈G
 ·rw[if_pos hg]at hk
  cases hk
  exact⟨h1,h2⟩
 ·rw[if_neg hg]at hk
  cases hk
  refine⟨?_,fun t ht=>?_⟩
  ·rw[List.length_cons,List.length_drop];omega
  ·rcases List.mem_cons.mp ht with z | z
   ·omega
   ·exact h2 t (List.drop_subset _ _ z)
def sub1(N:Nt)(O:List Nat):List (List Nat):=O.map fun k=>(N.getD k []).map fun t=>O.idxOf t
theorem idx_lt{O:List Nat}{t:Nat}(h:t∈O):O.idxOf t<O.length:=List.idxOf_lt_length_iff.mpr h
theorem sub1_at{N:Nt}{O:List Nat}{k:Nat}{l:List Nat}(hk:k∈O)(h:N[k]? = some l):(sub1 N O)[O.idxOf k]? = some (l.map fun t=>O.idxOf t):=by
 unfold sub1
 have:O[O.idxOf k]? = some k:=by
  rw[List.getElem?_eq_getElem (idx_lt hk)]
  simp
 rw[List.getElem?_map,this]
 simp[List.getD,h]
theorem first_zero{O:List Nat}(h0:0∈O)(hs:O.Pairwise (· <= ·)):O.idxOf 0=0:=by
 cases O with
 | nil=>cases h0
 | cons a r=>
  have:a=0:=by
   rcases List.mem_cons.mp h0 with z | z
   ·exact z.symm
   ·have:=(List.pairwise_cons.mp hs).1 0 z
    omega
  subst this
  simp
theorem valid_sub{N:Nt}{O:List Nat}(h0:0∈O)(hs:O.Pairwise (· <= ·))(hnd:O.Nodup)(hlt:∀k∈O,k<N.length)(hN:N.length<=400)(hcl:∀k∈O,∀l,N[k]? = some l->∀t∈l,t∈O)(hrc:∀k∈O,Rc N k)
  (hsm:∀l∈N,l.length<=2) (hgd:∀k,k<N.length->Gd N k):Valid (sub1 N O):=by
 have hlen:(sub1 N O).length=O.length:=by simp[sub1]
 have rc:∀k,Rc N k->k∈O/\Rc (sub1 N O) (O.idxOf k):=by
  intro k h
  induction h with
  | zero=>
   refine⟨h0,?_⟩
   rw[first_zero h0 hs]
   exact .zero
  | @step k t l _ hl ht ih=>
   obtain⟨i1,i2⟩:=ih
   exact⟨hcl k i1 l hl t ht,.step i2 (sub1_at i1 hl) (List.mem_map.mpr ⟨t,ht,rfl⟩)⟩
 have gd:∀k,Gd N k->k∈O->Gd (sub1 N O) (O.idxOf k):=by
  intro k h
  induction h with
  | @stop k h=>
   intro hk
   exact .stop (by rw[sub1_at hk h];rfl)
  | @step k t l h ht _ ih=>
   intro hk
   exact .step (sub1_at hk h) (List.mem_map.mpr ⟨t,ht,rfl⟩) (ih (hcl k hk l h t ht))
 have at_:∀i,i<O.length->∃k∈O,O.idxOf k=i:=fun i hi=>⟨O[i],List.getElem_mem _,hnd.idxOf_getElem i hi⟩
 have mem:∀l∈sub1 N O,∃k∈O,∃l',N[k]? = some l'/\l=l'.map fun t=>O.idxOf t:=by
  intro l hl
  obtain⟨k,hk,rfl⟩:=List.mem_map.mp hl
  refine⟨k,hk,N[k]'(hlt k hk),by simp[hlt k hk],?_⟩
  simp[List.getD,hlt k hk]
 refine⟨?_,?_,fun l hl=>?_,fun l hl t ht=>?_,fun i hi=>?_,fun i hi=>?_⟩
 ·rw[hlen]
  exact List.length_pos_of_mem h0
 ·rw[hlen]
  exact Nat.le_trans (nd_le _ _ hnd hlt) hN
 ·obtain⟨k,hk,l',e,rfl⟩:=mem l hl
  rw[List.length_map]
  exact hsm l' (List.mem_of_getElem? e)
 ·obtain⟨k,hk,l',e,rfl⟩:=mem l hl
  obtain⟨t',ht',rfl⟩:=List.mem_map.mp ht
  rw[hlen]
  exact idx_lt (hcl k hk l' e t' ht')
 ·rw[hlen]at hi
  obtain⟨k,hk,rfl⟩:=at_ i hi
  exact(rc k (hrc k hk)).2
 ·rw[hlen]at hi
  obtain⟨k,hk,rfl⟩:=at_ i hi
  exact gd k (hgd k (hlt k hk)) hk
end RD
namespace RD
open PySem PySem.Spec PyProof.Rows L2
structure Cn where
 C_Plan:Addr
 k_DEED_KINDS:Addr
 k_FIRST_STEP:Addr
structure CnOk(K:Fg)(c:Cn):Prop where
 cls_Plan:Cls K c.C_Plan
 na_Plan_entries:NoAttr K c.C_Plan "entries"
 na_Plan_nexts:NoAttr K c.C_Plan "nexts"
 na_Plan_rows:NoAttr K c.C_Plan "rows"
 t_DEED_KINDS:∀H,SqT K H c.k_DEED_KINDS [.str "plus", .str "minus", .str "times", .str "less", .str "same"]
 t_FIRST_STEP:∀H,SqT K H c.k_FIRST_STEP [.int (-1),.int (0)]
def t_bag(K:Fg):TS:=tRet (tLst (tCons (tC (.int 0)) (tCons (tC (.int 1234567891)) (tCons (tC (.int 0)) (tCons (tComp (iList K (tSl (rSlL K) (tVar 0) (tNoPart) (tPart (tC (.int 63))))) (tTrue) (tCB qAbs (tCons (tVar 0) (tNil)))) (tNil))))))
def sp_bag(K:Fg):Sp:=fun vs H Q _=>vs.length=1/\t_bag K { nx:=fun _ H'=>Q .non H',rt:=Q } (vs.map some++List.replicate (1 - vs.length) none) H
def t_take(K:Fg):TS:=tSeq (tIfS (tTest (tOp qEq (tOp qIx (tVar 0) (tC (.int 0))) (tC (.int 0)))) (tSeq (tAsg (tC (.int 12345)) (gName 2)) (tSeq (tIfS (tTest (tOp qLt (tOp qIx (tVar 0) (tC (.int 2))) (tCB qLen (tCons (tOp qIx (tVar 0) (tC (.int 3))) (tNil))))) (tSeq (tAsg (tOp qIx (tOp qIx (tVar 0) (tC (.int 3))) (tOp qIx (tVar 0) (tC (.int 2)))) (gName 3)) (tSeq (tAugS (tVar 0) (tC (.int 2)) (tC (.int 1)) qGet (ipI fun i j=>i+j) qSet) (tSeq (tIfS (tTest (tOp qGe (tVar 3) (tC (.int 1000000000000000000)))) (tAsg (tVar 3) (gSub (tVar 0) (tC (.int 0)) qSet)) (tNext)) (tAsg (tOp qAdd (tOp qMod (tVar 3) (tC (.int 2147483647))) (tC (.int 1))) (gName 2))))) (tNext)) (tAsg (tOp qMod (tOp qAdd (tOp qMul (tOp qIx (tVar 0) (tC (.int 1))) (tC (.int 48271))) (tVar 2)) (tC (.int 2147483647))) (gSub (tVar 0) (tC (.int 1)) qSet)))) (tNext)) (tSeq (tIfS (tTest (tOp qGt (tOp qIx (tVar 0) (tC (.int 0))) (tC (.int 0)))) (tSeq (tAsg (tOp qMod (tOp qIx (tVar 0) (tC (.int 0))) (tVar 1)) (gName 4)) (tSeq (tAsg (tOp qDiv (tOp qIx (tVar 0) (tC (.int 0))) (tVar 1)) (gSub (tVar 0) (tC (.int 0)) qSet)) (tRet (tVar 4)))) (tNext)) (tSeq (tAsg (tOp qMod (tOp qMul (tOp qIx (tVar 0) (tC (.int 1))) (tC (.int 39373))) (tC (.int 1000000007))) (gName 5)) (tSeq (tAsg (tOp qMod (tOp qMul (tVar 5) (tC (.int 30011))) (tC (.int 998244353))) (gName 6)) (tSeq (tIfS (tTest (tOp qGt (tVar 1) (tC (.int 1000000)))) (tRet (tOp qMod (tOp qAdd (tOp qMul (tVar 6) (tC (.int 1000000000))) (tVar 5)) (tVar 1))) (tNext)) (tRet (tOp qMod (tOp qDiv (tVar 6) (tC (.int 3))) (tVar 1)))))))
def sp_take(K:Fg):Sp:=fun vs H Q _=>vs.length=2/\t_take K { nx:=fun _ H'=>Q .non H',rt:=Q } (vs.map some++List.replicate (7 - vs.length) none) H
def t_net(K:Fg):TS:=tSeq (tAsg (tLst (tNil)) (gName 2)) (tSeq (tFor (iRng1 (tCons (tVar 1) (tNil))) (gName 3) (tSeq (tAsg (tCB qMin (tCons (tOp qAdd (tVar 3) (tC (.int 1))) (tCons (tOp qSub (tVar 1) (tC (.int 1))) (tNil)))) (gName 4)) (tSeq (tAsg (tLst (tCons (tVar 4) (tCons (tCall (sp_take K) [] E0 (tCons (tVar 0) (tCons (tVar 1) (tNil)))) (tNil)))) (gName 5)) (tSeq (tAsg (tCall (sp_take K) [] E0 (tCons (tVar 0) (tCons (tC (.int 8)) (tNil)))) (gName 6)) (tSeq (tIfS (tTest (tOp qLt (tVar 6) (tC (.int 3)))) (tAsg (tLst (tCons (tOp qIx (tVar 5) (tC (.int 1))) (tCons (tVar 4) (tNil)))) (gName 5)) (tNext)) (tSeq (tIfS (tTest (tOp qEq (tVar 6) (tC (.int 3)))) (tAsg (tLst (tCons (tOp qIx (tVar 5) (tC (.int 1))) (tCons (tCall (sp_take K) [] E0 (tCons (tVar 0) (tCons (tVar 1) (tNil)))) (tNil)))) (gName 5)) (tNext)) (tSeq (tIfS (tOr (tAnd (tTest (tOp qGt (tVar 6) (tC (.int 3)))) (tTest (tOp qLt (tVar 6) (tC (.int 7))))) (tTest (tOp qEq (tVar 1) (tC (.int 1))))) (tAsg (tLst (tCons (tVar 4) (tNil))) (gName 5)) (tNext)) (tSeq (tIfS (tAnd (tTest (tOp qEq (tVar 6) (tC (.int 7)))) (tTest (tOp qGt (tVar 1) (tC (.int 1))))) (tAsg (tLst (tCons (tOp qIx (tVar 5) (tC (.int 1))) (tNil))) (gName 5)) (tNext)) (tSeq (tIfS (tOr (tTest (tOp qEq (tVar 3) (tOp qSub (tVar 1) (tC (.int 1))))) (tAnd (tTest (tOp qEq (tVar 6) (tC (.int 6)))) (tTest (tOp qEq (tCall (sp_take K) [] E0 (tCons (tVar 0) (tCons (tC (.int 4)) (tNil)))) (tC (.int 0)))))) (tAsg (tLst (tNil)) (gName 5)) (tNext)) (tDrop (tBM K "list" qAppend (tVar 2) (tCons (tVar 5) (tNil))))))))))))) (tRet (tVar 2)))
def sp_net(K:Fg):Sp:=fun vs H Q _=>vs.length=2/\t_net K { nx:=fun _ H'=>Q .non H',rt:=Q } (vs.map some++List.replicate (7 - vs.length) none) H
def t_mended(K:Fg):TS:=tSeq (tAsg (tDNewK) (gName 1)) (tSeq (tFor (iRng1 (tCons (tCB qLen (tCons (tVar 0) (tNil))) (tNil))) (gName 2) (tFor (iRng1 (tCons (tCB qLen (tCons (tVar 0) (tNil))) (tNil))) (gName 3) (tIfS (tOr (tTest (tOp qEq (tOp qIx (tVar 0) (tVar 3)) (tLst (tNil)))) (tB (tCB qAny (tCons (tComp (iList K (tOp qIx (tVar 0) (tVar 3))) (tTrue) (tDIn (tVar 0) (tVar 2))) (tNil))))) (sDPut (tVar 1) (tVar 3) (tC (.bl true))) (tNext)))) (tSeq (tAsg (tComp (iRng1 (tCons (tCB qLen (tCons (tVar 0) (tNil))) (tNil))) (tTrue) (tIf (tB (tDIn (tVar 0) (tVar 2))) (tOp qIx (tVar 1) (tVar 0)) (tOp qAdd (tLst (tCons (tOp qSub (tCB qLen (tCons (tVar 1) (tNil))) (tC (.int 1))) (tNil))) (tSl qSl (tOp qIx (tVar 1) (tVar 0)) (tPart (tC (.int 1))) (tNoPart))))) (gName 0)) (tSeq (tAsg (tDisp ((tC (.int 0),tC (.bl true))::[])) (gName 4)) (tSeq (tFor (iRng1 (tCons (tCB qLen (tCons (tVar 0) (tNil))) (tNil))) (gName 2) (tFor (iRng1 (tCons (tCB qLen (tCons (tVar 0) (tNil))) (tNil))) (gName 3) (tIfS (tB (tDIn (tVar 3) (tVar 4))) (tFor (iList K (tOp qIx (tVar 0) (tVar 3))) (gName 5) (sDPut (tVar 4) (tVar 5) (tC (.bl true)))) (tNext)))) (tSeq (tAsg (tCB qSorted (tCons (tCB qListD (tCons (tVar 4) (tNil))) (tNil))) (gName 6)) (tRet (tComp (iList K (tVar 6)) (tTrue) (tComp (iList K (tOp qIx (tVar 1) (tVar 0))) (tTrue) (tBM K "list" qIndex (tVar 8) (tCons (tVar 0) (tNil)))))))))))
def sp_mended(K:Fg):Sp:=fun vs H Q _=>vs.length=1/\t_mended K { nx:=fun _ H'=>Q .non H',rt:=Q } (vs.map some++List.replicate (7 - vs.length) none) H
def t_name(K:Fg):TS:=tSeq (tAsg (tC (.str "abcdefghijklmnopqrstuvwxyz")) (gName 1)) (tSeq (tAsg (tOp qAdd (tVar 1) (tC (.str "0123456789"))) (gName 2)) (tRet (tOp qAdd (tOp qIx (tVar 1) (tCall (sp_take K) [] E0 (tCons (tVar 0) (tCons (tC (.int 26)) (tNil))))) (tBM K "str" qJoin (tC (.str "")) (tCons (tComp (iRng1 (tCons (tCall (sp_take K) [] E0 (tCons (tVar 0) (tCons (tC (.int 8)) (tNil)))) (tNil))) (tTrue) (tOp qIx (tVar 3) (tCall (sp_take K) [] E0 (tCons (tVar 1) (tCons (tC (.int 36)) (tNil)))))) (tNil))))))
def sp_name(K:Fg):Sp:=fun vs H Q _=>vs.length=1/\t_name K { nx:=fun _ H'=>Q .non H',rt:=Q } (vs.map some++List.replicate (3 - vs.length) none) H
def t_names(K:Fg):TS:=tSeq (tAsg (tLst (tCons (tC (.str "a")) (tCons (tC (.str "k0")) (tCons (tC (.str "ab")) (tCons (tC (.str "set")) (tCons (tC (.str "abc")) (tCons (tC (.str "k1")) (tCons (tC (.str "abcdefgh")) (tCons (tC (.str "b")) (tNil)))))))))) (gName 1)) (tSeq (tAsg (tOp qAdd (tVar 1) (tLst (tCons (tC (.str "ask")) (tCons (tC (.str "x9")) (tCons (tC (.str "a1")) (tCons (tC (.str "abcdefg")) (tCons (tC (.str "plus")) (tCons (tC (.str "ba")) (tCons (tC (.str "k10")) (tCons (tC (.str "z")) (tNil))))))))))) (gName 1)) (tSeq (tAsg (tCall (sp_take K) [] E0 (tCons (tVar 0) (tCons (tC (.int 16)) (tNil)))) (gName 2)) (tSeq (tAsg (tOp qAdd (tC (.int 1)) (tOp qMul (tC (.int 2)) (tCall (sp_take K) [] E0 (tCons (tVar 0) (tCons (tC (.int 8)) (tNil)))))) (gName 3)) (tSeq (tAsg (tLst (tNil)) (gName 4)) (tSeq (tFor (iRng1 (tCons (tOp qAdd (tC (.int 2)) (tCall (sp_take K) [] E0 (tCons (tVar 0) (tCons (tC (.int 3)) (tNil))))) (tNil))) (gName 5) (tSeq (tAsg (tOp qIx (tVar 1) (tOp qMod (tOp qAdd (tVar 2) (tOp qMul (tVar 5) (tVar 3))) (tC (.int 16)))) (gName 6)) (tSeq (tIfS (tTest (tOp qEq (tCall (sp_take K) [] E0 (tCons (tVar 0) (tCons (tC (.int 3)) (tNil)))) (tC (.int 0)))) (tAsg (tCall (sp_name K) [] E0 (tCons (tVar 0) (tNil))) (gName 6)) (tNext)) (tIfS (tTest (tOp (qIn true) (tVar 6) (tVar 4))) (tDrop (tBM K "list" qAppend (tVar 4) (tCons (tVar 6) (tNil)))) (tNext))))) (tRet (tVar 4)))))))
def sp_names(K:Fg):Sp:=fun vs H Q _=>vs.length=1/\t_names K { nx:=fun _ H'=>Q .non H',rt:=Q } (vs.map some++List.replicate (7 - vs.length) none) H
def t_value(K:Fg):TS:=tRet (tOp qIx (tLst (tCons (tC (.int 0)) (tCons (tC (.int 1)) (tCons (tOp qSub (tOp qSub (tOp qPow (tC (.int 10)) (tC (.int 12))) (tC (.int 1))) (tCall (sp_take K) [] E0 (tCons (tVar 0) (tCons (tC (.int 3)) (tNil))))) (tCons (tCall (sp_take K) [] E0 (tCons (tVar 0) (tCons (tC (.int 1000000000000)) (tNil)))) (tNil)))))) (tCall (sp_take K) [] E0 (tCons (tVar 0) (tCons (tC (.int 4)) (tNil)))))
def sp_value(K:Fg):Sp:=fun vs H Q _=>vs.length=1/\t_value K { nx:=fun _ H'=>Q .non H',rt:=Q } (vs.map some++List.replicate (1 - vs.length) none) H
def t_operand(K:Fg):TS:=tSeq (tIfS (tTest (tOp qEq (tCall (sp_take K) [] E0 (tCons (tVar 0) (tCons (tC (.int 4)) (tNil)))) (tC (.int 0)))) (tRet (tCall (sp_value K) [] E0 (tCons (tVar 0) (tNil)))) (tNext)) (tRet (tOp qIx (tVar 1) (tCall (sp_take K) [] E0 (tCons (tVar 0) (tCons (tCB qLen (tCons (tVar 1) (tNil))) (tNil))))))
def sp_operand(K:Fg):Sp:=fun vs H Q _=>vs.length=2/\t_operand K { nx:=fun _ H'=>Q .non H',rt:=Q } (vs.map some++List.replicate (2 - vs.length) none) H
def t_deed(K:Fg):TS:=tSeq (tAsg (tOp qIx (tLst (tCons (tC (.str "plus")) (tCons (tC (.str "minus")) (tCons (tC (.str "times")) (tCons (tC (.str "less")) (tCons (tC (.str "same")) (tNil))))))) (tCall (sp_take K) [] E0 (tCons (tVar 0) (tCons (tC (.int 5)) (tNil))))) (gName 2)) (tSeq (tAsg (tCall (sp_operand K) [] E0 (tCons (tVar 0) (tCons (tVar 1) (tNil)))) (gName 3)) (tSeq (tAsg (tCall (sp_operand K) [] E0 (tCons (tVar 0) (tCons (tVar 1) (tNil)))) (gName 4)) (tSeq (tIfS (tTest (tOp qEq (tCall (sp_take K) [] E0 (tCons (tVar 0) (tCons (tC (.int 6)) (tNil)))) (tC (.int 0)))) (tAsg (tVar 3) (gName 4)) (tNext)) (tRet (tTup (tCons (tVar 2) (tCons (tVar 3) (tCons (tVar 4) (tNil)))))))))
def sp_deed(K:Fg):Sp:=fun vs H Q _=>vs.length=2/\t_deed K { nx:=fun _ H'=>Q .non H',rt:=Q } (vs.map some++List.replicate (5 - vs.length) none) H
def t_row(K:Fg):TS:=tSeq (tIfS (tTest (tOp qEq (tVar 3) (tC (.int 2)))) (tRet (tTup (tCons (tC (.str "ask")) (tCons (tCall (sp_operand K) [] E0 (tCons (tVar 0) (tCons (tVar 1) (tNil)))) (tNil))))) (tNext)) (tSeq (tAsg (tCall (sp_take K) [] E0 (tCons (tVar 0) (tCons (tC (.int 8)) (tNil)))) (gName 4)) (tSeq (tAsg (tOp qIx (tVar 1) (tCall (sp_take K) [] E0 (tCons (tVar 0) (tCons (tCB qLen (tCons (tVar 1) (tNil))) (tNil))))) (gName 5)) (tSeq (tIfS (tTest (tOp qLt (tVar 4) (tC (.int 5)))) (tRet (tTup (tCons (tC (.str "set")) (tCons (tVar 5) (tCons (tOp qIx (tVar 2) (tCall (sp_take K) [] E0 (tCons (tVar 0) (tCons (tCB qLen (tCons (tVar 2) (tNil))) (tNil))))) (tNil)))))) (tNext)) (tSeq (tIfS (tTest (tOp qEq (tVar 4) (tC (.int 5)))) (tRet (tTup (tCons (tC (.str "copy")) (tCons (tVar 5) (tCons (tCall (sp_operand K) [] E0 (tCons (tVar 0) (tCons (tVar 1) (tNil)))) (tNil)))))) (tNext)) (tSeq (tIfS (tTest (tOp qEq (tVar 4) (tC (.int 6)))) (tRet (tTup (tCons (tC (.str "take")) (tCons (tVar 5) (tNil))))) (tNext)) (tRet (tOp qIx (tLst (tCons (tTup (tCons (tC (.str "tell")) (tCons (tCall (sp_operand K) [] E0 (tCons (tVar 0) (tCons (tVar 1) (tNil)))) (tNil)))) (tCons (tTup (tCons (tC (.str "skip")) (tNil))) (tNil)))) (tCall (sp_take K) [] E0 (tCons (tVar 0) (tCons (tC (.int 2)) (tNil)))))))))))
def sp_row(K:Fg):Sp:=fun vs H Q _=>vs.length=4/\t_row K { nx:=fun _ H'=>Q .non H',rt:=Q } (vs.map some++List.replicate (6 - vs.length) none) H
def t_drawn(K:Fg):TS:=tSeq (tAsg (tOp qAdd (tC (.int 1)) (tCall (sp_take K) [] E0 (tCons (tVar 0) (tCons (tC (.int 9)) (tNil))))) (gName 1)) (tSeq (tIfS (tTest (tOp qEq (tCall (sp_take K) [] E0 (tCons (tVar 0) (tCons (tC (.int 8)) (tNil)))) (tC (.int 0)))) (tAsg (tOp qAdd (tC (.int 15)) (tCall (sp_take K) [] E0 (tCons (tVar 0) (tCons (tC (.int 10)) (tNil))))) (gName 1)) (tNext)) (tSeq (tAsg (tCall (sp_mended K) [] E0 (tCons (tCall (sp_net K) [] E0 (tCons (tVar 0) (tCons (tVar 1) (tNil)))) (tNil))) (gName 2)) (tSeq (tAsg (tCall (sp_names K) [] E0 (tCons (tVar 0) (tNil))) (gName 3)) (tSeq (tAsg (tComp (iRng1 (tCons (tOp qAdd (tC (.int 1)) (tCall (sp_take K) [] E0 (tCons (tVar 0) (tCons (tC (.int 3)) (tNil))))) (tNil))) (tTrue) (tCall (sp_deed K) [] E0 (tCons (tVar 1) (tCons (tVar 4) (tNil))))) (gName 4)) (tRet (tTup (tCons (tComp (iList K (tVar 2)) (tTrue) (tCall (sp_row K) [] E0 (tCons (tVar 1) (tCons (tVar 4) (tCons (tVar 5) (tCons (tCB qLen (tCons (tVar 0) (tNil))) (tNil))))))) (tCons (tVar 2) (tNil)))))))))
def sp_drawn(K:Fg):Sp:=fun vs H Q _=>vs.length=1/\t_drawn K { nx:=fun _ H'=>Q .non H',rt:=Q } (vs.map some++List.replicate (5 - vs.length) none) H
def t_Plan_leads_to(K:Fg)(c:Cn):TS:=tSeq (tIfS (tTest (tOp (qEqK K) (tVar 1) (tC (.ref c.k_FIRST_STEP)))) (tRet (tC (.int 0))) (tNext)) (tRet (tOp qIx (tOp qIx (tFld K (tVar 0) "nexts") (tOp qIx (tVar 1) (tC (.int 0)))) (tOp qIx (tVar 1) (tC (.int 1)))))
def sp_Plan_leads_to(K:Fg)(c:Cn):Sp:=fun vs H Q _=>vs.length=2/\t_Plan_leads_to K c { nx:=fun _ H'=>Q .non H',rt:=Q } (vs.map some++List.replicate (2 - vs.length) none) H
def t_places_of(K:Fg)(c:Cn):TS:=tRet (tComp (iList K (tVar 1)) (tTrue) (tMeth c.C_Plan "leads_to" (sp_Plan_leads_to K c) [] E0 (tVar 1) (tCons (tVar 0) (tNil))))
def sp_places_of(K:Fg)(c:Cn):Sp:=fun vs H Q _=>vs.length=2/\t_places_of K c { nx:=fun _ H'=>Q .non H',rt:=Q } (vs.map some++List.replicate (2 - vs.length) none) H
def t_shortest(K:Fg):TS:=tSeq (tAsg (tDNewK) (gName 2)) (tSeq (tFor (iRng1 (tCons (tCB qLen (tCons (tVar 0) (tNil))) (tNil))) (gName 3) (tFor (iRng1 (tCons (tCB qLen (tCons (tVar 0) (tNil))) (tNil))) (gName 4) (tSeq (tIfS (tAnd (tTest (tOp qEq (tOp qIx (tVar 0) (tVar 4)) (tLst (tNil)))) (tB (tDNotIn (tVar 4) (tVar 2)))) (sDPut (tVar 2) (tVar 4) (tLst (tNil))) (tNext)) (tFor (iRng1 (tCons (tCB qLen (tCons (tOp qIx (tVar 0) (tVar 4)) (tNil))) (tNil))) (gName 5) (tIfS (tAnd (tB (tDNotIn (tVar 4) (tVar 2))) (tB (tDIn (tOp qIx (tOp qIx (tVar 0) (tVar 4)) (tVar 5)) (tVar 2)))) (sDPut (tVar 2) (tVar 4) (tOp qAdd (tLst (tCons (tTup (tCons (tVar 4) (tCons (tVar 5) (tNil)))) (tNil))) (tDGet (tVar 2) (tOp qIx (tOp qIx (tVar 0) (tVar 4)) (tVar 5))))) (tNext)))))) (tRet (tDGet (tVar 2) (tVar 1))))
def sp_shortest(K:Fg):Sp:=fun vs H Q _=>vs.length=2/\t_shortest K { nx:=fun _ H'=>Q .non H',rt:=Q } (vs.map some++List.replicate (6 - vs.length) none) H
def t_walk(K:Fg):TS:=tSeq (tAsg (tLst (tCons (tTup (tCons (tUn (rU fun i=>.int (-i)) (tC (.int 1))) (tCons (tC (.int 0)) (tNil)))) (tNil))) (gName 2)) (tSeq (tAsg (tC (.int 0)) (gName 3)) (tSeq (tIfS (tTest (tOp qEq (tCall (sp_take K) [] E0 (tCons (tVar 0) (tCons (tC (.int 2)) (tNil)))) (tC (.int 0)))) (tSeq (tAsg (tCall (sp_take K) [] E0 (tCons (tVar 0) (tCons (tCB qLen (tCons (tVar 1) (tNil))) (tNil)))) (gName 3)) (tAsg (tLst (tNil)) (gName 2))) (tNext)) (tSeq (tFor (iRng1 (tCons (tCall (sp_take K) [] E0 (tCons (tVar 0) (tCons (tC (.int 12)) (tNil)))) (tNil))) (gName 4) (tIfS (tTest (tOp qNe (tOp qIx (tVar 1) (tVar 3)) (tLst (tNil)))) (tSeq (tAsg (tCall (sp_take K) [] E0 (tCons (tVar 0) (tCons (tCB qLen (tCons (tOp qIx (tVar 1) (tVar 3)) (tNil))) (tNil)))) (gName 5)) (tSeq (tDrop (tBM K "list" qAppend (tVar 2) (tCons (tTup (tCons (tVar 3) (tCons (tVar 5) (tNil)))) (tNil)))) (tAsg (tOp qIx (tOp qIx (tVar 1) (tVar 3)) (tVar 5)) (gName 3)))) (tNext))) (tSeq (tIfS (tTest (tOp qEq (tCall (sp_take K) [] E0 (tCons (tVar 0) (tCons (tC (.int 2)) (tNil)))) (tC (.int 0)))) (tAsg (tOp qAdd (tVar 2) (tCall (sp_shortest K) [] E0 (tCons (tVar 1) (tCons (tVar 3) (tNil))))) (gName 2)) (tNext)) (tRet (tVar 2))))))
def sp_walk(K:Fg):Sp:=fun vs H Q _=>vs.length=2/\t_walk K { nx:=fun _ H'=>Q .non H',rt:=Q } (vs.map some++List.replicate (6 - vs.length) none) H
def t_whole(K:Fg):TS:=tRet (tAndV (tCB qIsi (tCons (tVar 0) (tCons (tC (.ty "int")) (tNil)))) (tNotV (tCB qIsi (tCons (tVar 0) (tCons (tC (.ty "bool")) (tNil))))))
def sp_whole(K:Fg):Sp:=fun vs H Q _=>vs.length=1/\t_whole K { nx:=fun _ H'=>Q .non H',rt:=Q } (vs.map some++List.replicate (1 - vs.length) none) H
def t_step(K:Fg):TS:=tSeq (tIfS (tOr (tNot (tB (tCB qIsi (tCons (tVar 1) (tCons (tC (.ty "tuple")) (tNil)))))) (tOr (tTest (tOp qNe (tCB qLen (tCons (tVar 1) (tNil))) (tC (.int 2)))) (tOr (tNot (tB (tCall (sp_whole K) [] E0 (tCons (tOp qIx (tVar 1) (tC (.int 0))) (tNil))))) (tNot (tB (tCall (sp_whole K) [] E0 (tCons (tOp qIx (tVar 1) (tC (.int 1))) (tNil)))))))) (tRet (tC .non)) (tNext)) (tSeq (tIfS (tTest (tOp qEq (tVar 1) (tTup (tCons (tUn (rU fun i=>.int (-i)) (tC (.int 1))) (tCons (tC (.int 0)) (tNil)))))) (tRet (tC (.int 0))) (tNext)) (tSeq (tIfS (tAnd (tTest (tChain qLe qLt (tC (.int 0)) (tOp qIx (tVar 1) (tC (.int 0))) (tCB qLen (tCons (tVar 0) (tNil))))) (tTest (tChain qLe qLt (tC (.int 0)) (tOp qIx (tVar 1) (tC (.int 1))) (tCB qLen (tCons (tOp qIx (tVar 0) (tOp qIx (tVar 1) (tC (.int 0)))) (tNil)))))) (tRet (tOp qIx (tOp qIx (tVar 0) (tOp qIx (tVar 1) (tC (.int 0)))) (tOp qIx (tVar 1) (tC (.int 1))))) (tNext)) (tRet (tC .non))))
def sp_step(K:Fg):Sp:=fun vs H Q _=>vs.length=2/\t_step K { nx:=fun _ H'=>Q .non H',rt:=Q } (vs.map some++List.replicate (2 - vs.length) none) H
def t_places(K:Fg):TS:=tSeq (tIfS (tOr (tNot (tB (tCB qIsi (tCons (tVar 1) (tCons (tC (.ty "list")) (tNil)))))) (tTest (tOp qEqE (tVar 1) (tLst (tNil))))) (tRet (tC .non)) (tNext)) (tSeq (tAsg (tLst (tNil)) (gName 2)) (tSeq (tFor (iList K (tVar 1)) (gName 3) (tSeq (tAsg (tCall (sp_step K) [] E0 (tCons (tVar 0) (tCons (tVar 3) (tNil)))) (gName 4)) (tSeq (tIfS (tOr (tTest (tOp qIs (tVar 4) (tC .non))) (tAnd (tTest (tOp qNe (tVar 2) (tLst (tNil)))) (tTest (tOp qNe (tOp qIx (tVar 3) (tC (.int 0))) (tOp qIx (tVar 2) (tUn (rU fun i=>.int (-i)) (tC (.int 1)))))))) (tRet (tC .non)) (tNext)) (tDrop (tBM K "list" qAppend (tVar 2) (tCons (tVar 4) (tNil))))))) (tRet (tVar 2))))
def sp_places(K:Fg):Sp:=fun vs H Q _=>vs.length=2/\t_places K { nx:=fun _ H'=>Q .non H',rt:=Q } (vs.map some++List.replicate (5 - vs.length) none) H
def t_is_whole(K:Fg):TS:=tRet (tAndV (tCB qIsi (tCons (tVar 0) (tCons (tC (.ty "int")) (tNil)))) (tNotV (tCB qIsi (tCons (tVar 0) (tCons (tC (.ty "bool")) (tNil))))))
def sp_is_whole(K:Fg):Sp:=fun vs H Q _=>vs.length=1/\t_is_whole K { nx:=fun _ H'=>Q .non H',rt:=Q } (vs.map some++List.replicate (1 - vs.length) none) H
def t_is_below(K:Fg):TS:=tRet (tAndV (tCall (sp_is_whole K) [] E0 (tCons (tVar 0) (tNil))) (tChain qLe qLt (tC (.int 0)) (tVar 0) (tVar 1)))
def sp_is_below(K:Fg):Sp:=fun vs H Q _=>vs.length=2/\t_is_below K { nx:=fun _ H'=>Q .non H',rt:=Q } (vs.map some++List.replicate (2 - vs.length) none) H
def t_is_step(K:Fg)(c:Cn):TS:=tSeq (tIfS (tOr (tNot (tB (tCB qIsi (tCons (tVar 1) (tCons (tC (.ty "tuple")) (tNil)))))) (tTest (tOp qNe (tCB qLen (tCons (tVar 1) (tNil))) (tC (.int 2))))) (tRet (tC (.bl false))) (tNext)) (tSeq (tIfS (tOr (tNot (tB (tCall (sp_is_whole K) [] E0 (tCons (tOp qIx (tVar 1) (tC (.int 0))) (tNil))))) (tNot (tB (tCall (sp_is_whole K) [] E0 (tCons (tOp qIx (tVar 1) (tC (.int 1))) (tNil)))))) (tRet (tC (.bl false))) (tNext)) (tSeq (tIfS (tTest (tOp (qEqK K) (tVar 1) (tC (.ref c.k_FIRST_STEP)))) (tRet (tC (.bl true))) (tNext)) (tRet (tAndV (tCall (sp_is_below K) [] E0 (tCons (tOp qIx (tVar 1) (tC (.int 0))) (tCons (tCB qLen (tCons (tFld K (tVar 0) "nexts") (tNil))) (tNil)))) (tCall (sp_is_below K) [] E0 (tCons (tOp qIx (tVar 1) (tC (.int 1))) (tCons (tCB qLen (tCons (tOp qIx (tFld K (tVar 0) "nexts") (tOp qIx (tVar 1) (tC (.int 0)))) (tNil))) (tNil))))))))
def sp_is_step(K:Fg)(c:Cn):Sp:=fun vs H Q _=>vs.length=2/\t_is_step K c { nx:=fun _ H'=>Q .non H',rt:=Q } (vs.map some++List.replicate (2 - vs.length) none) H
def t_is_way(K:Fg)(c:Cn):TS:=tSeq (tIfS (tOr (tNot (tB (tCB qIsi (tCons (tVar 1) (tCons (tC (.ty "list")) (tNil)))))) (tTest (tOp qEq (tCB qLen (tCons (tVar 1) (tNil))) (tC (.int 0))))) (tRet (tC (.bl false))) (tNext)) (tSeq (tIfS (tNot (tB (tCB qAll (tCons (tComp (iList K (tVar 1)) (tTrue) (tCall (sp_is_step K c) [] E0 (tCons (tVar 1) (tCons (tVar 0) (tNil))))) (tNil))))) (tRet (tC (.bl false))) (tNext)) (tRet (tCB qAll (tCons (tComp (iRng2 (tCons (tC (.int 1)) (tCons (tCB qLen (tCons (tVar 1) (tNil))) (tNil)))) (tTrue) (tOp qEq (tMeth c.C_Plan "leads_to" (sp_Plan_leads_to K c) [] E0 (tVar 1) (tCons (tOp qIx (tVar 2) (tOp qSub (tVar 0) (tC (.int 1)))) (tNil))) (tOp qIx (tOp qIx (tVar 2) (tVar 0)) (tC (.int 0))))) (tNil)))))
def sp_is_way(K:Fg)(c:Cn):Sp:=fun vs H Q _=>vs.length=2/\t_is_way K c { nx:=fun _ H'=>Q .non H',rt:=Q } (vs.map some++List.replicate (2 - vs.length) none) H
def t_is_whole_way(K:Fg)(c:Cn):TS:=tSeq (tIfS (tOr (tNot (tB (tCall (sp_is_way K c) [] E0 (tCons (tVar 0) (tCons (tVar 1) (tNil)))))) (tTest (tOp (qNeK K) (tOp qIx (tVar 1) (tC (.int 0))) (tC (.ref c.k_FIRST_STEP))))) (tRet (tC (.bl false))) (tNext)) (tRet (tOp qEq (tCB qLen (tCons (tOp qIx (tFld K (tVar 0) "nexts") (tMeth c.C_Plan "leads_to" (sp_Plan_leads_to K c) [] E0 (tVar 0) (tCons (tOp qIx (tVar 1) (tUn (rU fun i=>.int (-i)) (tC (.int 1)))) (tNil)))) (tNil))) (tC (.int 0))))
def sp_is_whole_way(K:Fg)(c:Cn):Sp:=fun vs H Q _=>vs.length=2/\t_is_whole_way K c { nx:=fun _ H'=>Q .non H',rt:=Q } (vs.map some++List.replicate (2 - vs.length) none) H
def t_asked(K:Fg)(c:Cn):TS:=tSeq (tAsg (tVar 2) (gName 3)) (tSeq (tIfS (tB (tCB qIsi (tCons (tVar 2) (tCons (tC (.ty "list")) (tNil))))) (tAsg (tCB qList (tCons (tVar 2) (tNil))) (gName 3)) (tNext)) (tSeq (tAsg (tCall (sp_places K) [] E0 (tCons (tVar 1) (tCons (tVar 2) (tNil)))) (gName 4)) (tSeq (tAsg (tCall (sp_is_way K c) [] E0 (tCons (tVar 0) (tCons (tVar 2) (tNil)))) (gName 5)) (tSeq (tIfS (tOr (tNot (tB (tCB qIsi (tCons (tVar 5) (tCons (tC (.ty "bool")) (tNil)))))) (tTest (tOp qNe (tVar 5) (tOp qIsNot (tVar 4) (tC .non))))) (tRet (tC (.bl false))) (tNext)) (tSeq (tAsg (tCall (sp_is_whole_way K c) [] E0 (tCons (tVar 0) (tCons (tVar 2) (tNil)))) (gName 5)) (tSeq (tAsg (tAndV (tOp qIsNot (tVar 4) (tC .non)) (tAndV (tOp qEq (tOp qIx (tVar 2) (tC (.int 0))) (tTup (tCons (tUn (rU fun i=>.int (-i)) (tC (.int 1))) (tCons (tC (.int 0)) (tNil))))) (tOp qEq (tOp qIx (tVar 1) (tOp qIx (tVar 4) (tUn (rU fun i=>.int (-i)) (tC (.int 1))))) (tLst (tNil))))) (gName 6)) (tSeq (tIfS (tOr (tNot (tB (tCB qIsi (tCons (tVar 5) (tCons (tC (.ty "bool")) (tNil)))))) (tOr (tTest (tOp qNe (tVar 5) (tVar 6))) (tTest (tOp (qNeX K) (tVar 3) (tVar 2))))) (tRet (tC (.bl false))) (tNext)) (tSeq (tIfS (tTest (tOp qIs (tVar 4) (tC .non))) (tRet (tC (.bl true))) (tNext)) (tSeq (tAsg (tCall (sp_places_of K c) [] E0 (tCons (tVar 0) (tCons (tVar 2) (tNil)))) (gName 7)) (tSeq (tIfS (tOr (tNot (tB (tCB qIsi (tCons (tVar 7) (tCons (tC (.ty "list")) (tNil)))))) (tOr (tTest (tOp qNe (tVar 7) (tVar 4))) (tNot (tB (tCall (sp_whole K) [] E0 (tCons (tOp qIx (tVar 7) (tC (.int 0))) (tNil))))))) (tRet (tC (.bl false))) (tNext)) (tSeq (tDrop (tBM0 K "list" qClear (tVar 7))) (tRet (tAndV (tOp qEq (tCall (sp_places_of K c) [] E0 (tCons (tVar 0) (tCons (tVar 2) (tNil)))) (tVar 4)) (tOp (qEqT K) (tVar 3) (tVar 2)))))))))))))))
def sp_asked(K:Fg)(c:Cn):Sp:=fun vs H Q _=>vs.length=3/\t_asked K c { nx:=fun _ H'=>Q .non H',rt:=Q } (vs.map some++List.replicate (8 - vs.length) none) H
def t_spoilt(K:Fg):TS:=tSeq (tAsg (tCall (sp_take K) [] E0 (tCons (tVar 0) (tCons (tOp qAdd (tCB qLen (tCons (tVar 1) (tNil))) (tC (.int 1))) (tNil)))) (gName 3)) (tSeq (tAsg (tCall (sp_take K) [] E0 (tCons (tVar 0) (tCons (tC (.int 7)) (tNil)))) (gName 4)) (tSeq (tAsg (tTup (tCons (tOp qSub (tCall (sp_take K) [] E0 (tCons (tVar 0) (tCons (tOp qAdd (tVar 2) (tC (.int 2))) (tNil)))) (tC (.int 1))) (tCons (tCall (sp_take K) [] E0 (tCons (tVar 0) (tCons (tC (.int 3)) (tNil)))) (tNil)))) (gName 5)) (tSeq (tIfS (tTest (tOp qEq (tVar 4) (tC (.int 0)))) (tRet (tOp qAdd (tOp qAdd (tSl qSl (tVar 1) (tNoPart) (tPart (tVar 3))) (tLst (tCons (tVar 5) (tNil)))) (tSl qSl (tVar 1) (tPart (tVar 3)) (tNoPart)))) (tNext)) (tSeq (tIfS (tTest (tOp qEq (tVar 4) (tC (.int 1)))) (tRet (tOp qAdd (tSl qSl (tVar 1) (tNoPart) (tPart (tVar 3))) (tSl qSl (tVar 1) (tPart (tOp qAdd (tVar 3) (tC (.int 1)))) (tNoPart)))) (tNext)) (tSeq (tIfS (tTest (tOp qEq (tVar 4) (tC (.int 2)))) (tRet (tOp qAdd (tOp qAdd (tSl qSl (tVar 1) (tNoPart) (tPart (tVar 3))) (tLst (tCons (tVar 5) (tNil)))) (tSl qSl (tVar 1) (tPart (tOp qAdd (tVar 3) (tC (.int 1)))) (tNoPart)))) (tNext)) (tSeq (tIfS (tTest (tOp qEq (tVar 4) (tC (.int 3)))) (tRet (tOp qAdd (tLst (tCons (tTup (tCons (tUn (rU fun i=>.int (-i)) (tC (.int 1))) (tCons (tC (.int 0)) (tNil)))) (tNil))) (tVar 1))) (tNext)) (tSeq (tIfS (tTest (tOp qEq (tVar 4) (tC (.int 4)))) (tRet (tOp qIx (tLst (tCons (tC .non) (tCons (tCB qTuple (tCons (tVar 1) (tNil))) (tCons (tC (.str "way")) (tCons (tDNewK) (tCons (tC (.int 0)) (tCons (tLst (tNil)) (tNil)))))))) (tCall (sp_take K) [] E0 (tCons (tVar 0) (tCons (tC (.int 6)) (tNil)))))) (tNext)) (tSeq (tIfS (tTest (tOp qLt (tVar 3) (tCB qLen (tCons (tVar 1) (tNil))))) (tSeq (tAsg (tOp qIx (tVar 1) (tVar 3)) (gTup K 2 (gCons (gName 6) (gCons (gName 7) (gNil))))) (tSeq (tAsg (tLst (tCons (tCB qList (tCons (tOp qIx (tVar 1) (tVar 3)) (tNil))) (tCons (tOp (rCatT K) (tOp qIx (tVar 1) (tVar 3)) (tTup (tCons (tC (.int 0)) (tNil)))) (tCons (tTup (tCons (tVar 6) (tCons (tC (.bl true)) (tNil)))) (tCons (tTup (tCons (tVar 6) (tCons (tC .non) (tNil)))) (tCons (tSl qSl (tOp qIx (tVar 1) (tVar 3)) (tNoPart) (tPart (tC (.int 1)))) (tCons (tC .non) (tCons (tC (.int 0)) (tCons (tTup (tCons (tC (.int 0)) (tCons (tUn (rU fun i=>.int (-i)) (tC (.int 1))) (tNil)))) (tNil)))))))))) (gName 8)) (tSeq (tAsg (tOp qAdd (tVar 8) (tLst (tCons (tTup (tCons (tUn (rU fun i=>.int (-i)) (tC (.int 2))) (tCons (tC (.int 0)) (tNil)))) (tCons (tTup (tCons (tUn (rU fun i=>.int (-i)) (tC (.int 2))) (tCons (tVar 7) (tNil)))) (tCons (tTup (tCons (tC (.bl true)) (tCons (tVar 7) (tNil)))) (tCons (tTup (tCons (tC (.bl false)) (tCons (tVar 7) (tNil)))) (tCons (tTup (tCons (tC .non) (tCons (tVar 7) (tNil)))) (tCons (tTup (tCons (tCB qStrI (tCons (tVar 6) (tNil))) (tCons (tVar 7) (tNil)))) (tNil))))))))) (gName 8)) (tRet (tOp qAdd (tOp qAdd (tSl qSl (tVar 1) (tNoPart) (tPart (tVar 3))) (tLst (tCons (tOp qIx (tVar 8) (tCall (sp_take K) [] E0 (tCons (tVar 0) (tCons (tC (.int 14)) (tNil))))) (tNil)))) (tSl qSl (tVar 1) (tPart (tOp qAdd (tVar 3) (tC (.int 1)))) (tNoPart))))))) (tNext)) (tRet (tOp qAdd (tVar 1) (tSl qSl (tVar 1) (tPart (tUn (rU fun i=>.int (-i)) (tC (.int 1)))) (tNoPart))))))))))))
def sp_spoilt(K:Fg):Sp:=fun vs H Q _=>vs.length=3/\t_spoilt K { nx:=fun _ H'=>Q .non H',rt:=Q } (vs.map some++List.replicate (9 - vs.length) none) H
def t_check_length(K:Fg):TS:=tSeq (tIfS (tOr (tNot (tB (tCB qIsi (tCons (tVar 0) (tCons (tC (.ty "list")) (tNil)))))) (tTest (tOp qLt (tCB qLen (tCons (tVar 0) (tNil))) (tVar 2)))) (fun _ _ _=>False) (tNext)) (tIfS (tTest (tOp qGt (tCB qLen (tCons (tVar 0) (tNil))) (tC (.int 400)))) (fun _ _ _=>False) (tNext))
def sp_check_length(K:Fg):Sp:=fun vs H Q _=>vs.length=3/\t_check_length K { nx:=fun _ H'=>Q .non H',rt:=Q } (vs.map some++List.replicate (3 - vs.length) none) H
def t_is_name(K:Fg):TS:=tSeq (tIfS (tOr (tNot (tB (tCB qIsi (tCons (tVar 0) (tCons (tC (.ty "str")) (tNil)))))) (tNot (tTest (tChain qLe qLe (tC (.int 1)) (tCB qLen (tCons (tVar 0) (tNil))) (tC (.int 8)))))) (tRet (tC (.bl false))) (tNext)) (tRet (tAndV (tOp (qIn false) (tOp qIx (tVar 0) (tC (.int 0))) (tC (.str "abcdefghijklmnopqrstuvwxyz"))) (tCB qAll (tCons (tComp (iStr (tVar 0)) (tTrue) (tOp (qIn false) (tVar 0) (tOp qAdd (tC (.str "abcdefghijklmnopqrstuvwxyz")) (tC (.str "0123456789"))))) (tNil)))))
def sp_is_name(K:Fg):Sp:=fun vs H Q _=>vs.length=1/\t_is_name K { nx:=fun _ H'=>Q .non H',rt:=Q } (vs.map some++List.replicate (1 - vs.length) none) H
def t_is_value(K:Fg):TS:=tRet (tAndV (tCall (sp_is_whole K) [] E0 (tCons (tVar 0) (tNil))) (tChain qLe qLt (tC (.int 0)) (tVar 0) (tC (.int 1000000000000))))
def sp_is_value(K:Fg):Sp:=fun vs H Q _=>vs.length=1/\t_is_value K { nx:=fun _ H'=>Q .non H',rt:=Q } (vs.map some++List.replicate (1 - vs.length) none) H
def t_is_operand(K:Fg):TS:=tRet (tOrV (tCall (sp_is_name K) [] E0 (tCons (tVar 0) (tNil))) (tCall (sp_is_value K) [] E0 (tCons (tVar 0) (tNil))))
def sp_is_operand(K:Fg):Sp:=fun vs H Q _=>vs.length=1/\t_is_operand K { nx:=fun _ H'=>Q .non H',rt:=Q } (vs.map some++List.replicate (1 - vs.length) none) H
def t_is_deed(K:Fg)(c:Cn):TS:=tSeq (tIfS (tOr (tNot (tB (tCB qIsi (tCons (tVar 0) (tCons (tC (.ty "tuple")) (tNil)))))) (tTest (tOp qNe (tCB qLen (tCons (tVar 0) (tNil))) (tC (.int 3))))) (tRet (tC (.bl false))) (tNext)) (tRet (tAndV (tOp (qInK K) (tOp qIx (tVar 0) (tC (.int 0))) (tC (.ref c.k_DEED_KINDS))) (tAndV (tCall (sp_is_operand K) [] E0 (tCons (tOp qIx (tVar 0) (tC (.int 1))) (tNil))) (tCall (sp_is_operand K) [] E0 (tCons (tOp qIx (tVar 0) (tC (.int 2))) (tNil))))))
def sp_is_deed(K:Fg)(c:Cn):Sp:=fun vs H Q _=>vs.length=1/\t_is_deed K c { nx:=fun _ H'=>Q .non H',rt:=Q } (vs.map some++List.replicate (1 - vs.length) none) H
def t_is_row(K:Fg)(c:Cn):TS:=tSeq (tIfS (tOr (tNot (tB (tCB qIsi (tCons (tVar 0) (tCons (tC (.ty "tuple")) (tNil)))))) (tTest (tOp qEq (tCB qLen (tCons (tVar 0) (tNil))) (tC (.int 0))))) (tRet (tC (.bl false))) (tNext)) (tSeq (tAsg (tOp qIx (tVar 0) (tC (.int 0))) (gName 1)) (tSeq (tAsg (tSl qSl (tVar 0) (tPart (tC (.int 1))) (tNoPart)) (gName 2)) (tSeq (tIfS (tTest (tOp qEq (tVar 1) (tC (.str "set")))) (tRet (tAndV (tOp qEq (tCB qLen (tCons (tVar 2) (tNil))) (tC (.int 2))) (tAndV (tCall (sp_is_name K) [] E0 (tCons (tOp qIx (tVar 2) (tC (.int 0))) (tNil))) (tCall (sp_is_deed K c) [] E0 (tCons (tOp qIx (tVar 2) (tC (.int 1))) (tNil)))))) (tNext)) (tSeq (tIfS (tTest (tOp qEq (tVar 1) (tC (.str "copy")))) (tRet (tAndV (tOp qEq (tCB qLen (tCons (tVar 2) (tNil))) (tC (.int 2))) (tAndV (tCall (sp_is_name K) [] E0 (tCons (tOp qIx (tVar 2) (tC (.int 0))) (tNil))) (tCall (sp_is_operand K) [] E0 (tCons (tOp qIx (tVar 2) (tC (.int 1))) (tNil)))))) (tNext)) (tSeq (tIfS (tTest (tOp qEq (tVar 1) (tC (.str "take")))) (tRet (tAndV (tOp qEq (tCB qLen (tCons (tVar 2) (tNil))) (tC (.int 1))) (tCall (sp_is_name K) [] E0 (tCons (tOp qIx (tVar 2) (tC (.int 0))) (tNil))))) (tNext)) (tSeq (tIfS (tTest (tOp (qIn false) (tVar 1) (tTup (tCons (tC (.str "tell")) (tCons (tC (.str "ask")) (tNil)))))) (tRet (tAndV (tOp qEq (tCB qLen (tCons (tVar 2) (tNil))) (tC (.int 1))) (tCall (sp_is_operand K) [] E0 (tCons (tOp qIx (tVar 2) (tC (.int 0))) (tNil))))) (tNext)) (tRet (tAndV (tOp qEq (tVar 1) (tC (.str "skip"))) (tOp qEq (tCB qLen (tCons (tVar 2) (tNil))) (tC (.int 0)))))))))))
def sp_is_row(K:Fg)(c:Cn):Sp:=fun vs H Q _=>vs.length=1/\t_is_row K c { nx:=fun _ H'=>Q .non H',rt:=Q } (vs.map some++List.replicate (3 - vs.length) none) H
def t_check_each(K:Fg):TS:=tFor (iEnum K (tCons (tVar 0) (tNil))) (gTup K 2 (gCons (gName 1) (gCons (gName 2) (gNil)))) (tIfS (tNot (tB (tVar 2))) (fun _ _ _=>False) (tNext))
def sp_check_each(K:Fg):Sp:=fun vs H Q _=>vs.length=1/\t_check_each K { nx:=fun _ H'=>Q .non H',rt:=Q } (vs.map some++List.replicate (3 - vs.length) none) H
def t_are_nexts(K:Fg):TS:=tSeq (tIfS (tNot (tB (tCB qIsi (tCons (tVar 1) (tCons (tC (.ty "list")) (tNil)))))) (tRet (tC (.bl false))) (tNext)) (tSeq (tAsg (tIf (tTest (tOp qEq (tOp qIx (tVar 0) (tC (.int 0))) (tC (.str "ask")))) (tTup (tCons (tC (.int 2)) (tNil))) (tTup (tCons (tC (.int 0)) (tCons (tC (.int 1)) (tNil))))) (gName 3)) (tRet (tAndV (tOp (qIn false) (tCB qLen (tCons (tVar 1) (tNil))) (tVar 3)) (tCB qAll (tCons (tComp (iList K (tVar 1)) (tTrue) (tCall (sp_is_below K) [] E0 (tCons (tVar 0) (tCons (tVar 3) (tNil))))) (tNil))))))
def sp_are_nexts(K:Fg):Sp:=fun vs H Q _=>vs.length=3/\t_are_nexts K { nx:=fun _ H'=>Q .non H',rt:=Q } (vs.map some++List.replicate (4 - vs.length) none) H
def t_check_nexts(K:Fg):TS:=tSeq (tIfS (tOr (tNot (tB (tCB qIsi (tCons (tVar 1) (tCons (tC (.ty "list")) (tNil)))))) (tTest (tOp qNe (tCB qLen (tCons (tVar 1) (tNil))) (tCB qLen (tCons (tVar 0) (tNil)))))) (fun _ _ _=>False) (tNext)) (tDrop (tCall (sp_check_each K) [] E0 (tCons (tCompP K (iZip K (tCons (tVar 0) (tCons (tVar 1) (tNil)))) (tTrue) (tCall (sp_are_nexts K) [] E0 (tCons (tVar 0) (tCons (tVar 1) (tCons (tCB qLen (tCons (tVar 2) (tNil))) (tNil)))))) (tNil))))
def sp_check_nexts(K:Fg):Sp:=fun vs H Q _=>vs.length=2/\t_check_nexts K { nx:=fun _ H'=>Q .non H',rt:=Q } (vs.map some++List.replicate (2 - vs.length) none) H
def t_reached(K:Fg):TS:=tSeq (tAsg (tDNewK) (gName 2)) (tSeq (tAsg (tCB qList (tCons (tVar 0) (tNil))) (gName 3)) (tSeq (tWhile (tTest (tOp qGt (tCB qLen (tCons (tVar 3) (tNil))) (tC (.int 0)))) (tSeq (tAsg (tBM0 K "list" qPop (tVar 3)) (gName 4)) (tIfS (tB (tDNotIn (tVar 4) (tVar 2))) (tSeq (sDPut (tVar 2) (tVar 4) (tC (.bl true))) (tDrop (tBM K "list" qExtend (tVar 3) (tCons (tOp qIx (tVar 1) (tVar 4)) (tNil))))) (tNext)))) (tRet (tVar 2))))
def sp_reached(K:Fg):Sp:=fun vs H Q _=>vs.length=2/\t_reached K { nx:=fun _ H'=>Q .non H',rt:=Q } (vs.map some++List.replicate (5 - vs.length) none) H
def t_turned(K:Fg):TS:=tSeq (fun D σ H=>(tComp (iList K (tVar 0)) (tTrue) (tLst (tNil))) σ H fun v H1=>D.nx (σ.set 1 (some v)) H1) (tSeq (tFor (iEnum K (tCons (tVar 0) (tNil))) (gTup K 2 (gCons (gName 2) (gCons (gName 3) (gNil)))) (tFor (iList K (tVar 3)) (gName 4) (tDrop (tBM K "list" qAppend (tOp qIx (tVar 1) (tVar 4)) (tCons (tVar 2) (tNil)))))) (tRet (tVar 1)))
def sp_turned(K:Fg):Sp:=fun vs H Q _=>vs.length=1/\t_turned K { nx:=fun _ H'=>Q .non H',rt:=Q } (vs.map some++List.replicate (5 - vs.length) none) H
def t_stops_of(K:Fg):TS:=tRet (tCompP K (iEnum K (tCons (tVar 0) (tNil))) (tTest (tOp qEq (tCB qLen (tCons (tVar 1) (tNil))) (tC (.int 0)))) (tVar 0))
def sp_stops_of(K:Fg):Sp:=fun vs H Q _=>vs.length=1/\t_stops_of K { nx:=fun _ H'=>Q .non H',rt:=Q } (vs.map some++List.replicate (1 - vs.length) none) H
def t_check_ways(K:Fg):TS:=tSeq (tAsg (tCall (sp_reached K) [] E0 (tCons (tLst (tCons (tC (.int 0)) (tNil))) (tCons (tVar 0) (tNil)))) (gName 1)) (tSeq (tAsg (tCall (sp_reached K) [] E0 (tCons (tCall (sp_stops_of K) [] E0 (tCons (tVar 0) (tNil))) (tCons (tCall (sp_turned K) [] E0 (tCons (tVar 0) (tNil))) (tNil)))) (gName 2)) (tFor (iRng1 (tCons (tCB qLen (tCons (tVar 0) (tNil))) (tNil))) (gName 3) (tIfS (tOr (tB (tDNotIn (tVar 3) (tVar 1))) (tB (tDNotIn (tVar 3) (tVar 2)))) (fun _ _ _=>False) (tNext))))
def sp_check_ways(K:Fg):Sp:=fun vs H Q _=>vs.length=1/\t_check_ways K { nx:=fun _ H'=>Q .non H',rt:=Q } (vs.map some++List.replicate (4 - vs.length) none) H
def t_steps_of(K:Fg)(c:Cn):TS:=tSeq (tAsg (tLst (tCons (tC (.ref c.k_FIRST_STEP)) (tNil))) (gName 1)) (tSeq (tFor (iEnum K (tCons (tVar 0) (tNil))) (gTup K 2 (gCons (gName 2) (gCons (gName 3) (gNil)))) (tDrop (tBM K "list" qExtend (tVar 1) (tCons (tComp (iRng1 (tCons (tCB qLen (tCons (tVar 3) (tNil))) (tNil))) (tTrue) (tTup (tCons (tVar 3) (tCons (tVar 0) (tNil))))) (tNil))))) (tRet (tVar 1)))
def sp_steps_of(K:Fg)(c:Cn):Sp:=fun vs H Q _=>vs.length=1/\t_steps_of K c { nx:=fun _ H'=>Q .non H',rt:=Q } (vs.map some++List.replicate (4 - vs.length) none) H
def t_Plan_init(K:Fg)(c:Cn):TS:=tSeq (tDrop (tCall (sp_check_length K) [] E0 (tCons (tVar 1) (tCons (tC (.int 0)) (tCons (tC (.int 1)) (tNil)))))) (tSeq (tDrop (tCall (sp_check_each K) [] E0 (tCons (tComp (iList K (tVar 1)) (tTrue) (tCall (sp_is_row K c) [] E0 (tCons (tVar 0) (tNil)))) (tNil)))) (tSeq (tDrop (tCall (sp_check_nexts K) [] E0 (tCons (tVar 1) (tCons (tVar 2) (tNil))))) (tSeq (tDrop (tCall (sp_check_ways K) [] E0 (tCons (tVar 2) (tNil)))) (tSeq (sFld K (tVar 0) (tCB qList (tCons (tVar 1) (tNil))) "rows") (tSeq (sFld K (tVar 0) (tComp (iList K (tVar 2)) (tTrue) (tCB qList (tCons (tVar 0) (tNil)))) "nexts") (tSeq (sFld K (tVar 0) (tComp (iList K (tVar 1)) (tTrue) (tLst (tNil))) "entries") (tFor (iList K (tCall (sp_steps_of K c) [] E0 (tCons (tFld K (tVar 0) "nexts") (tNil)))) (gName 3) (tDrop (tBM K "list" qAppend (tOp qIx (tFld K (tVar 0) "entries") (tMeth c.C_Plan "leads_to" (sp_Plan_leads_to K c) [] E0 (tVar 0) (tCons (tVar 3) (tNil)))) (tCons (tVar 3) (tNil)))))))))))
def sp_Plan_init(K:Fg)(c:Cn):Sp:=fun vs H Q _=>vs.length=3/\t_Plan_init K c { nx:=fun _ H'=>Q .non H',rt:=Q } (vs.map some++List.replicate (4 - vs.length) none) H
def t_law(K:Fg)(c:Cn):TS:=tSeq (tAsg (tCall (sp_bag K) [] E0 (tCons (tVar 0) (tNil))) (gName 1)) (tSeq (tAsg (tCall (sp_drawn K) [] E0 (tCons (tVar 1) (tNil))) (gTup K 2 (gCons (gName 2) (gCons (gName 3) (gNil))))) (tSeq (tAsg (tMake c.C_Plan (sp_Plan_init K c) [] E0 (tCons (tVar 2) (tCons (tVar 3) (tNil)))) (gName 4)) (tSeq (tAsg (tCall (sp_places_of K c) [] E0 (tCons (tVar 4) (tCons (tLst (tNil)) (tNil)))) (gName 5)) (tSeq (tIfS (tOr (tNot (tB (tCB qIsi (tCons (tVar 5) (tCons (tC (.ty "list")) (tNil)))))) (tTest (tOp qNe (tVar 5) (tLst (tNil))))) (tRet (tC (.bl false))) (tNext)) (tSeq (tFor (iRng1 (tCons (tC (.int 4)) (tNil))) (gName 6) (tSeq (tAsg (tCall (sp_walk K) [] E0 (tCons (tVar 1) (tCons (tVar 3) (tNil)))) (gName 7)) (tIfS (tOr (tNot (tB (tCall (sp_asked K c) [] E0 (tCons (tVar 4) (tCons (tVar 3) (tCons (tVar 7) (tNil))))))) (tNot (tB (tCall (sp_asked K c) [] E0 (tCons (tVar 4) (tCons (tVar 3) (tCons (tCall (sp_spoilt K) [] E0 (tCons (tVar 1) (tCons (tVar 7) (tCons (tCB qLen (tCons (tVar 3) (tNil))) (tNil))))) (tNil)))))))) (tRet (tC (.bl false))) (tNext)))) (tRet (tC (.bl true))))))))
def sp_law(K:Fg):Sp:=fun vs H Q _=>vs.length=1/\∀c,CnOk K c->t_law K c { nx:=fun _ H'=>Q .non H',rt:=Q } (vs.map some++List.replicate (8 - vs.length) none) H
end RD
local macro_rules | `(tactic| walk_at "st") => `(tactic| (with_reducible first
 | refine RD.s_asg ?_ | refine RD.s_gname ?_ | refine RD.s_gsub ?_ | refine RD.s_ret ?_ | refine RD.s_drop ?_ | refine RD.s_if ?_ | refine RD.s_next ?_ | refine RD.s_test ?_ | refine RD.s_tB ?_ | refine RD.s_not ?_ | refine RD.s_and ?_ | refine RD.s_or ?_ | refine RD.s_andV ?_ | refine RD.s_orV ?_ | refine RD.s_notV ?_ | refine RD.s_ifE ?_ | refine RD.s_op ?_ | refine RD.s_chain ?_ | refine RD.s_un ?_ | refine RD.s_neg ?_ | refine RD.s_c ?_ | refine RD.s_cons ?_ | refine RD.s_nil ?_ | refine RD.s_call ?_ | refine RD.s_cb ?_ | refine RD.s_tup ?_ | refine RD.s_lst ?_ | refine RD.s_sl ?_ | refine RD.s_part ?_ | refine RD.s_nopart ?_ | refine RD.s_rev ?_ | refine RD.s_true ?_ | refine RD.s_augS ?_ | refine RD.s_bmS ?_
 | refine RD.s_var (by with_unfolding_all rfl) ?_ | refine Exists.intro _ (And.intro (Eq.refl (L2.V.bl _)) ?_) | refine Exists.intro _ (And.intro (Eq.refl (L2.V.int _)) ?_)
 | refine RD.q_add ?_ | refine RD.q_int0 ?_ | refine RD.q_ip ?_ | refine RD.q_abs ?_ | refine RD.q_eq rfl ?_ | refine RD.q_ne rfl ?_))
local macro_rules | `(tactic| walk_at "ev") => `(tactic| repeat walk_at "st")
local macro_rules | `(tactic| walk_at "go") => `(tactic| repeat (first | with_reducible refine RD.s_seq ?_ | walk_at "st"))
local macro_rules | `(tactic| ext) => `(tactic| walk_at "ev")
local macro_rules | `(tactic| exists $t:term) => `(tactic| (refine $t; walk_at "ev"))
local macro_rules | `(tactic| specialize $t:term) => `(tactic| (with_reducible refine $t; walk_at "ev"))
local macro_rules | `(tactic| nofun) => `(tactic| (with_reducible refine RD.s_seq ?_; walk_at "ev"))
namespace RD
open PySem PySem.Spec L2
section
variable {σ:St}{H1:Hp}{te:TE}{tt:TT}{D:Addr}
theorem s_istr{ta:TE}{H:Hp}{R:It->Hp->Prop}(h:ta σ H fun v H2=>∃x,v=.str x/\R (Its x) H2):iStr ta σ H R:=h
theorem comp_str{QD:Hp->Prop}{x:Str}(Pv:Nat->List V->Hp->Prop)(h0:Pv 0 [] (upd H1 D (.lst [])))(hP:∀i ys H,Pv i ys H->H D=some (.lst ys))
  (step:∀i c ys H2,x.cps[i]? = some c->Pv i ys H2->∀(R:VK) (R':Hp->Prop),(∀y H5,H5 D=some (.lst ys)->ys.length<sizeLine->Pv (i+1) (ys++[y]) (upd H5 D (.lst (ys++[y])))->R y H5)->(∀H4,Pv (i+1) ys H4->R' H4) ->
   tt (some (.str ⟨#[c]⟩)::σ) H2 fun ok H4=>if ok=true then te (some (.str ⟨#[c]⟩)::σ) H4 R else R' H4)
  (done:∀ys H2,Pv x.length ys H2->QD H2) :
  ∃W:Nat->Nat->List V->Hp->Prop,(∃m,W 0 m [] (upd H1 D (.lst [])))/\∀i m ys H2,W i m ys H2->H2 D=some (.lst ys) /\
   (((Its x).stop i H2 ∧ QD H2) ∨ ((Its x).go i H2 ∧ ∀ v H3, (Its x).yld i H2 v H3 → tt (some v :: σ) H3 fun ok H4 => if ok = true then
     te (some v::σ) H4 (fun y H5=>H5 D=some (.lst ys)/\ys.length<sizeLine/\∃m',m'<m/\W (i+1) m' (ys++[y]) (upd H5 D (.lst (ys++[y]))))
     else ∃m',m'<m/\W (i+1) m' ys H4)):=by
 refine⟨fun i m ys H=>m=x.length - i/\i<=x.length/\Pv i ys H,⟨x.length,rfl,Nat.zero_le _,h0⟩,?_⟩
 rintro i m ys H2 ⟨rfl,hi,p⟩
 refine⟨hP i ys H2 p,?_⟩
 by_cases hlt:i<x.length
 ·refine .inr ⟨hlt,fun v H3 y=>?_⟩
  obtain⟨e,c,hc,ev⟩:=y
  subst e ev
  exact step i c ys _ hc p _ _ (fun y H5 h1 h2 h3=>⟨h1,h2,x.length - (i+1),by omega,rfl,hlt,h3⟩) fun H4 h=>⟨x.length - (i+1),by omega,rfl,hlt,h⟩
 ·have e:i=x.length:=by omega
  subst e
  exact .inl ⟨Nat.le_refl _,done ys H2 p⟩
end
def sgn(S:Str)(c:Nat):Bool := !(Builtin.Str.occurrences S ⟨#[c]⟩ 0 S.length 1).isEmpty
theorem q_inS{S:Str}{c:Nat}{H:Hp}{Q:VK}(h:Q (.bl (sgn S c)) H):qIn false (.str ⟨#[c]⟩) (.str S) H Q:=h
abbrev LET:Str := "abcdefghijklmnopqrstuvwxyz"
abbrev SGN:Str := "abcdefghijklmnopqrstuvwxyz0123456789"
theorem sgn_eq:LET++("0123456789" : Str)=SGN:=by decide +kernel
def nameB(z:Str):Bool:=decide (1<=z.length)&&decide (z.length<=8)&&(match z.cps[0]? with | some c=>sgn LET c | none=>false)&&z.cps.toList.all (sgn SGN)
theorem is_name_str{K:Fg}{H:Hp}{z:Str}{Q:VK}{E:XK}(hz:z.length<=100)(k:∀H',Same H H'->Q (.bl (nameB z)) H'):sp_is_name K [.str z] H Q E:=by
 refine⟨rfl,?_⟩
 unfold t_is_name
 have hz':=small (show z.length<=100000 by omega)
 nofun
 exists q_isi (s := "str") rfl (by decide) ?_
 exists iteF' (by decide) ?_
 exists q_lenS hz' ?_
 by_cases h1:1<=z.length
 case neg=>
  exists iteF' (decide_eq_false (by omega)) ?_
  exists iteT' rfl ?_
  have e:nameB z=false:=by unfold nameB;rw[decide_eq_false h1];simp
  rw[<-e]
  exact k H (Same.refl _)
 exists iteT' (decide_eq_true (by omega)) ?_
 by_cases h8:z.length<=8
 case neg=>
  rw[decide_eq_false (show ¬((z.length:Int)<=8) by omega)]
  exists iteT' rfl ?_
  have e:nameB z=false:=by unfold nameB;rw[decide_eq_false h8];simp
  rw[<-e]
  exact k H (Same.refl _)
 rw[decide_eq_true (show(z.length:Int)<=8 by omega)]
 exists iteF' rfl ?_
 have hl:z.cps.toList.length=z.length:=Array.length_toList
 obtain⟨c0,hc0,hc1⟩:=atI_of (xs:=z.cps.toList) (i:=0) (by decide) (by omega)
 have hc2:z.cps[0]? = some c0:=by rw[<-Array.getElem?_toList];exact hc1
 exists q_ixS hz' hc0 ?_
 have en:nameB z=(sgn LET c0&&z.cps.toList.all (sgn SGN)):=by
  unfold nameB
  rw[decide_eq_true h1,decide_eq_true h8,hc2]
  simp
 refine q_inS (S:=LET) ?_
 refine⟨_,rfl,?_⟩
 cases hs:sgn LET c0 with
 | false=>
  refine iteF ?_
  have e:nameB z=false:=by rw[en,hs];rfl
  rw[<-e]
  exact k H (Same.refl _)
 | true=>
  exists iteT ?_
  specialize s_comp (s_istr ?_)
  refine⟨z,rfl,fun D hD=>?_⟩
  refine comp_str (fun i ys H2=>ys=(z.cps.toList.take i).map (fun c=>V.bl (sgn SGN c))/\H2=upd H D (.lst ys)) ⟨by simp,rfl⟩ ?_ ?_ ?_
  ·rintro i ys _ ⟨_,rfl⟩
   exact upd_same
  ·rintro i c ys _ hc ⟨rfl,rfl⟩ R R' hR hR'
   have hc':z.cps.toList[i]? = some c:=by rw[Array.getElem?_toList];exact hc
   ext
   exists iteT ?_
   refine q_addS (small (by decide +kernel)) ?_
   have e:(("abcdefghijklmnopqrstuvwxyz" : Str)++("0123456789" : Str))=SGN:=sgn_eq
   rw[e]
   refine q_inS (S:=SGN) ?_
   refine hR (.bl (sgn SGN c)) _ upd_same (smallT ?_) ⟨?_,?_⟩
   ·rw[List.length_map,List.length_take];omega
   ·rw[List.take_add_one,hc'];simp
   ·rw[upd_upd]
  ·rintro ys _ ⟨rfl,rfl⟩
   ext
   have eb:boolsOf ((z.cps.toList.take z.length).map (fun c=>V.bl (sgn SGN c)))=some ((z.cps.toList.take z.length).map (sgn SGN)):=by
    generalize z.cps.toList.take z.length=l
    induction l with
    | nil=>rfl
    | cons a r ih=>simp[boolsOf,ih]
   have ea:((z.cps.toList.take z.length).map (sgn SGN)).all id=nameB z:=by
    rw[en,hs,Bool.true_and,List.take_of_length_le (by omega),List.all_map]
    rfl
   refine(show qAll [.ref D] _ _ from ?_)
   unfold qAll
   simp only[upd_same]
   refine⟨_,eb,?_⟩
   rw[ea]
   exact k _ (same_new hD)
end RD
namespace RD
open PySem PySem.Spec L2
def NmS(s:Str):Prop:=nameB s=true/\s.length<=8
def OpN(v:V):Prop:=(∃s,v=.str s/\NmS s)\/∃n:Int,v=.int n/\0<=n/\n<1000000000000
theorem OpN.flat{v:V}(h:OpN v):flatV v=true:=by
 rcases h with ⟨s,rfl,_⟩ | ⟨n,rfl,_⟩ <;> rfl
abbrev KINDS:List Str:=["plus", "minus", "times", "less", "same"]
def DeedN(H:Hp)(p:Addr):Prop:=∃k v1 v2,H p=some (.tup [.str k,v1,v2])/\OpN v1/\OpN v2/\k∈KINDS
theorem DeedN.ts{H H':Hp}{p:Addr}(h:DeedN H p)(t:TSame H H'):DeedN H' p:=by
 obtain⟨k,v1,v2,h,a,b,c⟩:=h
 exact⟨k,v1,v2,t _ _ h,a,b,c⟩
inductive RowS(H:Hp):List V->Prop
 | set (n:Str) (p:Addr):NmS n->DeedN H p->RowS H [.str "set", .str n,.ref p]
 | copy (n:Str) (v:V):NmS n->OpN v->RowS H [.str "copy", .str n,v]
 | take (n:Str):NmS n->RowS H [.str "take", .str n]
 | tell (v:V):OpN v->RowS H [.str "tell", v]
 | ask (v:V):OpN v->RowS H [.str "ask", v]
 | skip:RowS H [.str "skip"]
theorem RowS.ts{H H':Hp}{xs:List V}(h:RowS H xs)(t:TSame H H'):RowS H' xs:=by
 cases h with
 | set n p a d=>exact .set n p a (d.ts t)
 | copy n v a o=>exact .copy n v a o
 | take n a=>exact .take n a
 | tell v o=>exact .tell v o
 | ask v o=>exact .ask v o
 | skip=>exact .skip
def RowN(H:Hp)(v:V)(ask:Bool):Prop:=∃p xs,v=.ref p/\H p=some (.tup xs)/\RowS H xs/\(∃k r,xs=.str k::r/\decide ((k:Str) = "ask")=ask)
theorem RowN.ts{H H':Hp}{v:V}{a:Bool}(h:RowN H v a)(t:TSame H H'):RowN H' v a:=by
 obtain⟨p,xs,rfl,h,r,q⟩:=h
 exact⟨p,xs,rfl,t _ _ h,r.ts t,q⟩
theorem intrun{H:Hp}{n:Int}{Q:VK}(k:Q (.bl true) H) :
  tRet (tAndV (tCB qIsi (tCons (tVar 0) (tCons (tC (.ty "int")) tNil))) (tNotV (tCB qIsi (tCons (tVar 0) (tCons (tC (.ty "bool")) tNil))))) { nx:=fun _ H'=>Q .non H',rt:=Q } [some (.int n)] H:=by
 ext
 exists q_isi (s := "int") rfl (by decide) ?_
 exists iteT' (by decide) ?_
 exists q_isi (s := "int") rfl (by decide) ?_
 exact k
theorem is_whole_int{K:Fg}{H:Hp}{n:Int}{Q:VK}{E:XK}(k:Q (.bl true) H):sp_is_whole K [.int n] H Q E:=⟨rfl,intrun k⟩
theorem is_value_int{K:Fg}{H:Hp}{n:Int}{Q:VK}{E:XK}(h0:0<=n)(h1:n<1000000000000)(k:Q (.bl true) H):sp_is_value K [.int n] H Q E:=by
 refine⟨rfl,?_⟩
 unfold t_is_value
 ext
 refine is_whole_int ?_
 exists ⟨_,rfl,iteT ?_⟩
 exists iteT' (decide_eq_true h0) ?_
 show Q (.bl (decide (n<1000000000000))) H
 rw[decide_eq_true h1]
 exact k
theorem is_below_int{K:Fg}{H:Hp}{n m:Int}{Q:VK}{E:XK}(h0:0<=n)(h1:n<m)(k:Q (.bl true) H):sp_is_below K [.int n,.int m] H Q E:=by
 refine⟨rfl,?_⟩
 unfold t_is_below
 ext
 refine is_whole_int ?_
 exists ⟨_,rfl,iteT ?_⟩
 exists iteT' (decide_eq_true h0) ?_
 show Q (.bl (decide (n<m))) H
 rw[decide_eq_true h1]
 exact k
theorem is_name_nm{K:Fg}{H:Hp}{z:Str}{Q:VK}{E:XK}(h:NmS z)(k:∀H',Same H H'->Q (.bl true) H'):sp_is_name K [.str z] H Q E:=by
 refine is_name_str (by have:=h.2;omega) fun H' s=>?_
 rw[h.1]
 exact k H' s
theorem is_name_int{K:Fg}{H:Hp}{n:Int}{Q:VK}{E:XK}(k:Q (.bl false) H):sp_is_name K [.int n] H Q E:=by
 refine⟨rfl,?_⟩
 unfold t_is_name
 nofun
 exists q_isi (s := "int") rfl (by decide) ?_
 refine iteT' (by decide) ?_
 exists iteT' rfl ?_
 exact k
theorem is_operand_op{K:Fg}{H:Hp}{v:V}{Q:VK}{E:XK}(h:OpN v)(k:∀H',Same H H'->Q (.bl true) H'):sp_is_operand K [v] H Q E:=by
 refine⟨rfl,?_⟩
 unfold t_is_operand
 ext
 rcases h with ⟨s,rfl,hs⟩ | ⟨n,rfl,h0,h1⟩
 ·refine is_name_nm hs fun G s=>?_
  exact⟨_,rfl,iteT (k G s)⟩
 ·refine is_name_int ?_
  exists ⟨_,rfl,iteF ?_⟩
  exact is_value_int h0 h1 (k H (Same.refl _))
theorem kinds_in{k:Str}(h:k∈KINDS):inV (.str k) [.str "plus", .str "minus", .str "times", .str "less", .str "same"]=true:=by
 simp only[KINDS,List.mem_cons,List.not_mem_nil,or_false]at h
 rcases h with rfl | rfl | rfl | rfl | rfl <;> decide +kernel
theorem is_deed_dd{K:Fg}{c:Cn}{H:Hp}{p:Addr}{Q:VK}{E:XK}(ck:CnOk K c)(h:DeedN H p)(k:∀H',Same H H'->Q (.bl true) H'):sp_is_deed K c [.ref p] H Q E:=by
 obtain⟨kd,v1,v2,hp,o1,o2,hk⟩:=h
 refine⟨rfl,?_⟩
 unfold t_is_deed
 nofun
 exists q_isi (s := "tuple") (by simp only[tyName,hp]) (by decide) ?_
 exists iteF' (by decide) ?_
 exists q_lenT hp ?_
 exists iteF' (by simp) ?_
 exists q_ixT hp (atI0 _ _) ?_
 refine⟨_,_,rfl,ck.t_DEED_KINDS H,rfl,rfl,?_⟩
 exists ⟨_,rfl,iteT' (kinds_in hk) ?_⟩
 exists q_ixT hp (atI1 _ _ _) ?_
 refine is_operand_op o1 fun G1 s1=>?_
 exists ⟨_,rfl,iteT ?_⟩
 exists q_ixT (s1 _ _ hp) (atI2 _ _ _ _) ?_
 exact is_operand_op o2 fun G2 s2=>k G2 (s1.trans s2)
theorem cut1(a:V)(r:List V):cutV (a::r) (some 1) none=r:=by
 unfold cutV
 have e:HT.sIx (a::r).length 0 (some 1)=1:=by
  have:=HT.sIx_nat (a::r).length 0 1
  rw[show((1:Nat):Int)=1 from rfl]at this
  rw[this,List.length_cons]
  omega
 rw[e]
 show List.take ((a::r).length - 1) r=r
 rw[List.take_of_length_le (by simp)]
theorem notwhole(a:V)(r:List V):¬(HT.sIx (a::r).length 0 (some 1)=0/\HT.sIx (a::r).length (a::r).length none=(a::r).length):=by
 intro h
 have e:HT.sIx (a::r).length 0 (some 1)=1:=by
  have:=HT.sIx_nat (a::r).length 0 1
  rw[show((1:Nat):Int)=1 from rfl]at this
  rw[this,List.length_cons]
  omega
 omega
theorem is_row_rw{K:Fg}{c:Cn}{H:Hp}{v:V}{a:Bool}{Q:VK}{E:XK}(ck:CnOk K c)(h:RowN H v a)(k:∀H',Same H H'->Q (.bl true) H'):sp_is_row K c [v] H Q E:=by
 obtain⟨p,xs,rfl,hp,hr,kd,r,rfl,_⟩:=h
 refine⟨rfl,?_⟩
 unfold t_is_row
 nofun
 exists q_isi (s := "tuple") (by simp only[tyName,hp]) (by decide) ?_
 exists iteF' (by decide) ?_
 exists q_lenT hp ?_
 exists iteF' (decide_eq_false (by intro z;have:=V.int.inj z;rw[List.length_cons]at this;omega)) ?_
 nofun
 exists q_ixT hp (atI0 _ _) ?_
 nofun
 refine q_slT hp (notwhole _ _) fun q G hq e s=>?_
 rw[cut1]at e
 ext
 have hr:=hr.ts (Same.ts s)
 cases hr with
 | set n d hn hd=>
  nofun
  exists iteT' (by decide) ?_
  exists q_lenT e ?_
  exists iteT' (by simp) ?_
  exists q_ixT e (atI0 _ _) ?_
  refine is_name_nm hn fun G1 s1=>?_
  exists ⟨_,rfl,iteT ?_⟩
  exists q_ixT (s1 _ _ e) (atI1 _ _ _) ?_
  exact is_deed_dd ck (hd.ts (Same.ts s1)) fun G2 s2=>k G2 ((s.trans s1).trans s2)
 | copy n v hn ho=>
  nofun
  exists iteF' (by decide) ?_
  nofun
  exists iteT' (by decide) ?_
  exists q_lenT e ?_
  exists iteT' (by simp) ?_
  exists q_ixT e (atI0 _ _) ?_
  refine is_name_nm hn fun G1 s1=>?_
  exists ⟨_,rfl,iteT ?_⟩
  exists q_ixT (s1 _ _ e) (atI1 _ _ _) ?_
  exact is_operand_op ho fun G2 s2=>k G2 ((s.trans s1).trans s2)
 | take n hn=>
  nofun
  exists iteF' (by decide) ?_
  nofun
  exists iteF' (by decide) ?_
  nofun
  exists iteT' (by decide) ?_
  exists q_lenT e ?_
  exists iteT' (by simp) ?_
  exists q_ixT e (atI0 _ _) ?_
  exact is_name_nm hn fun G1 s1=>k G1 (s.trans s1)
 | tell v ho=>
  nofun
  exists iteF' (by decide) ?_
  nofun
  exists iteF' (by decide) ?_
  nofun
  exists iteF' (by decide) ?_
  nofun
  refine new_i (by simp) fun q2 G2 hq2 e2 s2=>?_
  exists q_inT e2 rfl rfl ?_
  exists iteT' (by decide +kernel) ?_
  exists q_lenT (s2 _ _ e) ?_
  exists iteT' (by simp) ?_
  exists q_ixT (s2 _ _ e) (atI0 _ _) ?_
  exact is_operand_op ho fun G1 s1=>k G1 ((s.trans s2).trans s1)
 | ask v ho=>
  nofun
  exists iteF' (by decide) ?_
  nofun
  exists iteF' (by decide) ?_
  nofun
  exists iteF' (by decide) ?_
  nofun
  refine new_i (by simp) fun q2 G2 hq2 e2 s2=>?_
  exists q_inT e2 rfl rfl ?_
  exists iteT' (by decide +kernel) ?_
  exists q_lenT (s2 _ _ e) ?_
  exists iteT' (by simp) ?_
  exists q_ixT (s2 _ _ e) (atI0 _ _) ?_
  exact is_operand_op ho fun G1 s1=>k G1 ((s.trans s2).trans s1)
 | skip=>
  nofun
  exists iteF' (by decide) ?_
  nofun
  exists iteF' (by decide) ?_
  nofun
  exists iteF' (by decide) ?_
  nofun
  refine new_i (by simp) fun q2 G2 hq2 e2 s2=>?_
  exists q_inT e2 rfl rfl ?_
  exists iteF' (by decide +kernel) ?_
  exists iteT' (by decide) ?_
  exists q_lenT (s2 _ _ e) ?_
  have e0:decide (V.int ((([]:List V).length:Nat):Int)=V.int 0)=true:=by decide
  rw[e0]
  exact k G2 (s.trans s2)
end RD
namespace RD
open PySem PySem.Spec L2
theorem ix0{α:Type}(a b c d:α):ixN [a,b,c,d].length 0=some 0:=by
 show ixN 4 0=some 0
 decide
theorem ix1{α:Type}(a b c d:α):ixN [a,b,c,d].length 1=some 1:=by
 show ixN 4 1=some 1
 decide
theorem ix2{α:Type}(a b c d:α):ixN [a,b,c,d].length 2=some 2:=by
 show ixN 4 2=some 2
 decide
structure BagP(H:Hp)(b:Addr)(i0 i1 i2:Int)(c:Addr)(ns:List Int):Prop where
 hb:H b=some (.lst [.int i0,.int i1,.int i2,.ref c])
 hc:H c=some (.lst (ns.map V.int))
 p0:0<=i0
 p1:0<=i1
 p1':i1<2147483647
 p2:0<=i2
 pn:∀x∈ns,0<=x
theorem BagP.bag{H:Hp}{b:Addr}{i0 i1 i2:Int}{c:Addr}{ns:List Int}(h:BagP H b i0 i1 i2 c ns):Bag H b c:=⟨i0,i1,i2,ns,h.hb,h.hc,h.p0,h.p1,h.p1',h.p2,h.pn⟩
theorem Bag.parts{H:Hp}{b c:Addr}(h:Bag H b c):∃i0 i1 i2 ns,BagP H b i0 i1 i2 c ns:=by
 obtain⟨i0,i1,i2,ns,h1,h2,h3,h4,h5,h6,h7⟩:=h.ex
 exact⟨i0,i1,i2,ns,h1,h2,h3,h4,h5,h6,h7⟩
theorem BagP.ne{H:Hp}{b:Addr}{i0 i1 i2:Int}{c:Addr}{ns:List Int}(h:BagP H b i0 i1 i2 c ns):c≠b:=ne_of h.hc h.hb (by
  intro z
  have z:=HO.lst.inj z
  cases ns with
  | nil=>cases z
  | cons a r=>cases r with
   | nil=>cases z
   | cons a2 r=>cases r with
    | nil=>cases z
    | cons a3 r=>cases r with
     | nil=>cases z
     | cons a4 r=>simp at z)
theorem BagP.put{H:Hp}{b:Addr}{i0 i1 i2 j0 j1 j2:Int}{c:Addr}{ns:List Int}(h:BagP H b i0 i1 i2 c ns)(q0:0<=j0)(q1:0<=j1)(q1':j1<2147483647)(q2:0<=j2) :
  BagP (upd H b (.lst [.int j0,.int j1,.int j2,.ref c])) b j0 j1 j2 c ns:=⟨upd_same,by rw[upd_ne h.ne];exact h.hc,q0,q1,q1',q2,h.pn⟩
theorem take_ok{K:Fg}{H:Hp}{b c:Addr}{many:Int}{Q:VK}{E:XK}(hB:Bag H b c)(h0:0<many)(h1:many<2 ^ 64)
  (k:∀n H',0<=n->n<many->Bag H' b c->Kept b H H'->Q (.int n) H'):sp_take K [.ref b,.int many] H Q E:=by
 obtain⟨i0,i1,i2,ns,B⟩:=hB.parts
 refine⟨rfl,?_⟩
 unfold t_take
 refine s_cut (P:=fun σ H1=>∃x2 x3 j0 j1 j2,σ=[some (.ref b),some (.int many),x2,x3,none,none,none]/\BagP H1 b j0 j1 j2 c ns/\Kept b H H1) ?_ ?_
 ·-- the second part
  rintro _ H1 ⟨x2,x3,j0,j1,j2,rfl,B1,k1⟩
  refine s_cut (P:=fun σ H2=>H2=H1/\σ=[some (.ref b),some (.int many),x2,x3,none,none,none]) ?_ ?_
  ·rintro _ _ ⟨rfl,rfl⟩
   walk_at "go"
   refine q_ixL B1.hb (atI1 _ _ _) ?_
   walk_at "go"
   refine q_int (.inr (by omega)) ?_
   walk_at "go"
   refine q_int (by omega) ?_
   walk_at "go"
   have g1:=Int.emod_nonneg (j1 * 39373) (show(1000000007:Int)≠0 by decide)
   have g2:=Int.emod_lt_of_pos (j1 * 39373) (show(0:Int)<1000000007 by decide)
   refine q_int (.inr (by omega)) ?_
   walk_at "go"
   refine q_int (by omega) ?_
   walk_at "go"
   have g3:=Int.emod_nonneg (j1 * 39373 % 1000000007 * 30011) (show(998244353:Int)≠0 by decide)
   have g4:=Int.emod_lt_of_pos (j1 * 39373 % 1000000007 * 30011) (show(0:Int)<998244353 by decide)
   refine ite2 (fun _=>?_) (fun _=>?_)
   ·walk_at "go"
    refine q_int (.inr (by omega)) ?_
    walk_at "go"
    refine q_int h0 ?_
    exact k _ _ (Int.emod_nonneg _ (by omega)) (Int.emod_lt_of_pos _ h0) B1.bag k1
   ·walk_at "go"
    refine q_int (by omega) ?_
    walk_at "go"
    refine q_int h0 ?_
    exact k _ _ (Int.emod_nonneg _ (by omega)) (Int.emod_lt_of_pos _ h0) B1.bag k1
  ·intro nx hnx
   walk_at "go"
   refine q_ixL B1.hb (atI0 _ _) ?_
   walk_at "go"
   refine ite2 (fun _=>?_) (fun _=>?_)
   ·walk_at "go"
    refine q_ixL B1.hb (atI0 _ _) ?_
    walk_at "go"
    refine q_int h0 ?_
    walk_at "go"
    refine q_ixL B1.hb (atI0 _ _) ?_
    walk_at "go"
    refine q_int ⟨h0,h1⟩ ?_
    walk_at "go"
    refine q_set B1.hb (ix0 _ _ _ _) ?_
    walk_at "go"
    refine k _ _ (Int.emod_nonneg _ (by omega)) (Int.emod_lt_of_pos _ h0) (B1.put (Int.ediv_nonneg B1.p0 (by omega)) B1.p1 B1.p1' B1.p2).bag (k1.trans (Kept.upd _ _ _))
   ·walk_at "go"
    exact hnx _ _ ⟨rfl,rfl⟩
 ·intro nx hnx
  walk_at "go"
  refine q_ixL B.hb (atI0 _ _) ?_
  walk_at "go"
  refine ite2 (fun e=>?_) (fun _=>?_)
  ·have e:i0=0:=by simpa using e
   subst e
   nofun
   with_reducible refine s_cut (P:=fun σ H1=>∃m x3 j0 j2,σ=[some (.ref b),some (.int many),some (.int m),x3,none,none,none]/\BagP H1 b j0 i1 j2 c ns/\Kept b H H1/\0<=m) ?_ ?_
   ·rintro _ H1 ⟨m,x3,j0,j2,rfl,B1,k1,hm⟩
    walk_at "go"
    refine q_ixL B1.hb (atI1 _ _ _) ?_
    walk_at "go"
    refine q_int (.inr (by omega)) ?_
    walk_at "go"
    refine q_int (by omega) ?_
    walk_at "go"
    refine q_set B1.hb (ix1 _ _ _ _) ?_
    have g1:=Int.emod_nonneg (i1 * 48271+m) (show(2147483647:Int)≠0 by decide)
    have g2:=Int.emod_lt_of_pos (i1 * 48271+m) (show(0:Int)<2147483647 by decide)
    exact hnx _ _ ⟨_,x3,j0,_,j2,rfl,B1.put B1.p0 g1 g2 B1.p2,k1.trans (Kept.upd _ _ _)⟩
   ·intro nx2 hnx2
    walk_at "go"
    refine q_ixL B.hb (atI2 _ _ _ _) ?_
    walk_at "go"
    refine q_ixL B.hb (atI3 _ _ _ _ _) ?_
    walk_at "go"
    refine q_lenL B.hc ?_
    walk_at "go"
    refine ite2 (fun e=>?_) (fun _=>?_)
    ·have e:i2<(ns.length:Int):=by simpa using e
     obtain⟨v,ev,ev2⟩:=atI_of (xs:=ns.map V.int) B.p2 (by simpa using e)
     obtain⟨z,ez,rfl⟩:∃z,ns[i2.toNat]? = some z/\v=V.int z:=by
      rw[List.getElem?_map]at ev2
      cases q:ns[i2.toNat]? with
      | none=>rw[q]at ev2;cases ev2
      | some z=>rw[q]at ev2;exact⟨z,rfl,(Option.some.inj ev2).symm⟩
     have hz:0<=z:=B.pn z (mI ez)
     walk_at "go"
     refine q_ixL B.hb (atI3 _ _ _ _ _) ?_
     walk_at "go"
     refine q_ixL B.hb (atI2 _ _ _ _) ?_
     walk_at "go"
     refine q_ixL B.hc ev ?_
     walk_at "go"
     exists q_get B.hb (by decide) rfl ?_
     refine q_set B.hb (ix2 _ _ _ _) ?_
     have B2:=B.put (j0:=0) (j1:=i1) (j2:=i2+1) (Int.le_refl _) B.p1 B.p1' (by have:=B.p2;omega)
     with_reducible refine s_cut (P:=fun σ H1=>∃j0,σ=[some (.ref b),some (.int many),some (.int 12345),some (.int z),none,none,none]/\BagP H1 b j0 i1 (i2+1) c ns/\Kept b H H1) ?_ ?_
     ·rintro _ H1 ⟨j0,rfl,B1,k1⟩
      walk_at "go"
      refine q_int (by omega) ?_
      walk_at "go"
      have g1:=Int.emod_nonneg z (show(2147483647:Int)≠0 by decide)
      exact hnx2 _ _ ⟨_,_,j0,_,rfl,B1,k1,by omega⟩
     ·intro nx3 hnx3
      walk_at "go"
      refine ite2 (fun _=>?_) (fun _=>?_)
      ·walk_at "go"
       refine q_set B2.hb (ix0 _ _ _ _) ?_
       refine hnx3 _ _ ⟨z,rfl,?_,(Kept.upd _ _ _).trans (Kept.upd _ _ _)⟩
       exact B2.put hz B.p1 B.p1' (by have:=B.p2;omega)
      ·walk_at "go"
       exact hnx3 _ _ ⟨0,rfl,B2,Kept.upd _ _ _⟩
    ·walk_at "go"
     exact hnx2 _ _ ⟨_,_,0,i2,rfl,B,Kept.refl _ _,by decide⟩
  ·walk_at "go"
   exact hnx _ _ ⟨_,_,i0,i1,i2,rfl,B,Kept.refl _ _⟩
end RD
namespace RD
open PySem PySem.Spec L2
theorem bag_ok{K:Fg}{H:Hp}{a:Addr}{ns:List Int}{Q:VK}{E:XK}(hS:SqL K H a (ns.map V.int))(hl:ns.length<=63)
  (k:∀b c H',Bag H' b c->Same H H'->H b=none->Q (.ref b) H'):sp_bag K [.ref a] H Q E:=by
 refine⟨rfl,?_⟩
 unfold t_bag
 walk_at "go"
 with_reducible refine s_comp (s_ilst ?_)
 walk_at "go"
 refine⟨a,_,rfl,hS,fun p hp=>⟨p,rfl,⟨_,SqL.of upd_same⟩,fun D hD=>?_⟩⟩
 have hcut:cutV (ns.map V.int) none (some 63)=ns.map V.int:=by
  unfold cutV
  have e:HT.sIx (ns.map V.int).length 0 none=0:=rfl
  have e2:HT.sIx (ns.map V.int).length (ns.map V.int).length (some 63)=ns.length:=by
   have:=HT.sIx_nat (ns.map V.int).length (ns.map V.int).length 63
   rw[List.length_map]at this ⊢
   rw[show((63:Nat):Int)=63 from rfl]at this
   rw[this];omega
  rw[e,e2,List.drop_zero,Nat.sub_zero,List.take_of_length_le (by simp)]
 rw[hcut]at hD ⊢
 have s1:Same H (upd H p (.lst (ns.map V.int))):=same_new hp
 refine comp_lst (xs:=ns.map V.int) (fun i ys H2=>ys=(ns.take i).map (fun x=>V.int (if x<0 then -x else x))/\H2=upd (upd H p (.lst (ns.map V.int))) D (.lst ys)) ⟨by simp,rfl⟩ ?_ ?_ ?_ ?_
 ·rintro i ys _ ⟨_,rfl⟩
  exact upd_same
 ·rintro i ys _ _ ⟨_,rfl⟩
  refine SqL.of ?_
  rw[upd_ne (ne_of_none upd_same hD),upd_same]
 ·rintro i x ys _ hx ⟨rfl,rfl⟩ R hR
  rw[List.getElem?_map]at hx
  cases e:ns[i]? with
  | none=>rw[e]at hx;cases hx
  | some z=>
   rw[e]at hx
   cases hx
   ext
   refine hR _ _ upd_same (smallT ?_) ⟨?_,?_⟩
   ·rw[List.length_map,List.length_take];omega
   ·rw[List.take_add_one,e];simp
   ·rw[upd_upd]
 ·rintro ys _ ⟨rfl,rfl⟩
  ext
  refine new_i (by simp) fun b H4 hb hb4 s4=>?_
  rw[List.length_map,List.take_of_length_le (Nat.le_refl _)]at hb s4
  refine k b D _ ⟨0,1234567891,0,ns.map (fun x=>if x<0 then -x else x),hb4,?_,by decide,by decide,by decide,by decide,?_⟩ ?_ ?_
  ·rw[s4 D _ upd_same,List.map_map];rfl
  ·intro x hx
   obtain⟨y,_,rfl⟩:=List.mem_map.mp hx
   split <;> omega
  ·exact(s1.trans (same_new hD)).trans s4
  ·exact(s1.trans (same_new hD)).free hb
end RD
namespace RD
open PySem PySem.Spec L2
structure NamesN(H:Hp)(a:Addr):Prop where
 ex:∃ss:List Str,H a=some (.lst (ss.map V.str))/\ss≠[]/\ss.length<=8/\∀s∈ss,NmS s
theorem NamesN.kept{b c a:Addr}{H H':Hp}(h:NamesN H a)(hB:Bag H b c)(k:Kept b H H'):NamesN H' a/\a≠b:=by
 obtain⟨ss,h1,h2,h3,h4⟩:=h.ex
 obtain⟨i0,i1,i2,ns,hb,_⟩:=hB.ex
 have ne:a≠b:=ne_of h1 hb (by
  intro z
  have z:=HO.lst.inj z
  cases ss with
  | nil=>exact h2 rfl
  | cons s r=>cases z)
 exact⟨⟨ss,k.1 a _ h1 ne,h2,h3,h4⟩,ne⟩
theorem NamesN.same{H H':Hp}{a:Addr}(h:NamesN H a)(s:Same H H'):NamesN H' a:=by
 obtain⟨ss,h1,h2,h3⟩:=h.ex
 exact⟨ss,s _ _ h1,h2,h3⟩
theorem sgn_let:∀c∈LET.cps.toList,sgn LET c=true:=by decide +kernel
theorem sgn_sgn:∀c∈SGN.cps.toList,sgn SGN c=true:=by decide +kernel
theorem let_sgn:∀c∈LET.cps.toList,sgn SGN c=true:=by decide +kernel
theorem join_signs(cs:List Nat):Txt.join (Str.ofString "") (cs.map fun k=>(⟨#[k]⟩:Str))=⟨cs.toArray⟩:=by
 show Builtin.Str.glued ("") _=_
 rw[StrLaws.glued_eq_join]
 exact PyProof.Rows.join_ones cs
theorem nm_of{ch:Nat}{cs:List Nat}(h1:ch∈LET.cps.toList)(h2:∀c∈cs,c∈SGN.cps.toList)(hl:cs.length<=7):NmS ((⟨#[ch]⟩:Str)++⟨cs.toArray⟩):=by
 have hlen:((⟨#[ch]⟩:Str)++⟨cs.toArray⟩).length=cs.length+1:=by
  rw[Str.length_append]
  show 1+cs.toArray.size=_
  rw[List.size_toArray];omega
 have hc:((⟨#[ch]⟩:Str)++⟨cs.toArray⟩).cps=(ch::cs).toArray:=by
  rw[Str.cps_append]
  show #[ch]++cs.toArray=_
  simp
 refine⟨?_,by omega⟩
 unfold nameB
 rw[hlen,hc]
 have e0:(ch::cs).toArray[0]? = some ch:=by simp
 rw[e0]
 simp only[Bool.and_eq_true,decide_eq_true_eq,List.all_eq_true]
 refine⟨⟨⟨by omega,by omega⟩,sgn_let ch h1⟩,?_⟩
 intro c hcc
 have hcc:c∈ch::cs:=by simpa using hcc
 rcases List.mem_cons.mp hcc with q | q
 ·subst q;exact let_sgn _ h1
 ·exact sgn_sgn c (h2 c q)
theorem snoc_nm{ss:List Str}{s:Str}(h:∀s∈ss,NmS s)(hs:NmS s):∀t∈ss++[s],NmS t:=by
 intro t ht
 rcases List.mem_append.mp ht with q | q
 ·exact h t q
 ·rw[List.mem_singleton.mp q];exact hs
end RD
namespace RD
open PySem PySem.Spec L2
structure PoolN(H:Hp)(a:Addr):Prop where
 ex:∃ps:List Addr,H a=some (.lst (ps.map V.ref))/\ps≠[]/\ps.length<=8/\∀p∈ps,DeedN H p
theorem refs_ne{H:Hp}{b c a:Addr}{as:List Addr}(hB:Bag H b c)(h:H a=some (.lst (as.map V.ref))):a≠b:=by
 obtain⟨i0,i1,i2,ns,hb,_⟩:=hB.ex
 refine ne_of h hb ?_
 intro z
 have z:=HO.lst.inj z
 cases as with
 | nil=>cases z
 | cons s r=>cases z
theorem short_ne{H:Hp}{b c a:Addr}{xs:List V}(hB:Bag H b c)(h:H a=some (.lst xs))(hl:xs.length<=3):a≠b:=by
 obtain⟨i0,i1,i2,ns,hb,_⟩:=hB.ex
 refine ne_of h hb ?_
 intro z
 have z:=HO.lst.inj z
 rw[z]at hl
 simp at hl
theorem PoolN.kept{b c a:Addr}{H H':Hp}(h:PoolN H a)(hB:Bag H b c)(k:Kept b H H'):PoolN H' a:=by
 obtain⟨ps,h1,h2,h3,h4⟩:=h.ex
 exact⟨ps,k.1 a _ h1 (refs_ne hB h1),h2,h3,fun p hp=>(h4 p hp).ts (Kept.ts k hB)⟩
theorem PoolN.same{a:Addr}{H H':Hp}(h:PoolN H a)(k:Same H H'):PoolN H' a:=by
 obtain⟨ps,h1,h2,h3,h4⟩:=h.ex
 exact⟨ps,k a _ h1,h2,h3,fun p hp=>(h4 p hp).ts (Same.ts k)⟩
structure NetAt(H:Hp)(a:Addr)(N:Nt):Prop where
 ex:∃as:List Addr,H a=some (.lst (as.map V.ref))/\as.length=N.length/\∀(i:Nat) x l,as[i]? = some x->N[i]? = some l->H x=some (.lst (IL l))
theorem NetAt.same{a:Addr}{H H':Hp}{N:Nt}(h:NetAt H a N)(k:Same H H'):NetAt H' a N:=by
 obtain⟨as,h1,h2,h3⟩:=h.ex
 exact⟨as,k a _ h1,h2,fun i x l e1 e2=>k _ _ (h3 i x l e1 e2)⟩
theorem NetAt.kept{b c a:Addr}{H H':Hp}{N:Nt}(h:NetAt H a N)(hB:Bag H b c)(hN:∀l∈N,l.length<=2)(k:Kept b H H'):NetAt H' a N:=by
 obtain⟨as,h1,h2,h3⟩:=h.ex
 refine⟨as,k.1 a _ h1 (refs_ne hB h1),h2,fun i x l e1 e2=>?_⟩
 have q:=h3 i x l e1 e2
 refine k.1 _ _ q (short_ne hB q ?_)
 rw[IL_len]
 have:=hN l (mI e2)
 omega
theorem NetAt.at{a:Addr}{H:Hp}{N:Nt}(h:NetAt H a N){k:Nat}{l:List Nat}(e:N[k]? = some l):∃(xs:List V) (x:Addr),H a=some (.lst xs)/\atI xs (k:Int)=some (.ref x)/\H x=some (.lst (IL l))/\xs.length=N.length:=by
 obtain⟨as,h1,h2,h3⟩:=h.ex
 have hk:k<as.length:=by rw[h2];exact(gI e)
 have e1:as[k]? = some as[k]:=by simp
 refine⟨_,as[k],h1,?_,h3 k _ l e1 e,by rw[List.length_map,h2]⟩
 exact atI_nat (by rw[List.getElem?_map,e1];rfl)
theorem NetAt.len{a:Addr}{H:Hp}{N:Nt}(h:NetAt H a N):∃xs,H a=some (.lst xs)/\xs.length=N.length:=by
 obtain⟨as,h1,h2,h3⟩:=h.ex
 exact⟨_,h1,by rw[List.length_map,h2]⟩
theorem IL_at{l:List Nat}{j t:Nat}(e:l[j]? = some t):atI (IL l) (j:Int)=some (.int (t:Int)):=atI_nat (by unfold IL;rw[List.getElem?_map,e];rfl)
theorem pick_ok{K:Fg}{H:Hp}{b c a:Addr}{Q:VK}{E:XK}(hB:Bag H b c){xs:List V}(ha:H a=some (.lst xs))(na:a≠b)(h0:xs≠[])(hl:xs.length<=100)
  (k:∀(n:Int) v H',atI xs n=some v->v∈xs->H' a=some (.lst xs)->Bag H' b c->Kept b H H'->Q (.int n) H'):sp_take K [.ref b,.int xs.length] H Q E:=by
 have hp:0<xs.length:=List.length_pos_iff.mpr h0
 refine take_ok hB (by omega) (by omega) fun n H1 n0 n1 B1 k1=>?_
 obtain⟨v,hv,hv2⟩:=atI_of (xs:=xs) n0 n1
 exact k n v H1 hv (mI hv2) (k1.1 _ _ ha na) B1 k1
theorem snoc_cases{α:Type}(l:List α):l=[]\/∃r a,l=r++[a]:=by
 cases h:l.reverse with
 | nil=>left;simpa using h
 | cons a r=>
  right
  refine⟨r.reverse,a,?_⟩
  have:=congrArg List.reverse h
  simpa using this
theorem atI_last{α:Type}{xs:List α}{a:α}:atI (xs++[a]) (-1)=some a:=by
 unfold atI ixN
 rw[if_neg (by decide),if_pos (by rw[List.length_append,List.length_singleton];omega)]
 have:(-1+((xs++[a]).length:Int)).toNat=xs.length:=by rw[List.length_append,List.length_singleton];omega
 rw[this]
 simp
end RD
namespace RD
open PySem PySem.Spec L2
structure NetI(H0 H:Hp)(b c D:Addr)(m:Nat)(as:List Addr)(N:Nt):Prop where
 bag:Bag H b c
 kept:Kept b H0 H
 hD:H D=some (.lst (as.map V.ref))
 nb:D≠b
 nc:D≠c
 len:as.length=N.length
 at_:∀(i:Nat) x l,as[i]? = some x->N[i]? = some l->H x=some (.lst (IL l))/\x≠D/\x≠b
 small:∀l∈N,l.length<=2/\∀t∈l,t<m
theorem NetI.next{H0 H H':Hp}{b c D:Addr}{m:Nat}{as:List Addr}{N:Nt}(h:NetI H0 H b c D m as N)(B:Bag H' b c)(k:Kept b H H'):NetI H0 H' b c D m as N:=
 ⟨B,h.kept.trans k,k.1 _ _ h.hD h.nb,h.nb,h.nc,h.len,fun i x l e1 e2=>let⟨q1,q2,q3⟩:=h.at_ i x l e1 e2; ⟨k.1 _ _ q1 q3,q2,q3⟩,h.small⟩
structure SomeI(H:Hp)(b D q:Addr)(m:Nat)(l:List Nat):Prop where
 h:H q=some (.lst (IL l))
 nD:q≠D
 nb:q≠b
 len:l.length<=2
 lt:∀t∈l,t<m
theorem SomeI.next{H H':Hp}{b D q:Addr}{m:Nat}{l:List Nat}(h:SomeI H b D q m l)(k:Kept b H H'):SomeI H' b D q m l:=⟨k.1 _ _ h.h h.nb,h.nD,h.nb,h.len,h.lt⟩
theorem snocAt{α:Type}{xs:List α}{x y:α}{i:Nat}(h:(xs++[x])[i]? = some y):(i<xs.length/\xs[i]? = some y)\/(i=xs.length/\y=x):=by
 by_cases hi:i<xs.length
 ·left
  rw[List.getElem?_append_left hi]at h
  exact⟨hi,h⟩
 ·right
  rw[List.getElem?_append_right (by omega)]at h
  have:i - xs.length=0:=by
   have:=(gI h)
   simp at this
   omega
  rw[this]at h
  simp at h
  exact⟨by omega,h.symm⟩
theorem dec_i{a b:Int}:decide (V.int a=V.int b)=decide (a=b):=by
 by_cases h:a=b
 ·subst h;simp
 ·rw[decide_eq_false h,decide_eq_false (fun z=>h (V.int.inj z))]
end RD
namespace RD
open PySem PySem.Spec L2
theorem menu_nm:∀s∈(["a", "k0", "ab", "set", "abc", "k1", "abcdefgh", "b", "ask", "x9", "a1", "abcdefg", "plus", "ba", "k10", "z"]:List Str),NmS s:=by
 have:∀s∈(["a", "k0", "ab", "set", "abc", "k1", "abcdefgh", "b", "ask", "x9", "a1", "abcdefg", "plus", "ba", "k10", "z"]:List Str),nameB s=true/\s.length<=8:=by decide +kernel
 exact this
end RD
namespace RD
open PySem PySem.Spec L2
theorem name_ok{K:Fg}{H:Hp}{b c:Addr}{Q:VK}{E:XK}(hB:Bag H b c)(k:∀s H',NmS s->Bag H' b c->Kept b H H'->Q (.str s) H'):sp_name K [.ref b] H Q E:=by
 refine⟨rfl,?_⟩
 unfold t_name
 walk_at "go"
 refine q_addS (small (by decide +kernel)) ?_
 walk_at "go"
 refine take_ok hB (by decide) (by decide) fun n H1 n0 n1 B1 k1=>?_
 obtain⟨ch,hc,hc2⟩:=atI_of (xs:=("abcdefghijklmnopqrstuvwxyz" : Str).cps.toList) n0 (by
  have:(("abcdefghijklmnopqrstuvwxyz" : Str).cps.toList).length=26:=by decide +kernel
  omega)
 refine q_ixS (small (by decide +kernel)) hc ?_
 walk_at "go"
 with_reducible refine s_comp (s_rng1 ?_)
 walk_at "go"
 refine take_ok B1 (by decide) (by decide) fun m H2 m0 m1 B2 k2=>?_
 walk_at "go"
 refine⟨m,rfl,by omega,by omega,fun D hD=>?_⟩
 obtain⟨nb,nc⟩:=B2.nb hD
 refine comp_rng (fun i ys H3=>∃cs:List Nat,ys=cs.map (fun k=>V.str (⟨#[k]⟩:Str))/\cs.length=i/\(∀c∈cs,c∈SGN.cps.toList)/\H3 D=some (.lst ys)/\Bag H3 b c/\Kept b H2 H3) ?_ ?_ ?_ ?_
 ·exact⟨[],rfl,rfl,by simp,upd_same,B2.new hD,Kept.new hD⟩
 ·rintro i ys H3 ⟨_,_,_,_,h,_⟩
  exact h
 ·rintro i ys H3 hi ⟨cs,rfl,rfl,h1,hd,B3,k3⟩ R hR
  ext
  refine take_ok B3 (by decide) (by decide) fun j H4 j0 j1 B4 k4=>?_
  obtain⟨cj,hcj,hcj2⟩:=atI_of (xs:=(("abcdefghijklmnopqrstuvwxyz" : Str)++("0123456789" : Str)).cps.toList) j0 (by
   have:((("abcdefghijklmnopqrstuvwxyz" : Str)++("0123456789" : Str)).cps.toList).length=36:=by decide +kernel
   omega)
  refine q_ixS (small (by decide +kernel)) hcj ?_
  refine hR _ _ (k4.1 _ _ hd nb) (smallT (by rw[List.length_map];omega)) ⟨cs++[cj],by simp,by simp,?_,upd_same,B4.put nb nc,(k3.trans k4).put hD⟩
  intro s hs
  rcases List.mem_append.mp hs with q | q
  ·exact h1 s q
  ·rw[List.mem_singleton.mp q,<-sgn_eq]
   exact mI hcj2
 ·rintro ys H3 ⟨cs,rfl,hn,h1,hd,B3,k3⟩
  ext
  have he:cs.map (fun k=>V.str (⟨#[k]⟩:Str))=(cs.map fun k=>(⟨#[k]⟩:Str)).map V.str:=by rw[List.map_map];rfl
  rw[he]at hd
  have hsum:((cs.map fun k=>(⟨#[k]⟩:Str)).map (·.length)).sum=cs.length:=by
   clear hn hd he h1
   induction cs with
   | nil=>rfl
   | cons s r ih=>
    rw[List.map_cons,List.map_cons,List.sum_cons,ih,List.length_cons]
    show 1+_=_
    omega
  refine q_join hd (strsOf_map _) ?_ ?_
  ·rw[hsum,List.length_map]
   show cs.length+cs.length * 0<=_
   omega
  ·have hj:Txt.join (Str.ofString "") (cs.map fun k=>(⟨#[k]⟩:Str))=⟨cs.toArray⟩:=join_signs cs
   rw[hj]
   have hl7:cs.length<=7:=by omega
   have hN:=nm_of (mI hc2) h1 hl7
   refine q_addS (small ?_) ?_
   ·have:=hN.2
    rw[Str.length_append]at this
    omega
   ·exact k _ _ hN B3 ((k1.trans k2).trans k3)
theorem all_flat(ss:List Str):(ss.map V.str).all flatV=true:=by
 rw[List.all_eq_true]
 intro x hx
 obtain⟨s,_,rfl⟩:=List.mem_map.mp hx
 rfl
theorem names_ok{K:Fg}{H:Hp}{b c:Addr}{Q:VK}{E:XK}(hB:Bag H b c)(k:∀a H',NamesN H' a->Bag H' b c->Kept b H H'->H a=none->Q (.ref a) H'):sp_names K [.ref b] H Q E:=by
 refine⟨rfl,?_⟩
 unfold t_names
 walk_at "go"
 refine new_i (by decide) fun p1 G1 h1 e1 s1=>?_
 walk_at "go"
 refine new_i (by decide) fun p2 G2 h2 e2 s2=>?_
 walk_at "go"
 refine q_addL (s2 _ _ e1) e2 (new_i (by decide) fun p3 H0 h3 e3 s3'=>?_)
 have s3:Same H H0:=(s1.trans s2).trans s3'
 have B0:=hB.same s3
 obtain⟨M,hM⟩:∃M:List Str,M=(["a", "k0", "ab", "set", "abc", "k1", "abcdefgh", "b", "ask", "x9", "a1", "abcdefg", "plus", "ba", "k10", "z"]:List Str):=⟨_,rfl⟩
 have hm:H0 p3=some (.lst (M.map V.str)):=by rw[e3,hM];rfl
 have nM:∀s∈M,NmS s:=by rw[hM];exact menu_nm
 have lM:M.length=16:=by rw[hM];rfl
 clear hM e1 e2 e3 h1 h2 h3 s1 s2 s3'
 walk_at "go"
 refine take_ok B0 (by decide) (by decide) fun f H1 f0 f1 B1 k1=>?_
 walk_at "go"
 refine take_ok B1 (by decide) (by decide) fun g H2 g0 g1 B2 k2=>?_
 refine q_int (.inl (by omega)) ?_
 walk_at "go"
 exists new_i (by decide) fun D H2' hD hd2 s2=>?_
 have pb:p3≠b:=by
  obtain⟨i0,i1,i2,ns,hb,_⟩:=B0.ex
  refine ne_of hm hb ?_
  intro z
  have z:=HO.lst.inj z
  cases M with
  | nil=>cases lM
  | cons s r=>cases z
 have hm2:H2 p3=some (.lst (M.map V.str)):=k2.1 _ _ (k1.1 _ _ hm pb) pb
 obtain⟨nb,nc⟩:=B2.nb hD
 have hDp:D≠p3:=(ne_of_none hm2 hD).symm
 with_reducible refine s_seq ?_
 with_reducible refine s_for (s_rng1 ?_)
 walk_at "go"
 refine take_ok (B2.same s2) (by decide) (by decide) fun m H3 m0 m1 B3 k3=>?_
 walk_at "go"
 have hd3:H3 D=some (.lst (([]:List Str).map V.str)):=k3.1 _ _ hd2 nb
 have k03:Kept b H2 H3:=(Kept.of_same s2).trans k3
 refine⟨2+m,rfl,by omega,by omega,for_range (fun i σ H4=>∃x5 x6 ss,(∀s∈(ss:List Str),NmS s)/\σ=[some (.ref b),some (.ref p3),some (.int f),some (.int (1+2 * g)),some (.ref D),x5,x6]/\H4 D=some (.lst ((ss:List Str).map V.str))/\ss.length<=i/\(0<i->ss≠[])/\Bag H4 b c/\Kept b H2 H4) ?_ ?_ ?_⟩
 ·exact⟨_,_,[],by simp,rfl,hd3,Nat.le_refl _,by simp,B3,k03⟩
 ·rintro i _ H4 hi ⟨x5,x6,ss,hss,rfl,hd,hl,hne,B4,k4⟩
  have hi:i<(2+m).toNat:=hi
  ext
  with_reducible refine s_cut (P:=fun σ H5=>∃s,NmS s/\σ=[some (.ref b),some (.ref p3),some (.int f),some (.int (1+2 * g)),some (.ref D),some (.int (0+i)),some (.str s)]/\H5 D=some (.lst ((ss:List Str).map V.str))/\Bag H5 b c/\Kept b H2 H5) ?_ ?_
  ·rintro _ H5 ⟨s,hs,rfl,hd5,B5,k5⟩
   with_reducible refine s_cut (P:=fun σ H6=>∃s,NmS s/\σ=[some (.ref b),some (.ref p3),some (.int f),some (.int (1+2 * g)),some (.ref D),some (.int (0+i)),some (.str s)]/\H6 D=some (.lst ((ss:List Str).map V.str))/\Bag H6 b c/\Kept b H2 H6) ?_ ?_
   ·rintro _ H6 ⟨s,hs,rfl,hd6,B6,k6⟩
    ext
    exists q_ninL hd6 rfl (all_flat ss) ?_
    refine ite2 (fun e=>?_) (fun e=>?_)
    ·ext
     specialize s_bm ?_
     exists ⟨.inl ⟨rfl,_,SqL.of hd6⟩,?_⟩
     refine q_append hd6 (smallT (by rw[List.length_map];omega)) ?_
     exact⟨_,_,ss++[s],snoc_nm hss hs,rfl,by rw[upd_same];simp,by rw[List.length_append,List.length_singleton];omega,fun _=>by simp,B6.put nb nc,k6.put hD⟩
    ·ext
     refine⟨_,_,ss,hss,rfl,hd6,by omega,fun _ z=>?_,B6,k6⟩
     subst z
     exact e rfl
   ·intro nx hnx
    ext
    exists take_ok B5 (by decide) (by decide) fun q H6 _ _ B6 k6=>?_
    refine ite2 (fun _=>?_) (fun _=>?_)
    ·ext
     exists name_ok B6 fun s' H7 hs' B7 k7=>?_
     exact hnx _ _ ⟨s',hs',rfl,k7.1 _ _ (k6.1 _ _ hd5 nb) nb,B7,(k5.trans k6).trans k7⟩
    ·ext
     exact hnx _ _ ⟨s,hs,rfl,k6.1 _ _ hd5 nb,B6,k5.trans k6⟩
  ·intro nx hnx
   ext
   exists q_int (.inl (by omega)) ?_
   refine q_int (by decide) ?_
   obtain⟨v,hv,hv2⟩:=atI_of (xs:=M.map V.str) (i:=(f+(0+(i:Int)) * (1+2 * g)) % 16) (Int.emod_nonneg _ (by decide)) (by
    rw[List.length_map,lM]
    exact Int.emod_lt_of_pos _ (by decide))
   obtain⟨s,hsM,rfl⟩:=List.mem_map.mp (mI hv2)
   exists q_ixL (k4.1 _ _ hm2 pb) hv ?_
   exact hnx _ _ ⟨s,nM s hsM,rfl,hd,B4,k4⟩
 ·rintro _ H4 ⟨x5,x6,ss,hss,rfl,hd,hl,hne,B4,k4⟩
  walk_at "go"
  refine k D H4 ⟨ss,hd,hne (by omega),by omega,hss⟩ B4 (((Kept.of_same s3).trans (k1.trans k2)).trans k4) ?_
  exact(Kept.of_same (b:=b) s3).none (k1.none (k2.none hD))
theorem pow12:(10:Int) ^ (12:Int).toNat=1000000000000:=by decide
theorem value_ok{K:Fg}{H:Hp}{b c:Addr}{Q:VK}{E:XK}(hB:Bag H b c)(k:∀n H',0<=n->n<1000000000000->Bag H' b c->Kept b H H'->Q (.int n) H'):sp_value K [.ref b] H Q E:=by
 refine⟨rfl,?_⟩
 unfold t_value
 walk_at "go"
 refine q_int ⟨by decide,by decide,by decide⟩ ?_
 walk_at "go"
 refine take_ok hB (by decide) (by decide) fun n1 H1 a0 a1 B1 k1=>?_
 walk_at "go"
 refine take_ok B1 (by decide) (by decide) fun n2 H2 b0 b1 B2 k2=>?_
 walk_at "go"
 refine new_i (by simp) fun p G hp e s=>?_
 walk_at "go"
 refine take_ok (B2.same s) (by decide) (by decide) fun n3 H3 c0 c1 B3 k3=>?_
 have hp3:=k3.1 p _ e (B2.nb hp).1
 rw[pow12]at hp3
 have kk:Kept b H H3:=(k1.trans k2).trans ((Kept.of_same s).trans k3)
 obtain⟨v,hv,hv2⟩:=atI_of (xs:=([.int 0,.int 1,.int (1000000000000 - 1 - n1),.int n2]:List V)) c0 (by simpa using c1)
 refine q_ixL hp3 hv ?_
 have:∃n,v=.int n/\0<=n/\n<1000000000000:=by
  have m:=mI hv2
  simp only[List.mem_cons,List.not_mem_nil,or_false]at m
  rcases m with rfl | rfl | rfl | rfl
  ·exact⟨0,rfl,by decide,by decide⟩
  ·exact⟨1,rfl,by decide,by decide⟩
  ·exact⟨_,rfl,by omega,by omega⟩
  ·exact⟨_,rfl,by omega,by omega⟩
 obtain⟨n,rfl,q0,q1⟩:=this
 exact k n H3 q0 q1 B3 kk
theorem operand_ok{K:Fg}{H:Hp}{b c a:Addr}{Q:VK}{E:XK}(hB:Bag H b c)(hN:NamesN H a)(k:∀v H',OpN v->Bag H' b c->Kept b H H'->Q v H'):sp_operand K [.ref b,.ref a] H Q E:=by
 refine⟨rfl,?_⟩
 unfold t_operand
 nofun
 exists take_ok hB (by decide) (by decide) fun n1 H1 a0 a1 B1 k1=>?_
 refine ite2 (fun _=>?_) (fun _=>?_)
 ·ext
  exact value_ok B1 fun n H2 q0 q1 B2 k2=>k _ _ (.inr ⟨n,rfl,q0,q1⟩) B2 (k1.trans k2)
 ·ext
  obtain⟨N1,ne⟩:=hN.kept hB k1
  obtain⟨ss,h1,h2,h3,h4⟩:=N1.ex
  exists q_lenL h1 ?_
  have hl:0<ss.length:=List.length_pos_iff.mpr h2
  refine take_ok B1 (by rw[List.length_map];omega) (by rw[List.length_map];omega) fun n2 H2 b0 b1 B2 k2=>?_
  obtain⟨v,hv,hv2⟩:=atI_of (xs:=ss.map V.str) b0 b1
  obtain⟨s,hs,rfl⟩:=List.mem_map.mp (mI hv2)
  exact q_ixL (k2.1 _ _ h1 ne) hv (k _ _ (.inl ⟨s,rfl,h4 s hs⟩) B2 (k1.trans k2))
theorem deed_ok{K:Fg}{H:Hp}{b c a:Addr}{Q:VK}{E:XK}(hB:Bag H b c)(hN:NamesN H a)(k:∀p H',DeedN H' p->H p=none->Bag H' b c->Kept b H H'->Q (.ref p) H'):sp_deed K [.ref b,.ref a] H Q E:=by
 refine⟨rfl,?_⟩
 unfold t_deed
 nofun
 exists new_i (by decide) fun p G hp e s=>?_
 refine take_ok (hB.same s) (by decide) (by decide) fun n1 H1 a0 a1 B1 k1=>?_
 have hp1:=k1.1 p _ e (hB.nb hp).1
 have k01:Kept b H H1:=(Kept.of_same s).trans k1
 obtain⟨v,hv,hv2⟩:=atI_of (xs:=([.str "plus", .str "minus", .str "times", .str "less", .str "same"]:List V)) a0 (by simpa using a1)
 refine q_ixL hp1 hv ?_
 have:∃kd:Str,v=.str kd/\kd∈(["plus", "minus", "times", "less", "same"]:List Str):=by
  have m:=mI hv2
  simp only[List.mem_cons,List.not_mem_nil,or_false]at m
  rcases m with rfl | rfl | rfl | rfl | rfl <;> exact⟨_,rfl,by simp⟩
 obtain⟨kd,rfl,hkd⟩:=this
 ext
 nofun
 obtain⟨N1,_⟩:=hN.kept hB k01
 exists operand_ok B1 N1 fun v1 H2 o1 B2 k2=>?_
 nofun
 obtain⟨N2,_⟩:=N1.kept B1 k2
 exists operand_ok B2 N2 fun v2 H3 o2 B3 k3=>?_
 with_reducible refine s_cut (P:=fun σ H4=>∃v2,σ=[some (.ref b),some (.ref a),some (.str kd),some v1,some v2]/\OpN v2/\Bag H4 b c/\Kept b H3 H4) ?_ ?_
 ·rintro _ H4 ⟨v2,rfl,o2,B4,k4⟩
  ext
  refine new_i (by simp) fun q G hq e s=>?_
  exact k q _ ⟨kd,v1,v2,e,o1,o2,hkd⟩ (k01.none (k2.none (k3.none (k4.none hq)))) (B4.same s) ((((k01.trans k2).trans k3).trans k4).trans (Kept.of_same s))
 ·intro nx hnx
  ext
  exists take_ok B3 (by decide) (by decide) fun n4 H4 d0 d1 B4 k4=>?_
  refine ite2 (fun _=>?_) (fun _=>?_)
  ·ext
   exact hnx _ _ ⟨v1,rfl,o1,B4,k4⟩
  ·ext
   exact hnx _ _ ⟨v2,rfl,o2,B4,k4⟩
end RD
namespace RD
open PySem PySem.Spec L2
theorem row_ok{K:Fg}{H:Hp}{b c a p:Addr}{m:Nat}{Q:VK}{E:XK}(hB:Bag H b c)(hN:NamesN H a)(hP:PoolN H p)(k:∀v H',RowN H' v (m == 2)->Bag H' b c->Kept b H H'->Q v H'):sp_row K [.ref b,.ref a,.ref p,.int (m:Int)] H Q E:=by
 refine⟨rfl,?_⟩
 unfold t_row
 nofun
 by_cases h2:m=2
 ·subst h2
  exists iteT' (by decide) ?_
  exists operand_ok hB hN fun v H1 o1 B1 k1=>?_
  refine new_i (by simp) fun q G hq e s=>?_
  exact k _ _ ⟨q,_,rfl,e,.ask v o1,_,_,rfl,by decide⟩ (B1.same s) (k1.trans (Kept.of_same s))
 have hm:(m == 2)=false:=by simpa using h2
 rw[hm]at k
 exists iteF' (decide_eq_false (by intro z;have:=V.int.inj z;omega)) ?_
 nofun
 exists take_ok hB (by decide) (by decide) fun w H1 w0 w1 B1 k1=>?_
 nofun
 obtain⟨N1,na⟩:=hN.kept hB k1
 have P1:=hP.kept hB k1
 obtain⟨ss,s1,s2,s3,s4⟩:=N1.ex
 exists q_lenL s1 ?_
 refine pick_ok B1 s1 na (by simpa using s2) (by rw[List.length_map];omega) fun n v H2 e1 e2 a2 B2 k2=>?_
 refine q_ixL a2 e1 ?_
 obtain⟨s,hs,rfl⟩:=List.mem_map.mp e2
 have ns:=s4 s hs
 ext
 obtain⟨N2,_⟩:=N1.kept B1 k2
 have P2:=P1.kept B1 k2
 have k02:=k1.trans k2
 nofun
 refine ite2 (fun _=>?_) (fun _=>?_)
 ·obtain⟨ps,p1,p2,p3,p4⟩:=P2.ex
  ext
  exists q_lenL p1 ?_
  refine pick_ok B2 p1 (refs_ne B2 p1) (by simpa using p2) (by rw[List.length_map];omega) fun n v H3 f1 f2 a3 B3 k3=>?_
  refine q_ixL a3 f1 ?_
  obtain⟨d,hd,rfl⟩:=List.mem_map.mp f2
  have hd3:=(p4 d hd).ts (Kept.ts k3 B2)
  ext
  refine new_i (by simp) fun q G hq e s=>?_
  exact k _ _ ⟨q,_,rfl,e,.set _ d ns (hd3.ts (Same.ts s)),_,_,rfl,by decide⟩ (B3.same s) ((k02.trans k3).trans (Kept.of_same s))
 ext
 nofun
 refine ite2 (fun _=>?_) (fun _=>?_)
 ·ext
  exists operand_ok B2 N2 fun v H3 o1 B3 k3=>?_
  refine new_i (by simp) fun q G hq e s=>?_
  exact k _ _ ⟨q,_,rfl,e,.copy _ v ns o1,_,_,rfl,by decide⟩ (B3.same s) ((k02.trans k3).trans (Kept.of_same s))
 ext
 nofun
 refine ite2 (fun _=>?_) (fun _=>?_)
 ·ext
  refine new_i (by simp) fun q G hq e s=>?_
  exact k _ _ ⟨q,_,rfl,e,.take _ ns,_,_,rfl,by decide⟩ (B2.same s) (k02.trans (Kept.of_same s))
 ext
 exists operand_ok B2 N2 fun v H3 o1 B3 k3=>?_
 exists new_i (by simp) fun q1 G1 hq1 e1 s1=>?_
 exists new_i (by simp) fun q2 G2 hq2 e2 s2=>?_
 exists new_i (by simp) fun q3 G3 hq3 e3 s3=>?_
 have sB:=(B3.same s1).same s2
 refine take_ok (sB.same s3) (by decide) (by decide) fun j H4 j0 j1 B4 k4=>?_
 obtain⟨x,hx,hx2⟩:=atI_of (xs:=[V.ref q1,V.ref q2]) j0 (by simpa using j1)
 refine q_ixL (k4.1 _ _ e3 (sB.nb hq3).1) hx ?_
 have kk:Kept b H H4:=(k02.trans k3).trans ((Kept.of_same ((s1.trans s2).trans s3)).trans k4)
 have f1:H4 q1=_:=k4.1 _ _ (s3 _ _ (s2 _ _ e1)) (B3.nb hq1).1
 have f2:H4 q2=_:=k4.1 _ _ (s3 _ _ e2) ((B3.same s1).nb hq2).1
 have m:=mI hx2
 simp only[List.mem_cons,List.not_mem_nil,or_false]at m
 rcases m with rfl | rfl
 ·exact k _ _ ⟨q1,_,rfl,f1,.tell v o1,_,_,rfl,by decide⟩ B4 kk
 ·exact k _ _ ⟨q2,_,rfl,f2,.skip,_,_,rfl,by decide⟩ B4 kk
end RD
namespace RD
open PySem PySem.Spec L2
theorem net_ok{K:Fg}{H:Hp}{b c:Addr}{m:Nat}{Q:VK}{E:XK}(hB:Bag H b c)(m0:0<m)(m1:m<=24)
  (k:∀a N H',NetAt H' a N->N.length=m->(∀l∈N,l.length<=2/\∀t∈l,t<m)->N[m - 1]? = some []->Bag H' b c->Kept b H H'->Q (.ref a) H'):sp_net K [.ref b,.int (m:Int)] H Q E:=by
 refine⟨rfl,?_⟩
 unfold t_net
 nofun
 exists new_i (by simp) fun D H1 hD e1 s1=>?_
 obtain⟨nb,nc⟩:=hB.nb hD
 have B1:=hB.same s1
 with_reducible refine s_seq ?_
 specialize s_for (s_rng1 ?_)
 refine⟨m,rfl,by omega,by omega,?_⟩
 rw[Int.toNat_natCast]
 refine for_range (fun i σ H2=>∃x3 x4 x5 x6 as N,σ=[some (.ref b),some (.int (m:Int)),some (.ref D),x3,x4,x5,x6]/\NetI H H2 b c D m as N/\N.length=i/\(i=m->N[m - 1]? = some [])) ?_ ?_ ?_
 ·exact⟨_,_,_,_,[],[],rfl,⟨B1,Kept.of_same s1,e1,nb,nc,rfl,fun i x l e=>by simp at e,fun l h=>by simp at h⟩,rfl,fun z=>by omega⟩
 ·rintro i _ H2 hi ⟨x3,x4,x5,x6,as,N,rfl,I2,hlen,_⟩
  ext
  rw[Int.zero_add]
  nofun
  exists q_min ?_
  obtain⟨r,hr,hrm⟩:∃r:Nat,(if(m:Int) - 1<(i:Int)+1 then (m:Int) - 1 else (i:Int)+1)=(r:Int)/\r<m:=by
   by_cases h:(m:Int) - 1<(i:Int)+1
   ·exact⟨m - 1,by rw[if_pos h];omega,by omega⟩
   ·exact⟨i+1,by rw[if_neg h];omega,by omega⟩
  rw[hr]
  nofun
  refine take_ok I2.bag (by omega) (by omega) fun j H3 j0 j1 B3 k3=>?_
  obtain⟨j,rfl⟩:=Int.eq_ofNat_of_zero_le j0
  ext
  exists new_i (by simp) fun q H4 hq e4 s4=>?_
  have I3:=I2.next B3 k3
  have I4:=I3.next (B3.same s4) (Kept.of_same s4)
  have S4:SomeI H4 b D q m [r,j]:=⟨e4,(ne_of_none I3.hD hq).symm,(B3.nb hq).1,by simp,fun t ht=>by
   simp only[List.mem_cons,List.not_mem_nil,or_false]at ht
   rcases ht with rfl | rfl
   ·exact hrm
   ·omega⟩
  nofun
  exists take_ok I4.bag (by decide) (by decide) fun w H5 w0 w1 B5 k5=>?_
  have I5:=I4.next B5 k5
  have S5:=S4.next k5
  with_reducible refine s_cut (P:=fun σ H6=>∃q l,σ=[some (.ref b),some (.int (m:Int)),some (.ref D),some (.int (i:Int)),some (.int (r:Int)),some (.ref q),some (.int w)]/\NetI H H6 b c D m as N/\SomeI H6 b D q m l/\l.length=2) ?_ ?_
  rotate_left
  ·intro nx hnx
   ext
   refine ite2 (fun _=>?_) (fun _=>?_)
   ·ext
    exists q_ixL S5.h (atI1 _ _ _) ?_
    refine new_i (by simp) fun q6 H6 hq6 e6 s6=>?_
    exact hnx _ _ ⟨q6,[j,r],rfl,I5.next (B5.same s6) (Kept.of_same s6),⟨e6,(ne_of_none I5.hD hq6).symm,(B5.nb hq6).1,by simp,fun t ht=>by
     simp only[List.mem_cons,List.not_mem_nil,or_false]at ht
     rcases ht with rfl | rfl
     ·exact S5.lt _ (by simp)
     ·exact S5.lt _ (by simp)⟩,rfl⟩
   ·ext
    exact hnx _ _ ⟨q,[r,j],rfl,I5,S5,rfl⟩
  rintro _ H6 ⟨q,l,rfl,I6,S6,hl6⟩
  obtain⟨l0,l1,rfl⟩:∃l0 l1,l=[l0,l1]:=by
   match l,hl6 with
   | [a,b],_=>exact⟨a,b,rfl⟩
  with_reducible refine s_cut (P:=fun σ H6=>∃q l,σ=[some (.ref b),some (.int (m:Int)),some (.ref D),some (.int (i:Int)),some (.int (r:Int)),some (.ref q),some (.int w)]/\NetI H H6 b c D m as N/\SomeI H6 b D q m l/\l.length=2) ?_ ?_
  rotate_left
  ·intro nx hnx
   ext
   refine ite2 (fun _=>?_) (fun _=>?_)
   ·ext
    exists q_ixL S6.h (atI1 _ _ _) ?_
    refine take_ok I6.bag (by omega) (by omega) fun j2 H7 z0 z1 B7 k7=>?_
    obtain⟨j2,rfl⟩:=Int.eq_ofNat_of_zero_le z0
    ext
    have I7:=I6.next B7 k7
    refine new_i (by simp) fun q8 H8 hq8 e8 s8=>?_
    exact hnx _ _ ⟨q8,[l1,j2],rfl,I7.next (B7.same s8) (Kept.of_same s8),⟨e8,(ne_of_none I7.hD hq8).symm,(B7.nb hq8).1,by simp,fun t ht=>by
     simp only[List.mem_cons,List.not_mem_nil,or_false]at ht
     rcases ht with rfl | rfl
     ·exact S6.lt _ (by simp)
     ·omega⟩,rfl⟩
   ·ext
    exact hnx _ _ ⟨q,_,rfl,I6,S6,rfl⟩
  clear S6 I6 l0 l1 hl6 S5 I5 S4 I4 I3 B3 k3 B5 k5 s4 e4 hq
  rintro _ H6 ⟨q,l,rfl,I6,S6,hl6⟩
  obtain⟨l0,l1,rfl⟩:∃l0 l1,l=[l0,l1]:=by
   match l,hl6 with
   | [a,b],_=>exact⟨a,b,rfl⟩
  with_reducible refine s_cut (P:=fun σ H6=>∃q l,σ=[some (.ref b),some (.int (m:Int)),some (.ref D),some (.int (i:Int)),some (.int (r:Int)),some (.ref q),some (.int w)]/\NetI H H6 b c D m as N/\SomeI H6 b D q m l/\(w=7->1<m->l.length=2)) ?_ ?_
  rotate_left
  ·intro nx hnx
   have one:∀H7,H7=H6->((w=7/\1<m)->False)->New (.lst [V.int (r:Int)]) 1 H7 fun v H1=>nx [some (.ref b),some (.int (m:Int)),some (.ref D),some (.int (i:Int)),some (.int (r:Int)),some v,some (.int w)] H1:=by
    rintro _ rfl hw
    refine new_i (by simp) fun q8 H8 hq8 e8 s8=>?_
    exact hnx _ _ ⟨q8,[r],rfl,I6.next (I6.bag.same s8) (Kept.of_same s8),⟨e8,(ne_of_none I6.hD hq8).symm,(I6.bag.nb hq8).1,by simp,fun t ht=>by rw[List.mem_singleton.mp ht];exact hrm⟩,fun h1 h2=>(hw ⟨h1,h2⟩).elim⟩
   ext
   refine ite2 (fun a3=>?_) (fun a3=>?_)
   ·ext
    refine ite2 (fun a7=>?_) (fun a7=>?_)
    ·exists iteT' rfl ?_
     exact one _ rfl fun⟨z,_⟩=>by have:=of_decide_eq_true a7;omega
    ·ext
     refine ite2 (fun a1=>?_) (fun a1=>?_)
     ·ext
      rw[dec_i]at a1
      exact one _ rfl fun⟨_,z⟩=>by have:=of_decide_eq_true a1;omega
     ·ext
      exact hnx _ _ ⟨q,_,rfl,I6,S6,fun _ _=>rfl⟩
   ·ext
    exists iteF' rfl ?_
    refine ite2 (fun a1=>?_) (fun a1=>?_)
    ·ext
     rw[dec_i]at a1
     exact one _ rfl fun⟨_,z⟩=>by have:=of_decide_eq_true a1;omega
    ·ext
     exact hnx _ _ ⟨q,_,rfl,I6,S6,fun _ _=>rfl⟩
  clear S6 I6 l0 l1 hl6
  rintro _ H6 ⟨q,l,rfl,I6,S6,hl6⟩
  with_reducible refine s_cut (P:=fun σ H6=>∃q l,σ=[some (.ref b),some (.int (m:Int)),some (.ref D),some (.int (i:Int)),some (.int (r:Int)),some (.ref q),some (.int w)]/\NetI H H6 b c D m as N/\SomeI H6 b D q m l) ?_ ?_
  rotate_left
  ·intro nx hnx
   ext
   refine ite2 (fun a7=>?_) (fun a7=>?_)
   ·ext
    refine ite2 (fun a1=>?_) (fun a1=>?_)
    ·rw[dec_i]at a7
     have a7:=of_decide_eq_true a7
     have a1:=of_decide_eq_true a1
     have hl:=hl6 a7 (by omega)
     obtain⟨l0,l1,rfl⟩:∃l0 l1,l=[l0,l1]:=by
      match l,hl with
      | [a,b],_=>exact⟨a,b,rfl⟩
     ext
     exists q_ixL S6.h (atI1 _ _ _) ?_
     refine new_i (by simp) fun q8 H8 hq8 e8 s8=>?_
     exact hnx _ _ ⟨q8,[l1],rfl,I6.next (I6.bag.same s8) (Kept.of_same s8),⟨e8,(ne_of_none I6.hD hq8).symm,(I6.bag.nb hq8).1,by simp,fun t ht=>by rw[List.mem_singleton.mp ht];exact S6.lt _ (by simp)⟩⟩
    ·ext
     exact hnx _ _ ⟨q,_,rfl,I6,S6⟩
   ·exists iteF' rfl ?_
    exact hnx _ _ ⟨q,_,rfl,I6,S6⟩
  clear S6 I6 hl6 l
  rintro _ H6 ⟨q,l,rfl,I6,S6⟩
  with_reducible refine s_cut (P:=fun σ H6=>∃q l,σ=[some (.ref b),some (.int (m:Int)),some (.ref D),some (.int (i:Int)),some (.int (r:Int)),some (.ref q),some (.int w)]/\NetI H H6 b c D m as N/\SomeI H6 b D q m l/\(i+1=m->l=[])) ?_ ?_
  rotate_left
  ·intro nx hnx
   have none:∀H7,NetI H H7 b c D m as N->New (.lst []) 0 H7 fun v H1=>nx [some (.ref b),some (.int (m:Int)),some (.ref D),some (.int (i:Int)),some (.int (r:Int)),some v,some (.int w)] H1:=by
    intro H7 I7
    refine new_i (by simp) fun q8 H8 hq8 e8 s8=>?_
    exact hnx _ _ ⟨q8,[],rfl,I7.next (I7.bag.same s8) (Kept.of_same s8),⟨e8,(ne_of_none I7.hD hq8).symm,(I7.bag.nb hq8).1,by simp,fun t ht=>by simp at ht⟩,fun _=>rfl⟩
   ext
   refine ite2 (fun a1=>?_) (fun a1=>?_)
   ·exists iteT' rfl ?_
    exact none _ I6
   ·rw[dec_i]at a1
    have a1:¬((i:Int)=(m:Int) - 1):=fun z=>a1 (decide_eq_true z)
    ext
    refine ite2 (fun a6=>?_) (fun a6=>?_)
    ·ext
     exists take_ok I6.bag (by decide) (by decide) fun z H7 z0 z1 B7 k7=>?_
     refine ite2 (fun a0=>?_) (fun a0=>?_)
     ·ext
      exact none _ (I6.next B7 k7)
     ·ext
      exact hnx _ _ ⟨q,l,rfl,I6.next B7 k7,S6.next k7,fun z=>by omega⟩
    ·exists iteF' rfl ?_
     exact hnx _ _ ⟨q,l,rfl,I6,S6,fun z=>by omega⟩
  clear S6 I6 l
  rintro _ H6 ⟨q,l,rfl,I6,S6,hlast⟩
  ext
  specialize s_bm ?_
  exists ⟨ty_list I6.hD,?_⟩
  refine q_append I6.hD (smallT (by rw[List.length_map,I6.len];omega)) ?_
  have nqc:D≠c:=I6.nc
  refine⟨_,_,_,_,as++[q],N++[l],rfl,⟨I6.bag.put I6.nb nqc,I6.kept.put hD,by rw[upd_same];simp,I6.nb,I6.nc,by simp[I6.len],?_,?_⟩,by simp[hlen],?_⟩
  ·intro i' x' l' e1' e2'
   rcases snocAt e1' with ⟨hi1,f1⟩ | ⟨hi1,f1⟩
   ·rcases snocAt e2' with ⟨hi2,f2⟩ | ⟨hi2,f2⟩
    ·obtain⟨g1,g2,g3⟩:=I6.at_ i' x' l' f1 f2
     exact⟨by rw[upd_ne g2];exact g1,g2,g3⟩
    ·have:=I6.len;omega
   ·rcases snocAt e2' with ⟨hi2,f2⟩ | ⟨hi2,f2⟩
    ·have:=I6.len;omega
    ·subst f1 f2
     exact⟨by rw[upd_ne S6.nD];exact S6.h,S6.nD,S6.nb⟩
  ·intro l' hl'
   rcases List.mem_append.mp hl' with z | z
   ·exact I6.small l' z
   ·rw[List.mem_singleton.mp z];exact⟨S6.len,S6.lt⟩
  ·intro z
   rw[hlast z]
   have:m - 1=N.length:=by omega
   rw[this];simp
 ·rintro _ H2 ⟨x3,x4,x5,x6,as,N,rfl,I2,hlen,hlast⟩
  ext
  exact k D N H2 ⟨as,I2.hD,I2.len,fun i x l e1 e2=>(I2.at_ i x l e1 e2).1⟩ hlen I2.small (hlast rfl) I2.bag I2.kept
end RD
namespace RD
open PySem PySem.Spec L2
theorem cutD1(xs:List V):cutV xs (some 1) none=xs.drop 1:=by
 cases xs with
 | nil=>rfl
 | cons a r=>rw[cut1];rfl
theorem IL_drop(l:List Nat)(n:Nat):(IL l).drop n=IL (l.drop n):=by unfold IL;rw[List.map_drop]
theorem flatEq_nil(xs:List V):flatEq xs []=decide (xs.length=0):=by
 unfold flatEq
 rw[show min xs.length ([]:List V).length=0 by simp]
 simp only[List.range_zero,List.all_nil,Bool.true_and,List.length_nil]
 by_cases h:xs.length=0
 ·rw[h];rfl
 ·rw[decide_eq_false h]
  simpa using h
theorem any_in{l G:List Nat}(h:(l.map fun t=>decide (t∈G)).any id=true):∃t∈l,t∈G:=by
 obtain⟨x,hx,e⟩:=List.any_eq_true.mp h
 obtain⟨t,ht,rfl⟩:=List.mem_map.mp hx
 exact⟨t,ht,of_decide_eq_true e⟩
theorem il_take{α:Type}(l:List Nat)(f:Nat->α)(i:Nat){t:Nat}(e:l[i]? = some t):(l.take (i+1)).map f=(l.take i).map f++[f t]:=by
 rw[List.take_add_one,e];simp
structure GoodI(H0 H:Hp)(d:Addr)(N:Nt)(G:List Nat):Prop where
 same:Same H0 H
 hd:H d=some (.dK (KS G))
 nd:G.Nodup
 lt:∀k∈G,k<N.length
 gd:∀k∈G,Gd N k
theorem GoodI.next{H0 H H':Hp}{d:Addr}{N:Nt}{G:List Nat}(h:GoodI H0 H d N G)(s:Same H H'):GoodI H0 H' d N G:=⟨h.same.trans s,s _ _ h.hd,h.nd,h.lt,h.gd⟩
theorem GoodI.put{H0 H:Hp}{d:Addr}{N:Nt}{G:List Nat}(h:GoodI H0 H d N G)(n:H0 d=none){k:Nat}(hk:k<N.length)(g:Gd N k):GoodI H0 (upd H d (.dK (KS (put1 G k)))) d N (put1 G k):=
 ⟨fun b o e=>by rw[upd_ne (ne_of_none e n)];exact h.same b o e,upd_same,nd_put1 h.nd,fun j hj=>(mem_put1.mp hj).elim (h.lt j) fun z=>z ▸ hk,fun j hj=>(mem_put1.mp hj).elim (h.gd j) fun z=>z ▸ g⟩
theorem good_ok{K:Fg}{H:Hp}{a d:Addr}{N:Nt}{i:Nat}{l:List Nat}{x2 x4 x5 x6:Option V}{G:List Nat}{D:Ends}{H0:Hp}(n0:H0 d=none)(hn:NetAt H a N)(hN:N.length<=24)(hl:N[i]? = some l)(hl2:l.length<=2)(hG:GoodI H0 H d N G)
  (k:∀H' G',GoodI H0 H' d N G'->(∀j∈G,j∈G')->(l=[]->i∈G')->NetAt H' a N->D.nx [some (.ref a),some (.ref d),x2,some (.int (i:Int)),x4,x5,x6] H') :
  tIfS (tOr (tTest (tOp qEq (tOp qIx (tVar 0) (tVar 3)) (tLst (tNil)))) (tB (tCB qAny (tCons (tComp (iList K (tOp qIx (tVar 0) (tVar 3))) (tTrue) (tDIn (tVar 0) (tVar 2))) (tNil))))) (sDPut (tVar 1) (tVar 3) (tC (.bl true))) (tNext) D
   [some (.ref a),some (.ref d),x2,some (.int (i:Int)),x4,x5,x6] H:=by
 have hi:i<N.length:=(gI hl)
 have hGl:G.length<100000:=by
  have:=nd_le _ _ hG.nd hG.lt
  omega
 have put:∀H1,NetAt H1 a N->GoodI H0 H1 d N G->a≠d->(∀x,H1 x=some (.dK (KS G))->True)->Gd N i->sDPut (tVar 1) (tVar 3) (tC (.bl true)) D [some (.ref a),some (.ref d),x2,some (.int (i:Int)),x4,x5,x6] H1:=by
  intro H1 n1 g1 nad _ gd
  specialize s_dput ?_
  refine⟨d,_,rfl,dput_in g1.hd hGl i,?_⟩
  refine k _ (put1 G i) (g1.put n0 hi gd) (fun j hj=>mem_put1.mpr (.inl hj)) (fun _=>mem_put1.mpr (.inr rfl)) ?_
  obtain⟨as,q1,q2,q3⟩:=n1.ex
  refine⟨as,by rw[upd_ne nad];exact q1,q2,fun j x l' e1 e2=>?_⟩
  have q:=q3 j x l' e1 e2
  rw[upd_ne (ne_of q g1.hd (by intro z;cases z))]
  exact q
 obtain⟨xs,x,h1,h2,h3,_⟩:=hn.at hl
 have nad:a≠d:=ne_of h1 hG.hd (by intro z;cases z)
 ext
 exists q_ixL h1 h2 ?_
 refine new_i (by simp) fun p H1 hp e1 s1=>?_
 refine⟨_,eqO_lst (s1 _ _ h3) e1 (IL_flat l) rfl,?_⟩
 rw[flatEq_nil,IL_len]
 ext
 by_cases hz:l=[]
 ·refine iteT' (decide_eq_true (by rw[hz];rfl)) ?_
  refine iteT' rfl ?_
  exact put H1 (hn.same s1) (hG.next s1) nad (fun _ _=>trivial) (.stop (hz ▸ hl))
 exists iteF' (decide_eq_false fun z=>hz (List.length_eq_zero_iff.mp z)) ?_
 specialize s_comp (s_ilst ?_)
 refine q_ixL (s1 _ _ h1) h2 ?_
 refine⟨x,rfl,⟨_,SqL.of (s1 _ _ h3)⟩,fun E hE=>?_⟩
 have G1:=hG.next s1
 refine comp_lst (xs:=IL l) (fun j ys H2=>ys=(l.take j).map (fun t=>V.bl (decide (t∈G)))/\H2 E=some (.lst ys)/\Same H1 H2) ⟨by simp,upd_same,same_new hE⟩ ?_ ?_ ?_ ?_
 ·rintro j ys H2 ⟨_,h,_⟩
  exact h
 ·rintro j ys H2 _ ⟨_,_,s2⟩
  exact SqL.of (s2 _ _ (s1 _ _ h3))
 ·rintro j y ys H2 hy ⟨rfl,hE2,s2⟩ R hR
  have hy:(l.map fun(n:Nat)=>V.int (n:Int))[j]? = some y:=hy
  rw[List.getElem?_map]at hy
  cases ht:l[j]? with
  | none=>rw[ht]at hy;cases hy
  | some t=>
   rw[ht]at hy
   cases hy
   have hj:=(gI ht)
   specialize s_din ?_
   obtain⟨o,g1,g2⟩:=dget_in (s2 _ _ G1.hd) t
   refine⟨d,o,rfl,g1,?_⟩
   rw[g2]
   refine hR _ _ hE2 (smallT ?_) ⟨?_,upd_same,fun b o e=>?_⟩
   ·rw[List.length_map,List.length_take]
    omega
   ·rw[il_take l _ j ht]
   ·rw[upd_ne (ne_of_none e hE)];exact s2 b o e
 ·rintro ys H2 ⟨rfl,hE2,s2⟩
  rw[IL_len,List.take_length]at hE2
  have he:l.map (fun t=>V.bl (decide (t∈G)))=(l.map fun t=>decide (t∈G)).map V.bl:=by rw[List.map_map];rfl
  rw[he]at hE2
  ext
  exists q_any hE2 ?_
  refine ite2 (fun c=>?_) (fun c=>?_)
  ·obtain⟨t,t1,t2⟩:=any_in c
   exact put H2 ((hn.same s1).same s2) (G1.next s2) nad (fun _ _=>trivial) (.step hl t1 (hG.gd t t2))
  ·ext
   exact k H2 G (G1.next s2) (fun j hj=>hj) (fun z=>(hz z).elim) ((hn.same s1).same s2)
structure RchI(H0 H:Hp)(d:Addr)(N:Nt)(S:List Nat):Prop where
 same:Same H0 H
 hd:H d=some (.dK (KS S))
 nd:S.Nodup
 lt:∀k∈S,k<N.length
 rc:∀k∈S,Rc N k
 zero:0∈S
theorem RchI.put{H0 H:Hp}{d:Addr}{N:Nt}{S:List Nat}(h:RchI H0 H d N S)(n:H0 d=none){k:Nat}(hk:k<N.length)(g:Rc N k):RchI H0 (upd H d (.dK (KS (put1 S k)))) d N (put1 S k):=
 ⟨fun b o e=>by rw[upd_ne (ne_of_none e n)];exact h.same b o e,upd_same,nd_put1 h.nd,fun j hj=>(mem_put1.mp hj).elim (h.lt j) fun z=>z ▸ hk,fun j hj=>(mem_put1.mp hj).elim (h.rc j) fun z=>z ▸ g,mem_put1.mpr (.inl h.zero)⟩
def Closed(N:Nt)(S:List Nat):Prop:=∀k∈S,∀l,N[k]? = some l->∀t∈l,t∈S
theorem put1_of{S:List Nat}{k:Nat}(h:k∈S):put1 S k=S:=by unfold put1;rw[if_pos h]
theorem NetAt.dput{H:Hp}{a d:Addr}{N:Nt}{ks:List (Key×V)}{o:HO}(h:NetAt H a N)(hd:H d=some (.dK ks)):NetAt (upd H d o) a N:=by
 obtain⟨as,q1,q2,q3⟩:=h.ex
 exact⟨as,by rw[upd_ne (ne_of q1 hd (by intro z;cases z))];exact q1,q2,fun j x l e1 e2=>by
  have q:=q3 j x l e1 e2
  rw[upd_ne (ne_of q hd (by intro z;cases z))];exact q⟩
theorem reach_ok{K:Fg}{H:Hp}{a d:Addr}{N:Nt}{i:Nat}{l:List Nat}{x1 x2 x5 x6:Option V}{S:List Nat}{D:Ends}{H0:Hp}(n0:H0 d=none)(hn:NetAt H a N)(hN:N.length<=24)(hl:N[i]? = some l)(hlt:∀t∈l,t<N.length)(hS:RchI H0 H d N S)
  (k:∀H' S' x5,RchI H0 H' d N S'->(∀j∈S,j∈S')->(i∈S->∀t∈l,t∈S')->(Closed N S->S'=S)->NetAt H' a N->D.nx [some (.ref a),x1,x2,some (.int (i:Int)),some (.ref d),x5,x6] H') :
  tIfS (tB (tDIn (tVar 3) (tVar 4))) (tFor (iList K (tOp qIx (tVar 0) (tVar 3))) (gName 5) (sDPut (tVar 4) (tVar 5) (tC (.bl true)))) (tNext) D [some (.ref a),x1,x2,some (.int (i:Int)),some (.ref d),x5,x6] H:=by
 ext
 specialize s_din ?_
 obtain⟨o,g1,g2⟩:=dget_in hS.hd i
 refine⟨d,o,rfl,g1,?_⟩
 rw[g2]
 ext
 refine ite2 (fun c=>?_) (fun c=>?_)
 ·have hi:i∈S:=of_decide_eq_true c
  obtain⟨xs,x,h1,h2,h3,_⟩:=hn.at hl
  specialize s_for (s_ilst ?_)
  refine q_ixL h1 h2 ?_
  refine⟨x,rfl,⟨_,SqL.of h3⟩,for_list (xs:=IL l) (fun j σ H2=>∃S' x5,σ=[some (.ref a),x1,x2,some (.int (i:Int)),some (.ref d),x5,x6]/\RchI H0 H2 d N S'/\(∀j∈S,j∈S')/\(∀t∈l.take j,t∈S')/\(Closed N S->S'=S)/\NetAt H2 a N/\H2 x=some (.lst (IL l))) ?_ ?_ ?_ ?_⟩
  ·exact⟨S,x5,rfl,hS,fun _ h=>h,by simp,fun _=>rfl,hn,h3⟩
  ·rintro j σ H2 _ ⟨_,_,_,_,_,_,_,_,h⟩
   exact SqL.of h
  ·rintro j y _ H2 hy ⟨S',x5,rfl,I2,i1,i2,i3,n2,hx2⟩
   have hy:(l.map fun(n:Nat)=>V.int (n:Int))[j]? = some y:=hy
   rw[List.getElem?_map]at hy
   cases ht:l[j]? with
   | none=>rw[ht]at hy;cases hy
   | some t=>
    rw[ht]at hy
    cases hy
    have tm:=mI ht
    ext
    specialize s_dput ?_
    refine⟨d,_,rfl,dput_in I2.hd (by have:=nd_le _ _ I2.nd I2.lt;omega) t,?_⟩
    refine⟨put1 S' t,_,rfl,I2.put n0 (hlt t tm) (.step (hS.rc i hi) hl tm),fun j hj=>mem_put1.mpr (.inl (i1 j hj)),fun z hz=>?_,fun hc=>?_,n2.dput I2.hd,?_⟩
    ·rw[List.take_add_one,ht]at hz
     rcases List.mem_append.mp hz with q | q
     ·exact mem_put1.mpr (.inl (i2 z q))
     ·exact mem_put1.mpr (.inr (by simpa using q))
    ·rw[i3 hc]
     exact put1_of (hc i hi l hl t tm)
    ·rw[upd_ne (ne_of hx2 I2.hd (by intro z;cases z))];exact hx2
  ·rintro _ H2 ⟨S',x5,rfl,I2,i1,i2,i3,n2,hx2⟩
   refine k H2 S' x5 I2 i1 (fun _ t ht=>i2 t ?_) i3 n2
   rw[IL_len,List.take_length];exact ht
 ·ext
  exact k H S x5 hS (fun _ h=>h) (fun h=>(c (decide_eq_true h)).elim) (fun _=>rfl) hn
end RD
namespace RD
open PySem PySem.Spec L2
theorem nat_of_perm{ms:List Int}{S:List Nat}(h:ms.Perm (S.map fun(n:Nat)=>(n:Int))):∃O:List Nat,O.Perm S/\ms=O.map fun(n:Nat)=>(n:Int):=by
 refine⟨ms.map Int.toNat,?_,?_⟩
 ·have:=h.map Int.toNat
  rw[List.map_map]at this
  have e:(Int.toNat ∘ fun(n:Nat)=>(n:Int))=id:=by funext n;simp
  rw[e,List.map_id]at this
  exact this
 ·rw[List.map_map]
  have:∀x∈ms,((fun(n:Nat)=>(n:Int)) ∘ Int.toNat) x=id x:=by
   intro x hx
   obtain⟨n,_,rfl⟩:=List.mem_map.mp (h.subset hx)
   simp
  rw[List.map_congr_left this,List.map_id]
theorem sorted_nat{O:List Nat}(h:(O.map fun(n:Nat)=>(n:Int)).Pairwise (· <= ·)):O.Pairwise (· <= ·):=by
 rw[List.pairwise_map]at h
 exact h.imp fun q=>by omega
theorem idx_cast(O:List Nat)(t:Nat):(O.map fun(n:Nat)=>(n:Int)).idxOf (t:Int)=O.idxOf t:=by
 induction O with
 | nil=>rfl
 | cons a r ih=>
  rw[List.map_cons,List.idxOf_cons,List.idxOf_cons]
  by_cases e:a=t
  ·subst e;simp
  ·have:((a:Int) == (t:Int))=false:=by simp;omega
   have e2:(a == t)=false:=by simpa using e
   rw[this,e2,ih]
theorem at_len{N:Nt}{i:Nat}(h:i<N.length):N[i]? = some N[i]:=by simp
theorem mended_ok{K:Fg}{H:Hp}{a:Addr}{N:Nt}{Q:VK}{E:XK}(hn:NetAt H a N)(hp:0<N.length)(hN:N.length<=24)(hs:∀l∈N,l.length<=2/\∀t∈l,t<N.length)(hl:N[N.length - 1]? = some [])
  (k:∀a' N' H',NetAt H' a' N'->Valid N'->N'.length<=24->Same H H'->Q (.ref a') H'):sp_mended K [.ref a] H Q E:=by
 refine⟨rfl,?_⟩
 unfold t_mended
 nofun
 exists s_dnew fun d H1 hd e1 s1=>?_
 have n1:=hn.same s1
 obtain⟨xs0,hx0,lx0⟩:=hn.len
 with_reducible refine s_cut (P:=fun σ H2=>∃x2 x3 G,σ=[some (.ref a),some (.ref d),x2,x3,none,none,none]/\GoodI H H2 d N G/\N.length - 1∈G/\NetAt H2 a N) ?_ ?_
 rotate_left
 ·intro nx hnx
  specialize s_for (s_rng1 ?_)
  refine q_lenL (s1 _ _ hx0) ?_
  refine⟨N.length,by rw[lx0],by omega,by omega,?_⟩
  rw[Int.toNat_natCast]
  refine for_range (fun i σ H2=>∃x2 x3 G,σ=[some (.ref a),some (.ref d),x2,x3,none,none,none]/\GoodI H H2 d N G/\(0<i->N.length - 1∈G)/\NetAt H2 a N) ?_ ?_ ?_
  ·exact⟨_,_,[],rfl,⟨s1,e1,by simp,by simp,by simp⟩,by omega,n1⟩
  ·rintro i _ H2 hi ⟨x2,x3,G,rfl,I2,g2,n2⟩
   ext
   obtain⟨xs2,hx2,lx2⟩:=n2.len
   specialize s_for (s_rng1 ?_)
   refine q_lenL hx2 ?_
   refine⟨N.length,by rw[lx2],by omega,by omega,?_⟩
   rw[Int.toNat_natCast]
   refine for_range (fun j σ H3=>∃x3 G,σ=[some (.ref a),some (.ref d),some (.int (0+(i:Int))),x3,none,none,none]/\GoodI H H3 d N G/\(j=N.length->N.length - 1∈G)/\NetAt H3 a N) ?_ ?_ ?_
   ·exact⟨_,G,rfl,I2,by omega,n2⟩
   ·rintro j _ H3 hj ⟨x3,G3,rfl,I3,g3,n3⟩
    with_reducible refine s_gname ?_
    rw[Int.zero_add (j:Int)]
    refine good_ok hd n3 hN (at_len hj) (hs _ (List.getElem_mem _)).1 I3 fun H4 G4 I4 sub4 h4 n4=>?_
    refine⟨_,G4,rfl,I4,fun z=>?_,n4⟩
    have e:N.length - 1=j:=by omega
    rw[e]at hl ⊢
    refine h4 ?_
    rw[at_len hj]at hl
    exact Option.some.inj hl
   ·rintro _ H3 ⟨x3,G3,rfl,I3,g3,n3⟩
    exact⟨_,_,G3,rfl,I3,fun _=>g3 rfl,n3⟩
  ·rintro _ H2 ⟨x2,x3,G,rfl,I2,g2,n2⟩
   exact hnx _ _ ⟨x2,x3,G,rfl,I2,g2 hp,n2⟩
 rintro _ H2 ⟨x2,x3,G,rfl,I2,hlast,n2⟩
 nofun
 with_reducible refine s_comp (s_rng1 ?_)
 obtain⟨xs2,hx2,lx2⟩:=n2.len
 ext
 refine q_lenL hx2 ?_
 refine⟨N.length,by rw[lx2],by omega,by omega,fun A hA=>?_⟩
 rw[Int.toNat_natCast]
 refine comp_rng (fun i ys H3=>∃as:List Addr,ys=as.map V.ref/\as.length=i/\(∀(j:Nat) x l,as[j]? = some x->(mend1 N G)[j]? = some l->H3 x=some (.lst (IL l))/\x≠A)/\H3 A=some (.lst ys)/\Same H2 H3) ?_ ?_ ?_ ?_
 ·exact⟨[],rfl,rfl,by simp,upd_same,same_new hA⟩
 ·rintro i ys H3 ⟨_,_,_,_,h,_⟩
  exact h
 ·rintro i ys H3 hi ⟨as,rfl,la,at3,hA3,s3⟩ R hR
  rw[Int.zero_add]
  obtain⟨ys0,x,f1,f2,f3,f4⟩:=(n2.same s3).at (at_len hi)
  have more:∀q H4,Same H3 H4->(∀l,(mend1 N G)[i]? = some l->H4 q=some (.lst (IL l)))->q≠A->R (.ref q) H4:=by
   intro q H4 s4 hq nq
   refine hR _ _ (s4 _ _ hA3) (smallT (by rw[List.length_map];omega)) ⟨as++[q],by simp,by simp[la],?_,upd_same,fun b o e=>?_⟩
   ·intro j y l' h1 h2
    rcases snocAt h1 with ⟨_,g1⟩ | ⟨hj,g1⟩
    ·obtain⟨g2,g3⟩:=at3 j y l' g1 h2
     exact⟨by rw[upd_ne g3];exact s4 _ _ g2,g3⟩
    ·rw[hj,la]at h2
     subst g1
     exact⟨by rw[upd_ne nq];exact hq l' h2,nq⟩
   ·rw[upd_ne (ne_of_none e hA)]
    exact s4 _ _ (s3 _ _ e)
  ext
  specialize s_din ?_
  obtain⟨o,g1,g2⟩:=dget_in (s3 _ _ I2.hd) i
  refine⟨d,o,rfl,g1,?_⟩
  rw[g2]
  ext
  refine ite2 (fun c=>?_) (fun c=>?_)
  ·ext
   refine q_ixL f1 f2 ?_
   refine more x H3 (Same.refl _) (fun l hl'=>?_) ?_
   ·rw[mend1_in (at_len hi) (of_decide_eq_true c)]at hl'
    cases hl'
    exact f3
   ·refine(ne_of_none (H:=H2) (a:=x) (b:=A) (o:=.lst (IL N[i])) ?_ hA)
    obtain⟨ys1,x',f1',f2',f3',_⟩:=n2.at (at_len hi)
    have e1:=s3 _ _ f1'
    rw[f1]at e1
    cases e1
    rw[f2]at f2'
    cases f2'
    exact f3'
  ·ext
   exists q_lenL f1 ?_
   exists new_i (by simp) fun p1 H4 hp1 e4 s4=>?_
   exists q_ixL (s4 _ _ f1) f2 ?_
   refine q_slL (s4 _ _ f3) fun p2 H5 hp2 e5 s5=>?_
   rw[cutD1,IL_drop]at e5
   have hl2:=(hs _ (List.getElem_mem (l:=N) (h:=hi))).1
   refine q_addL (s5 _ _ e4) e5 (new_i (by simp[IL_len];omega) fun p3 H6 hp3 e6 s6=>?_)
   refine more p3 H6 ((s4.trans s5).trans s6) (fun l hl'=>?_) ?_
   ·rw[mend1_out (at_len hi) (fun z=>c (decide_eq_true z))]at hl'
    cases hl'
    rw[e6,f4]
    have:((N.length:Int) - 1)=((N.length - 1:Nat):Int):=by omega
    rw[this]
    rfl
   ·exact(ne_of_none ((s4.trans s5) _ _ hA3) hp3).symm
 rintro ys H3 ⟨as,rfl,la,at3,hA3,s3⟩
 obtain⟨N2,hN2⟩:∃N2,N2=mend1 N G:=⟨_,rfl⟩
 have len2:N2.length=N.length:=by rw[hN2,mend1_len]
 have n3:NetAt H3 A N2:=⟨as,hA3,by rw[len2,la],fun i x l h1 h2=>(at3 i x l h1 (hN2 ▸ h2)).1⟩
 have small2:∀l∈N2,l.length<=2/\∀t∈l,t<N2.length:=by
  rw[len2,hN2]
  exact mend1_small hp hs hl hlast
 have gd2:∀k,k<N2.length->Gd N2 k:=by
  rw[len2,hN2]
  exact gd_mend I2.gd hl hlast
 have s03:Same H H3:=I2.same.trans s3
 clear at3 hN2 la
 ext
 nofun
 intro r hr
 refine⟨upd_same,[(Sum.inl 0,V.bl true)],rfl,by simp,?_⟩
 have e4:(upd (upd H3 r (.dK [])) r (.dK (mergeK [] [(Sum.inl 0,V.bl true)])))=upd H3 r (.dK (KS [0])):=by
  rw[upd_upd];rfl
 rw[e4]
 ext
 obtain⟨H4,hH4⟩:∃H4,H4=upd H3 r (.dK (KS [0])):=⟨_,rfl⟩
 rw[<-hH4]
 have s4:Same H3 H4:=hH4 ▸ same_new hr
 have er:H4 r=some (.dK (KS [0])):=hH4 ▸ upd_same
 have n4:=n3.same s4
 clear hH4 e4
 have hp2:0<N2.length:=by omega
 with_reducible refine s_cut (P:=fun σ H5=>∃x2 x3 x5 S,σ=[some (.ref A),some (.ref d),x2,x3,some (.ref r),x5,none]/\RchI H3 H5 r N2 S/\Closed N2 S/\NetAt H5 A N2) ?_ ?_
 rotate_left
 ·intro nx hnx
  obtain⟨ys4,hy4,ly4⟩:=n4.len
  specialize s_for (s_rng1 ?_)
  refine q_lenL hy4 ?_
  refine⟨N2.length,by rw[ly4],by omega,by omega,?_⟩
  rw[Int.toNat_natCast]
  refine for_range (fun i σ H5=>∃x2 x3 x5 S,σ=[some (.ref A),some (.ref d),x2,x3,some (.ref r),x5,none]/\RchI H3 H5 r N2 S/\(Closed N2 S\/i+1<=S.length)/\NetAt H5 A N2) ?_ ?_ ?_
  ·exact⟨_,_,_,[0],rfl,⟨s4,er,by simp,by simpa using hp2,by simpa using Rc.zero,by simp⟩,.inr (by simp),n4⟩
  ·rintro i _ H5 hi ⟨x2,x3,x5,S,rfl,I5,g5,n5⟩
   ext
   obtain⟨ys5,hy5,ly5⟩:=n5.len
   specialize s_for (s_rng1 ?_)
   refine q_lenL hy5 ?_
   refine⟨N2.length,by rw[ly5],by omega,by omega,?_⟩
   rw[Int.toNat_natCast]
   refine for_range (fun j σ H6=>∃x3 x5 S',σ=[some (.ref A),some (.ref d),some (.int (0+(i:Int))),x3,some (.ref r),x5,none]/\RchI H3 H6 r N2 S'/\(∀k∈S,k∈S')/\(∀k∈S,k<j->∀l,N2[k]? = some l->∀t∈l,t∈S')/\(Closed N2 S->S'=S)/\NetAt H6 A N2) ?_ ?_ ?_
   ·exact⟨_,_,S,rfl,I5,fun _ h=>h,by omega,fun _=>rfl,n5⟩
   ·rintro j _ H6 hj ⟨x3,x5,S',rfl,I6,b1,b2,b3,n6⟩
    with_reducible refine s_gname ?_
    rw[Int.zero_add (j:Int)]
    refine reach_ok hr n6 (by omega) (at_len hj) (small2 _ (List.getElem_mem _)).2 I6 fun H7 S7 x5 I7 c1 c2 c3 n7=>?_
    refine⟨_,x5,S7,rfl,I7,fun k hk=>c1 k (b1 k hk),fun k hk hkj l hl' t ht=>?_,fun hc=>?_,n7⟩
    ·by_cases e:k=j
     ·subst e
      rw[at_len hj]at hl'
      cases hl'
      exact c2 (b1 k hk) t ht
     ·exact c1 t (b2 k hk (by omega) l hl' t ht)
    ·have:=b3 hc
     rw[this]at c3
     exact c3 hc
   ·rintro _ H6 ⟨x3,x5,S',rfl,I6,b1,b2,b3,n6⟩
    refine⟨_,x3,x5,S',rfl,I6,?_,n6⟩
    rcases g5 with hc | hc
    ·exact .inl (by rw[b3 hc];exact hc)
    ·by_cases hcl:Closed N2 S
     ·exact .inl (by rw[b3 hcl];exact hcl)
     ·right
      obtain⟨t,t1,t2⟩:∃t,t∈S'/\¬t∈S:=by
       refine Classical.byContradiction fun hno=>hcl fun k hk l hl' t ht=>?_
       refine Classical.byContradiction fun hts=>hno ⟨t,b2 k hk (I5.lt k hk) l hl' t ht,hts⟩
      have:(t::S).length<=S'.length:=by
       have nd:(t::S).Nodup:=List.nodup_cons.mpr ⟨t2,I5.nd⟩
       have sub:∀k∈t::S,k∈S':=fun k hk=>(List.mem_cons.mp hk).elim (fun z=>z ▸ t1) (b1 k)
       exact nd_sub _ _ nd sub
      rw[List.length_cons]at this
      omega
  ·rintro _ H5 ⟨x2,x3,x5,S,rfl,I5,g5,n5⟩
   refine hnx _ _ ⟨x2,x3,x5,S,rfl,I5,g5.elim id fun h=>?_,n5⟩
   have:=nd_le _ _ I5.nd I5.lt
   omega
 rintro _ H5 ⟨y2,y3,y5,S,rfl,I5,hcl,n5⟩
 have hSl:=nd_le _ _ I5.nd I5.lt
 nofun
 have ek:(KS S).map (fun kv=>kV kv.1)=(S.map fun(n:Nat)=>(n:Int)).map V.int:=by
  unfold KS;rw[List.map_map,List.map_map];rfl
 have ld:qListD [.ref r] H5=fun Q=>∀l,H5 l=none->Q (.ref l) (upd H5 l (.lst ((KS S).map fun kv=>kV kv.1))):=by
  unfold qListD
  simp only[I5.hd]
 rw[ld]
 intro p6 hp6
 rw[ek]
 obtain⟨H6,hH6⟩:∃H6,H6=upd H5 p6 (.lst ((S.map fun(n:Nat)=>(n:Int)).map V.int)):=⟨_,rfl⟩
 rw[<-hH6]
 have s6:Same H5 H6:=hH6 ▸ same_new hp6
 have e6:H6 p6=some (.lst ((S.map fun(n:Nat)=>(n:Int)).map V.int)):=hH6 ▸ upd_same
 clear hH6 ld
 ext
 have so:qSorted [.ref p6] H6=fun Q=>∃ns,intsOf ((S.map fun(n:Nat)=>(n:Int)).map V.int)=some ns/\ns.length<64/\∀(p:Addr) (ms:List Int),ms.Perm ns->ms.Pairwise (· <= ·)->H6 p=none->Q (.ref p) (upd H6 p (.lst (ms.map V.int))):=by
  unfold qSorted
  simp only[e6]
 rw[so]
 refine⟨_,intsOf_map _,by rw[List.length_map];omega,fun p7 ms hperm hsort hp7=>?_⟩
 obtain⟨O,hO,rfl⟩:=nat_of_perm hperm
 have hsO:=sorted_nat hsort
 have ndO:O.Nodup:=hO.nodup_iff.mpr I5.nd
 have memO:∀k,k∈O↔k∈S:=fun k=>hO.mem_iff
 obtain⟨H7,hH7⟩:∃H7,H7=upd H6 p7 (.lst ((O.map fun(n:Nat)=>(n:Int)).map V.int)):=⟨_,rfl⟩
 rw[<-hH7]
 have s7:Same H6 H7:=hH7 ▸ same_new hp7
 have e7:H7 p7=some (.lst ((O.map fun(n:Nat)=>(n:Int)).map V.int)):=hH7 ▸ upd_same
 clear hH7 so
 have hOl:O.length<=24:=by rw[hO.length_eq];omega
 ext
 have n7:=(n5.same s6).same s7
 have s07:Same H H7:=((s03.trans I5.same).trans s6).trans s7
 have valid:Valid (sub1 N2 O):=valid_sub ((memO 0).mpr I5.zero) hsO ndO (fun k hk=>I5.lt k ((memO k).mp hk)) (by omega) (fun k hk l hl' t ht=>(memO t).mpr (hcl k ((memO k).mp hk) l hl' t ht)) (fun k hk=>I5.rc k ((memO k).mp hk))
  (fun l hl'=>(small2 l hl').1) gd2
 specialize s_comp (s_ilst ?_)
 refine⟨p7,rfl,⟨_,SqL.of e7⟩,fun B hB=>?_⟩
 refine comp_lst (xs:=(O.map fun(n:Nat)=>(n:Int)).map V.int) (fun i ys H8=>∃bs:List Addr,ys=bs.map V.ref/\bs.length=i/\(∀(j:Nat) x l,bs[j]? = some x->(sub1 N2 O)[j]? = some l->H8 x=some (.lst (IL l))/\x≠B)/\H8 B=some (.lst ys)/\Same H7 H8) ?_ ?_ ?_ ?_ ?_
 ·exact⟨[],rfl,rfl,by simp,upd_same,same_new hB⟩
 ·rintro i ys H8 ⟨_,_,_,_,h,_⟩
  exact h
 ·rintro i ys H8 _ ⟨_,_,_,_,_,s8⟩
  exact SqL.of (s8 _ _ e7)
 ·rintro i x ys H8 hx ⟨bs,rfl,lb,at8,hB8,s8⟩ R hR
  rw[List.getElem?_map,List.getElem?_map]at hx
  cases ho:O[i]? with
  | none=>rw[ho]at hx;cases hx
  | some kk=>
   rw[ho]at hx
   cases hx
   have hko:=mI ho
   have hks:=(memO kk).mp hko
   have hkl:=I5.lt kk hks
   obtain⟨ys8,x8,f1,f2,f3,_⟩:=(n7.same s8).at (at_len hkl)
   obtain⟨l8,hl8⟩:∃l8,l8=N2[kk]:=⟨_,rfl⟩
   rw[<-hl8]at f3
   have hN8:N2[kk]? = some l8:=by rw[hl8];exact at_len hkl
   specialize s_comp (s_ilst ?_)
   refine q_ixL f1 f2 ?_
   refine⟨x8,rfl,⟨_,SqL.of f3⟩,fun C hC=>?_⟩
   refine comp_lst (xs:=IL l8) (fun j zs H9=>zs=IL ((l8.take j).map fun t=>O.idxOf t)/\H9 C=some (.lst zs)/\Same H8 H9) ⟨rfl,upd_same,same_new hC⟩ ?_ ?_ ?_ ?_
   ·rintro j zs H9 ⟨_,h,_⟩
    exact h
   ·rintro j zs H9 _ ⟨_,_,s9⟩
    exact SqL.of (s9 _ _ f3)
   ·rintro j y zs H9 hy ⟨rfl,hC9,s9⟩ R' hR'
    have hy:(l8.map fun(n:Nat)=>V.int (n:Int))[j]? = some y:=hy
    rw[List.getElem?_map]at hy
    cases ht:l8[j]? with
    | none=>rw[ht]at hy;cases hy
    | some t=>
     rw[ht]at hy
     cases hy
     have htO:t∈O:=(memO t).mpr (hcl kk hks l8 hN8 t (mI ht))
     specialize s_bm ?_
     have e9:H9 p7=_:=s9 _ _ (s8 _ _ e7)
     exists ⟨ty_list e9,?_⟩
     have ix:qIndex (.ref p7) [.int (t:Int)] H9=fun Q=>∃ns,intsOf ((O.map fun(n:Nat)=>(n:Int)).map V.int)=some ns/\ns.length<10000/\(t:Int)∈ns/\Q (.int (ns.idxOf (t:Int):Nat)) H9:=by
      unfold qIndex
      simp only[e9]
     rw[ix]
     refine⟨_,intsOf_map _,by rw[List.length_map];omega,List.mem_map.mpr ⟨t,htO,rfl⟩,?_⟩
     rw[idx_cast]
     have hl2:=(small2 l8 (mI hN8)).1
     refine hR' _ _ hC9 (smallT ?_) ⟨?_,upd_same,fun b o e=>?_⟩
     ·rw[IL_len,List.length_map,List.length_take];omega
     ·unfold IL
      rw[il_take l8 (fun t=>O.idxOf t) j ht]
      simp
     ·rw[upd_ne (ne_of_none e hC)];exact s9 _ _ e
   ·rintro zs H9 ⟨rfl,hC9,s9⟩
    rw[IL_len,List.take_length]at hC9
    refine hR _ _ (s9 _ _ hB8) (smallT (by rw[List.length_map];have:=(gI ho);omega)) ⟨bs++[C],by simp,by simp[lb],?_,upd_same,fun b o e=>?_⟩
    ·have nCB:C≠B:=(ne_of_none hB8 hC).symm
     intro j y l' h1 h2
     rcases snocAt h1 with ⟨_,g1⟩ | ⟨hj,g1⟩
     ·obtain⟨g2,g3⟩:=at8 j y l' g1 h2
      exact⟨by rw[upd_ne g3];exact s9 _ _ g2,g3⟩
     ·rw[hj,lb]at h2
      subst g1
      refine⟨?_,nCB⟩
      rw[upd_ne nCB,hC9]
      have h2':(sub1 N2 O)[i]? = some (l8.map fun t=>O.idxOf t):=by
       unfold sub1
       rw[List.getElem?_map,ho]
       simp[List.getD,hN8]
      rw[h2']at h2
      cases h2
      rfl
    ·rw[upd_ne (ne_of_none e hB)]
     exact s9 _ _ (s8 _ _ e)
 ·rintro ys H8 ⟨bs,rfl,lb,at8,hB8,s8⟩
  rw[List.length_map,List.length_map]at lb
  have hlen:(sub1 N2 O).length=O.length:=by simp[sub1]
  exact k B (sub1 N2 O) H8 ⟨bs,hB8,by rw[lb,hlen],fun i x l h1 h2=>(at8 i x l h1 h2).1⟩ valid (by rw[hlen];exact hOl) (s07.trans s8)
end RD
namespace RD
open PySem PySem.Spec L2
structure RowsAt(H:Hp)(a:Addr)(N:Nt):Prop where
 ex:∃rs:List Addr,H a=some (.lst (rs.map V.ref))/\rs.length=N.length/\∀(i:Nat) x l,rs[i]? = some x->N[i]? = some l->RowN H (.ref x) (l.length == 2)
theorem RowsAt.same{a:Addr}{H H':Hp}{N:Nt}(h:RowsAt H a N)(k:Same H H'):RowsAt H' a N:=by
 obtain⟨rs,h1,h2,h3⟩:=h.ex
 exact⟨rs,k a _ h1,h2,fun i x l e1 e2=>(h3 i x l e1 e2).ts (Same.ts k)⟩
theorem RowsAt.kept{b c a:Addr}{H H':Hp}{N:Nt}(h:RowsAt H a N)(hB:Bag H b c)(k:Kept b H H'):RowsAt H' a N:=by
 obtain⟨rs,h1,h2,h3⟩:=h.ex
 exact⟨rs,k.1 a _ h1 (refs_ne hB h1),h2,fun i x l e1 e2=>(h3 i x l e1 e2).ts (Kept.ts k hB)⟩
theorem RowsAt.len{a:Addr}{H:Hp}{N:Nt}(h:RowsAt H a N):∃xs,H a=some (.lst xs)/\xs.length=N.length:=by
 obtain⟨as,h1,h2,h3⟩:=h.ex
 exact⟨_,h1,by rw[List.length_map,h2]⟩
end RD
namespace RD
open PySem PySem.Spec L2
theorem drawn_ok{K:Fg}{H:Hp}{b c:Addr}{Q:VK}{E:XK}(hB:Bag H b c)
  (k:∀p ra na N H',H' p=some (.tup [.ref ra,.ref na])->RowsAt H' ra N->NetAt H' na N->Valid N->N.length<=24->Bag H' b c->Kept b H H'->Q (.ref p) H'):sp_drawn K [.ref b] H Q E:=by
 refine⟨rfl,?_⟩
 unfold t_drawn
 nofun
 exists take_ok hB (by decide) (by decide) fun n1 H1 a0 a1 B1 k1=>?_
 with_reducible refine s_cut (P:=fun σ H2=>∃m:Nat,σ=[some (.ref b),some (.int (m:Int)),none,none,none]/\0<m/\m<=24/\Bag H2 b c/\Kept b H H2) ?_ ?_
 rotate_left
 ·intro nx hnx
  ext
  exists take_ok B1 (by decide) (by decide) fun n2 H2 b0 b1 B2 k2=>?_
  refine ite2 (fun _=>?_) (fun _=>?_)
  ·ext
   exists take_ok B2 (by decide) (by decide) fun n3 H3 c0 c1 B3 k3=>?_
   obtain⟨n3,rfl⟩:=Int.eq_ofNat_of_zero_le c0
   exact hnx _ _ ⟨15+n3,rfl,by omega,by omega,B3,(k1.trans k2).trans k3⟩
  ·ext
   obtain⟨n1,rfl⟩:=Int.eq_ofNat_of_zero_le a0
   exact hnx _ _ ⟨1+n1,rfl,by omega,by omega,B2,k1.trans k2⟩
 rintro _ H2 ⟨m,rfl,m0,m1,B2,k2⟩
 nofun
 exists net_ok B2 m0 m1 fun a N0 H3 n3 l3 s3 z3 B3 k3=>?_
 exists mended_ok n3 (by omega) (by omega) (by rw[l3];exact s3) (by rw[l3];exact z3) fun na N H4 n4 v4 lN s4=>?_
 have B4:=B3.same s4
 have k4:Kept b H H4:=(k2.trans k3).trans (Kept.of_same s4)
 nofun
 exists names_ok B4 fun sa H5 N5 B5 k5 _=>?_
 have n5:=n4.kept B4 v4.two k5
 nofun
 specialize s_comp (s_rng1 ?_)
 exists take_ok B5 (by decide) (by decide) fun n6 H6 d0 d1 B6 k6=>?_
 obtain⟨n6,rfl⟩:=Int.eq_ofNat_of_zero_le d0
 refine⟨1+n6,rfl,by omega,by omega,fun D hD=>?_⟩
 obtain⟨nb,nc⟩:=B6.nb hD
 have n6':=n5.kept B5 v4.two k6
 obtain⟨N6,_⟩:=N5.kept B5 k6
 refine comp_rng (fun i ys H7=>∃ps:List Addr,ys=ps.map V.ref/\ps.length=i/\(∀p∈ps,DeedN H7 p)/\H7 D=some (.lst ys)/\Bag H7 b c/\Kept b H6 H7) ?_ ?_ ?_ ?_
 ·exact⟨[],rfl,rfl,by simp,upd_same,B6.new hD,Kept.new hD⟩
 ·rintro i ys H7 ⟨_,_,_,_,h,_⟩
  exact h
 ·rintro i ys H7 hi ⟨ps,rfl,lp,hp,hD7,B7,k7⟩ R hR
  obtain⟨N7,_⟩:=N6.kept B6 k7
  ext
  refine deed_ok B7 N7 fun p H8 hd8 _ B8 k8=>?_
  have hD8:=k8.1 _ _ hD7 nb
  refine hR _ _ hD8 (smallT (by rw[List.length_map];omega)) ⟨ps++[p],by simp,by simp[lp],fun q hq=>?_,upd_same,B8.put nb nc,(k7.trans k8).put hD⟩
  rcases List.mem_append.mp hq with z | z
  ·exact((hp q z).ts (Kept.ts k8 B7)).ts (TSame.put hD8)
  ·rw[List.mem_singleton.mp z];exact hd8.ts (TSame.put hD8)
 rintro ys H7 ⟨ps,rfl,lp,hp,hD7,B7,k7⟩
 ext
 have P7:PoolN H7 D:=⟨ps,hD7,by intro z;subst z;simp at lp;omega,by omega,hp⟩
 obtain⟨N7,_⟩:=N6.kept B6 k7
 have n7:=n6'.kept B6 v4.two k7
 have k07:Kept b H H7:=((k4.trans k5).trans k6).trans k7
 specialize s_comp (s_ilst ?_)
 obtain⟨as,q1,q2,q3⟩:=id n7.ex
 refine⟨na,rfl,⟨_,SqL.of q1⟩,fun R' hR'=>?_⟩
 obtain⟨rb,rc⟩:=B7.nb hR'
 refine comp_lst (xs:=as.map V.ref) (fun i ys H8=>∃rs:List Addr,ys=rs.map V.ref/\rs.length=i/\(∀(j:Nat) x l,rs[j]? = some x->N[j]? = some l->RowN H8 (.ref x) (l.length == 2))/\H8 R'=some (.lst ys)/\Bag H8 b c/\Kept b H7 H8) ?_ ?_ ?_ ?_ ?_
 ·exact⟨[],rfl,rfl,by simp,upd_same,B7.new hR',Kept.new hR'⟩
 ·rintro i ys H8 ⟨_,_,_,_,h,_⟩
  exact h
 ·rintro i ys H8 _ ⟨_,_,_,_,_,_,k8⟩
  exact SqL.of (k8.1 _ _ q1 (refs_ne B7 q1))
 ·rintro i x ys H8 hx ⟨rs,rfl,lr,hr,hR8,B8,k8⟩ R hR
  rw[List.getElem?_map]at hx
  cases hxa:as[i]? with
  | none=>rw[hxa]at hx;cases hx
  | some xa=>
   rw[hxa]at hx
   cases hx
   have hi:i<N.length:=by rw[<-q2];exact(gI hxa)
   have n8:=n7.kept B7 v4.two k8
   have hx8:=q3 i xa _ hxa (at_len hi)
   have hx8:=k8.1 _ _ hx8 (short_ne B7 hx8 (by rw[IL_len];have:=v4.two _ (List.getElem_mem hi);omega))
   obtain⟨N8,_⟩:=N7.kept B7 k8
   have P8:=P7.kept B7 k8
   ext
   exists q_lenL hx8 ?_
   rw[IL_len]
   refine row_ok B8 N8 P8 fun v H9 r9 B9 k9=>?_
   obtain⟨pv,xv,rfl,_⟩:=id r9
   have hR9:=k9.1 _ _ hR8 rb
   refine hR _ _ hR9 (smallT (by rw[List.length_map];omega)) ⟨rs++[pv],by simp,by simp[lr],?_,upd_same,B9.put rb rc,(k8.trans k9).put hR'⟩
   intro j y l h1 h2
   rcases snocAt h1 with ⟨_,g1⟩ | ⟨hj,g1⟩
   ·exact((hr j y l g1 h2).ts (Kept.ts k9 B8)).ts (TSame.put hR9)
   ·rw[hj,lr,at_len hi]at h2
    cases h2
    subst g1
    exact r9.ts (TSame.put hR9)
 ·rintro ys H8 ⟨rs,rfl,lr,hr,hR8,B8,k8⟩
  rw[List.length_map]at lr
  ext
  refine new_i (by simp) fun p H9 hp9 e9 s9=>?_
  exact k p R' na N H9 e9 ((⟨rs,hR8,by rw[lr,q2],hr⟩:RowsAt H8 R' N).same s9) ((n7.kept B7 v4.two k8).same s9) v4 lN (B8.same s9) ((k07.trans k8).trans (Kept.of_same s9))
end RD
namespace RD
open PySem PySem.Spec L2
theorem big{n:Nat}(h:n<=1000000):n<=sizeLine:=Nat.le_trans h (by rw[PySem.sizeLine_eq];decide)
theorem check_length_ok{K:Fg}{H:Hp}{a:Addr}{xs:List V}{Q:VK}{E:XK}(ha:H a=some (.lst xs))(h1:1<=xs.length)(h2:xs.length<=400)(k:Q .non H):sp_check_length K [.ref a,.int 0,.int 1] H Q E:=by
 refine⟨rfl,?_⟩
 unfold t_check_length
 nofun
 exists q_isi (s := "list") (by simp only[tyName,ha]) (by decide) ?_
 exists iteF' (by decide) ?_
 exists q_lenL ha ?_
 exists iteF' (decide_eq_false (by omega)) ?_
 exists q_lenL ha ?_
 exists iteF' (decide_eq_false (by omega)) ?_
 exact k
theorem check_each_ok{K:Fg}{H:Hp}{a:Addr}{n:Nat}{Q:VK}{E:XK}(ha:H a=some (.lst (List.replicate n (V.bl true))))(k:∀H',Same H H'->Q .non H'):sp_check_each K [.ref a] H Q E:=by
 refine⟨rfl,?_⟩
 unfold t_check_each
 specialize s_for (s_ienum ?_)
 refine⟨a,rfl,⟨_,SqL.of ha⟩,?_⟩
 refine for_i n (fun i σ H2=>∃x1 x2,σ=[some (.ref a),x1,x2]/\Same H H2) ⟨_,_,rfl,Same.refl _⟩ ?_ ?_ ?_
 ·rintro _ H2 ⟨x1,x2,rfl,s2⟩
  exact⟨⟨_,SqL.of (s2 _ _ ha),by simp⟩,k H2 s2⟩
 ·rintro i _ H2 hi ⟨x1,x2,rfl,s2⟩
  exact⟨_,V.bl true,SqL.of (s2 _ _ ha),by rw[List.getElem?_replicate,if_pos hi]⟩
 ·rintro i _ H2 hi ⟨x1,x2,rfl,s2⟩ x H3 ⟨p,y,hp,rfl,rfl,hy⟩
  have hy:=hy _ (SqL.of (s2 _ _ ha))
  rw[List.getElem?_replicate,if_pos hi]at hy
  cases hy
  exists s_gpair (SqT.of upd_same) ?_
  exists iteF' rfl ?_
  exact⟨_,_,rfl,s2.trans (same_new hp)⟩
theorem tru_snoc(n:Nat):List.replicate n (V.bl true)++[V.bl true]=List.replicate (n+1) (V.bl true):=by
 rw[List.replicate_succ']
theorem len_in{n:Nat}(h:n=0\/n=1):inV (.int (n:Int)) [.int 0,.int 1]=true:=by
 rcases h with rfl | rfl <;> decide
theorem are_nexts_ok{K:Fg}{H:Hp}{v:V}{x:Addr}{l:List Nat}{m:Nat}{Q:VK}{E:XK}(hv:RowN H v (l.length == 2))(hx:H x=some (.lst (IL l)))(h2:l.length<=2)(hlt:∀t∈l,t<m)(k:∀H',Same H H'->Q (.bl true) H') :
  sp_are_nexts K [v,.ref x,.int (m:Int)] H Q E:=by
 obtain⟨p,xs,rfl,hp,_,kd,r,rfl,hk⟩:=hv
 refine⟨rfl,?_⟩
 unfold t_are_nexts
 nofun
 exists q_isi (s := "list") (by simp only[tyName,hx]) (by decide) ?_
 exists iteF' (by decide) ?_
 with_reducible refine s_cut (P:=fun σ H1=>∃w ws,σ=[some (.ref p),some (.ref x),some (.int (m:Int)),some (.ref w)]/\H1 w=some (.tup ws)/\ws.all flatV=true/\inV (.int (l.length:Int)) ws=true/\Same H H1) ?_ ?_
 rotate_left
 ·intro nx hnx
  ext
  exists q_ixT hp (atI0 _ _) ?_
  by_cases e:kd = "ask"
  ·exists iteT' (decide_eq_true (by rw[e])) ?_
   refine new_i (by simp) fun w H1 hw e1 s1=>?_
   rw[decide_eq_true e]at hk
   have:l.length=2:=by simpa using hk.symm
   exact hnx _ _ ⟨w,_,rfl,e1,rfl,by rw[this];decide,s1⟩
  ·exists iteF' (decide_eq_false (fun z=>e (V.str.inj z))) ?_
   refine new_i (by simp) fun w H1 hw e1 s1=>?_
   rw[decide_eq_false e]at hk
   have:¬l.length=2:=by
    intro z
    rw[z]at hk
    exact absurd hk (by decide)
   exact hnx _ _ ⟨w,_,rfl,e1,rfl,len_in (by omega),s1⟩
 rintro _ H1 ⟨w,ws,rfl,hw,fw,iw,s1⟩
 ext
 exists q_lenL (s1 _ _ hx) ?_
 rw[IL_len]
 refine q_inT hw rfl fw ?_
 exists ⟨_,rfl,iteT' iw ?_⟩
 specialize s_comp (s_ilst ?_)
 refine⟨x,rfl,⟨_,SqL.of (s1 _ _ hx)⟩,fun D hD=>?_⟩
 refine comp_lst (xs:=IL l) (fun i ys H2=>ys=List.replicate i (V.bl true)/\H2 D=some (.lst ys)/\Same H1 H2) ⟨rfl,upd_same,same_new hD⟩ ?_ ?_ ?_ ?_
 ·rintro i ys H2 ⟨_,h,_⟩
  exact h
 ·rintro i ys H2 _ ⟨_,_,s2⟩
  exact SqL.of (s2 _ _ (s1 _ _ hx))
 ·rintro i y ys H2 hy ⟨rfl,hD2,s2⟩ R hR
  have hy:(l.map fun(n:Nat)=>V.int (n:Int))[i]? = some y:=hy
  rw[List.getElem?_map]at hy
  cases ht:l[i]? with
  | none=>rw[ht]at hy;cases hy
  | some t=>
   rw[ht]at hy
   cases hy
   have hi:=(gI ht)
   have:=hlt t (mI ht)
   ext
   refine is_below_int (by omega) (by omega) ?_
   refine hR _ _ hD2 (smallT (by rw[List.length_replicate];omega)) ⟨tru_snoc i,upd_same,fun b o e=>?_⟩
   rw[upd_ne (ne_of_none e hD)];exact s2 _ _ e
 ·rintro ys H2 ⟨rfl,hD2,s2⟩
  ext
  have e:List.replicate (IL l).length (V.bl true)=(List.replicate l.length true).map V.bl:=by rw[IL_len];simp
  rw[e]at hD2
  refine q_all hD2 ?_
  have:(List.replicate l.length true).all id=true:=by simp
  rw[this]
  exact k H2 (s1.trans s2)
theorem check_nexts_ok{K:Fg}{H:Hp}{ra na:Addr}{N:Nt}{Q:VK}{E:XK}(hr:RowsAt H ra N)(hn:NetAt H na N)(h400:N.length<=400)(h2:∀l∈N,l.length<=2)(hlt:∀l∈N,∀t∈l,t<N.length)(k:∀H',Same H H'->Q .non H') :
  sp_check_nexts K [.ref ra,.ref na] H Q E:=by
 obtain⟨rs,r1,r2,r3⟩:=id hr.ex
 obtain⟨as,a1,a2,a3⟩:=id hn.ex
 refine⟨rfl,?_⟩
 unfold t_check_nexts
 nofun
 exists q_isi (s := "list") (by simp only[tyName,a1]) (by decide) ?_
 exists iteF' (by decide) ?_
 exists q_lenL a1 ?_
 exists q_lenL r1 ?_
 exists iteF' (by rw[List.length_map,List.length_map,r2,a2];simp) ?_
 specialize s_compP (s_izip ?_)
 refine⟨ra,na,rfl,⟨_,SqL.of r1⟩,⟨_,SqL.of a1⟩,fun D hD=>?_⟩
 refine comp_p N.length (fun i ys H2=>ys=List.replicate i (V.bl true)/\H2 D=some (.lst ys)/\Same H H2) ⟨rfl,upd_same,same_new hD⟩ ?_ ?_ ?_ ?_
 ·rintro i ys H2 ⟨_,h,_⟩
  exact h
 ·rintro ys H2 ⟨rfl,hD2,s2⟩
  exists ⟨⟨_,_,SqL.of (s2 _ _ r1),SqL.of (s2 _ _ a1),.inl (by rw[List.length_map,r2];exact Nat.le_refl _)⟩,?_⟩
  exact check_each_ok hD2 fun H3 s3=>k H3 (s2.trans s3)
 ·rintro i ys H2 hi ⟨_,_,s2⟩
  have e1:rs[i]? = some (rs[i]'(by omega)):=by simp[r2,hi]
  have e2:as[i]? = some (as[i]'(by omega)):=by simp[a2,hi]
  exact⟨_,_,_,_,SqL.of (s2 _ _ r1),SqL.of (s2 _ _ a1),by rw[List.getElem?_map,e1];rfl,by rw[List.getElem?_map,e2];rfl⟩
 ·rintro i ys H2 hi ⟨rfl,hD2,s2⟩ x H3 ⟨p,y1,y2,hp,rfl,rfl,g1,g2⟩
  obtain⟨rx,e1⟩:∃rx,rs[i]? = some rx:=⟨_,List.getElem?_eq_getElem (by omega)⟩
  obtain⟨ax,e2⟩:∃ax,as[i]? = some ax:=⟨_,List.getElem?_eq_getElem (by omega)⟩
  have g1:=g1 _ (SqL.of (s2 _ _ r1))
  have g2:=g2 _ (SqL.of (s2 _ _ a1))
  rw[List.getElem?_map,e1]at g1
  rw[List.getElem?_map,e2]at g2
  cases g1
  cases g2
  refine⟨p,_,_,rfl,SqT.of upd_same,fun R S hR hS=>?_⟩
  have s3:Same H2 (upd H2 p (.tup [V.ref rx,V.ref ax])):=same_new hp
  obtain⟨H3,hH3⟩:∃H3,H3=upd H2 p (.tup [V.ref rx,V.ref ax]):=⟨_,rfl⟩
  rw[<-hH3]at s3 ⊢
  ext
  exists iteT' rfl ?_
  have s03:=s2.trans s3
  exists q_lenL (s03 _ _ r1) ?_
  have hl:=at_len hi
  rw[List.length_map,r2]
  refine are_nexts_ok ((r3 i _ _ e1 hl).ts (Same.ts s03)) (s03 _ _ (a3 i _ _ e2 hl)) (h2 _ (List.getElem_mem hi)) (hlt _ (List.getElem_mem hi)) fun H4 s4=>?_
  refine hR _ _ (s4 _ _ (s3 _ _ hD2)) (smallT (by rw[List.length_replicate];omega)) ⟨tru_snoc i,upd_same,fun b o e=>?_⟩
  rw[upd_ne (ne_of_none e hD)];exact s4 _ _ (s03 _ _ e)
end RD
namespace RD
open PySem PySem.Spec L2
def isStop(N:Nt)(k:Nat):Bool:=(N.getD k []).isEmpty
def stopsF(N:Nt):List Nat:=(List.range N.length).filter (isStop N)
theorem mem_stops{N:Nt}{k:Nat}(h:N[k]? = some []):k∈stopsF N:=by
 refine List.mem_filter.mpr ⟨List.mem_range.mpr (gI h),?_⟩
 unfold isStop
 simp[List.getD,h]
theorem stops_of_ok{K:Fg}{H:Hp}{na:Addr}{N:Nt}{Q:VK}{E:XK}(hn:NetAt H na N)(h400:N.length<=400)(k:∀a H',H a=none->H' a=some (.lst (IL (stopsF N)))->Same H H'->Q (.ref a) H'):sp_stops_of K [.ref na] H Q E:=by
 obtain⟨as,a1,a2,a3⟩:=id hn.ex
 refine⟨rfl,?_⟩
 unfold t_stops_of
 ext
 specialize s_compP (s_ienum ?_)
 refine⟨na,rfl,⟨_,SqL.of a1⟩,fun D hD=>?_⟩
 refine comp_p N.length (fun i ys H2=>ys=IL ((List.range i).filter (isStop N))/\H2 D=some (.lst ys)/\Same H H2) ⟨rfl,upd_same,same_new hD⟩ ?_ ?_ ?_ ?_
 ·rintro i ys H2 ⟨_,h,_⟩
  exact h
 ·rintro ys H2 ⟨rfl,hD2,s2⟩
  exact⟨⟨_,SqL.of (s2 _ _ a1),by rw[List.length_map,a2];exact Nat.le_refl _⟩,k D H2 hD hD2 s2⟩
 ·rintro i ys H2 hi ⟨_,_,s2⟩
  exact⟨_,_,SqL.of (s2 _ _ a1),by rw[List.getElem?_map,List.getElem?_eq_getElem (show i<as.length by omega)];rfl⟩
 ·rintro i ys H2 hi ⟨rfl,hD2,s2⟩ x H3 ⟨p,y,hp,rfl,rfl,g1⟩
  obtain⟨ax,e1⟩:∃ax,as[i]? = some ax:=⟨_,List.getElem?_eq_getElem (by omega)⟩
  have g1:=g1 _ (SqL.of (s2 _ _ a1))
  rw[List.getElem?_map,e1]at g1
  cases g1
  refine⟨p,_,_,rfl,SqT.of upd_same,fun R S hR hS=>?_⟩
  have s3:Same H2 (upd H2 p (.tup [V.int (i:Int),V.ref ax])):=same_new hp
  obtain⟨H3,hH3⟩:∃H3,H3=upd H2 p (.tup [V.int (i:Int),V.ref ax]):=⟨_,rfl⟩
  rw[<-hH3]at s3 ⊢
  have s03:=s2.trans s3
  have hl:=at_len hi
  ext
  exists q_lenL (s03 _ _ (a3 i _ _ e1 hl)) ?_
  have hst:isStop N i=decide (V.int ((IL N[i]).length:Int)=V.int 0):=by
   rw[dec_i,IL_len]
   unfold isStop
   simp only[List.getD,hl,Option.getD_some]
   cases N[i] with
   | nil=>rfl
   | cons a r=>
    rw[List.isEmpty_cons,eq_comm,decide_eq_false_iff_not,List.length_cons]
    omega
  rw[<-hst]
  cases hb:isStop N i with
  | true=>
   exists iteT' rfl ?_
   refine hR _ _ (s3 _ _ hD2) (smallT ?_) ⟨?_,upd_same,fun b o e=>?_⟩
   ·rw[IL_len]
    have:=List.length_filter_le (isStop N) (List.range i)
    rw[List.length_range]at this
    omega
   ·rw[List.range_succ,List.filter_append]
    unfold IL
    rw[List.map_append]
    congr 1
    simp[hb]
   ·rw[upd_ne (ne_of_none e hD)];exact s03 _ _ e
  | false=>
   refine iteF' rfl ?_
   refine hS _ ⟨?_,s3 _ _ hD2,s03⟩
   rw[List.range_succ,List.filter_append]
   simp[hb]
theorem nd_ix{α:Type}{l:List α}(nd:l.Nodup){i j:Nat}{x:α}(h1:l[i]? = some x)(h2:l[j]? = some x):i=j:=
 (List.getElem?_inj (gI h1) nd).mp (h1.trans h2.symm)
structure SrcI(H0 H:Hp)(a:Addr)(as:List Addr)(M:Nt):Prop where
 same:Same H0 H
 h:H a=some (.lst (as.map V.ref))
 len:as.length=M.length
 nd:as.Nodup
 na:a∉as
 at_:∀(i:Nat) x l,as[i]? = some x->M[i]? = some l->H x=some (.lst (IL l))
 new:H0 a=none/\∀x∈as,H0 x=none
theorem SrcI.next{H0 H H':Hp}{a:Addr}{as:List Addr}{M:Nt}(h:SrcI H0 H a as M)(s:Same H H'):SrcI H0 H' a as M:=
 ⟨h.same.trans s,s _ _ h.h,h.len,h.nd,h.na,fun i x l e1 e2=>s _ _ (h.at_ i x l e1 e2),h.new⟩
theorem SrcI.add{H0 H:Hp}{a:Addr}{as:List Addr}{M:Nt}(h:SrcI H0 H a as M){t p:Nat}{x:Addr}{l:List Nat}(e1:as[t]? = some x)(e2:M[t]? = some l) :
  SrcI H0 (upd H x (.lst (IL (l++[p])))) a as (M.set t (l++[p])):=by
 have hx:=mI e1
 have hxa:x≠a:=fun z=>h.na (z ▸ hx)
 refine⟨fun b o e=>by rw[upd_ne (ne_of_none e (h.new.2 x hx))];exact h.same b o e,by rw[upd_ne hxa.symm];exact h.h,by rw[List.length_set];exact h.len,h.nd,h.na,fun i y l' f1 f2=>?_,h.new⟩
 by_cases e:i=t
 ·subst e
  rw[e1]at f1
  cases f1
  rw[List.getElem?_set_self (gI e2)]at f2
  cases f2
  exact upd_same
 ·rw[List.getElem?_set_ne (Ne.symm e)]at f2
  have:y≠x:=by
   rintro rfl
   exact e (nd_ix h.nd f1 e1)
  rw[upd_ne this]
  exact h.at_ i y l' f1 f2
theorem SrcI.net{H0 H:Hp}{a:Addr}{as:List Addr}{M:Nt}(h:SrcI H0 H a as M):NetAt H a M:=⟨as,h.h,h.len,h.at_⟩
theorem SrcI.nil{H0 H:Hp}{a:Addr}(n:H0 a=none)(s:Same H0 H)(e:H a=some (.lst [])):SrcI H0 H a [] []:=⟨s,e,rfl,by simp,by simp,by simp,n,by simp⟩
theorem SrcI.snoc{H0 H H':Hp}{a p:Addr}{as:List Addr}{M:Nt}(h:SrcI H0 H a as M)(hp:H p=none)(ep:H' p=some (.lst (IL [])))(s:Same H H') :
  SrcI H0 (upd H' a (.lst ((as++[p]).map V.ref))) a (as++[p]) (M++[[]]):=by
 have npa:p≠a:=(ne_of_none h.h hp).symm
 have npas:p∉as:=fun z=>by
  obtain⟨i,hi⟩:=List.mem_iff_getElem?.mp z
  have hl:i<M.length:=by rw[<-h.len];exact(gI hi)
  have:=h.at_ i p _ hi (at_len hl)
  rw[hp]at this
  cases this
 have fr0:H0 p=none:=h.same.free hp
 refine⟨fun b o e=>by rw[upd_ne (ne_of_none e h.new.1)];exact s _ _ (h.same b o e),upd_same,by simp[h.len],?_,?_,fun i x l f1 f2=>?_,h.new.1,fun x hx=>?_⟩
 ·rw[List.nodup_append]
  exact⟨h.nd,by simp,fun x hx y hy=>by rw[List.mem_singleton.mp hy];intro z;exact npas (z ▸ hx)⟩
 ·intro z
  rcases List.mem_append.mp z with q | q
  ·exact h.na q
  ·exact npa (List.mem_singleton.mp q).symm
 ·rcases snocAt f1 with ⟨hi,g1⟩ | ⟨hi,g1⟩
  ·rcases snocAt f2 with ⟨hj,g2⟩ | ⟨hj,g2⟩
   ·have:x≠a:=fun z=>h.na (z ▸ mI g1)
    rw[upd_ne this]
    exact s _ _ (h.at_ i x l g1 g2)
   ·have:=h.len;omega
  ·rcases snocAt f2 with ⟨hj,g2⟩ | ⟨hj,g2⟩
   ·have:=h.len;omega
   ·subst g1 g2
    rw[upd_ne npa]
    exact ep
 ·rcases List.mem_append.mp hx with q | q
  ·exact h.new.2 x q
  ·rw[List.mem_singleton.mp q];exact fr0
theorem set_get{M:Nt}{t u:Nat}{l l':List Nat}(h:(M.set t l)[u]? = some l'):(u=t/\l'=l)\/(u≠t/\M[u]? = some l'):=by
 by_cases e:u=t
 ·subst e
  have hl:=(gI h)
  rw[List.length_set]at hl
  rw[List.getElem?_set_self hl]at h
  exact .inl ⟨rfl,(Option.some.inj h).symm⟩
 ·rw[List.getElem?_set_ne (Ne.symm e)]at h
  exact .inr ⟨e,h⟩
theorem turned_ok{K:Fg}{H:Hp}{na:Addr}{N:Nt}{Q:VK}{E:XK}(hn:NetAt H na N)(h400:N.length<=400)(h2:∀l∈N,l.length<=2)(hlt:∀l∈N,∀t∈l,t<N.length)
  (k:∀a M H',NetAt H' a M->M.length=N.length->(∀(p:Nat) (l:List Nat),N[p]? = some l->∀t∈l,∃l',M[t]? = some l'/\p∈l')->(∀l∈M,l.length<=2 * N.length/\∀p∈l,p<N.length)->Same H H'->Q (.ref a) H'):sp_turned K [.ref na] H Q E:=by
 obtain⟨ns,a1,a2,a3⟩:=id hn.ex
 refine⟨rfl,?_⟩
 unfold t_turned
 with_reducible refine s_seq ?_
 specialize s_comp (s_ilst ?_)
 refine⟨na,rfl,⟨_,SqL.of a1⟩,fun A hA=>?_⟩
 refine comp_lst (xs:=ns.map V.ref) (fun i ys H2=>∃as,ys=as.map V.ref/\SrcI H H2 A as (List.replicate i [])) ?_ ?_ ?_ ?_ ?_
 ·exact⟨[],rfl,.nil hA (same_new hA) upd_same⟩
 ·rintro i ys H2 ⟨as,rfl,I⟩
  exact I.h
 ·rintro i ys H2 _ ⟨as,rfl,I⟩
  exact SqL.of (I.same _ _ a1)
 ·rintro i x ys H2 hx ⟨as,rfl,I⟩ R hR
  have hi:i<N.length:=by
   have:=(gI hx)
   rw[List.length_map,a2]at this
   exact this
  ext
  refine new_i (by simp) fun p H3 hp e3 s3=>?_
  have:=I.len
  rw[List.length_replicate]at this
  refine hR _ _ (s3 _ _ I.h) (smallT (by rw[List.length_map];omega)) ⟨as++[p],by simp,?_⟩
  have q:=I.snoc hp e3 s3
  rw[show List.replicate i ([]:List Nat)++[[]]=List.replicate (i+1) [] from by rw[List.replicate_succ']]at q
  rw[show as.map V.ref++[V.ref p]=(as++[p]).map V.ref by simp]
  exact q
 rintro ys H2 ⟨as,rfl,I2⟩
 rw[List.length_map,a2]at I2
 ext
 with_reducible refine s_seq ?_
 specialize s_for (s_ienum ?_)
 refine⟨na,rfl,⟨_,SqL.of (I2.same _ _ a1)⟩,?_⟩
 refine for_i N.length (fun i σ H3=>∃x2 x3 x4 M,σ=[some (.ref na),some (.ref A),x2,x3,x4]/\SrcI H H3 A as M/\M.length=N.length/\(∀(p:Nat) (l:List Nat),p<i->N[p]? = some l->∀t∈l,∃l',M[t]? = some l'/\p∈l')/\(∀l∈M,l.length<=2 * i/\∀p∈l,p<N.length)) ?_ ?_ ?_ ?_
 ·exact⟨_,_,_,_,rfl,I2,by simp,by omega,fun l hl=>by rw[List.eq_of_mem_replicate hl];simp⟩
 ·rintro _ H3 ⟨x2,x3,x4,M,rfl,I3,lM,g1,g2⟩
  exists ⟨⟨_,SqL.of (I3.same _ _ a1),by rw[List.length_map,a2];exact Nat.le_refl _⟩,?_⟩
  exact k A M H3 I3.net lM (fun p l hl=>g1 p l (gI hl) hl) g2 I3.same
 ·rintro i _ H3 hi ⟨x2,x3,x4,M,rfl,I3,lM,g1,g2⟩
  exact⟨_,_,SqL.of (I3.same _ _ a1),by rw[List.getElem?_map,List.getElem?_eq_getElem (show i<ns.length by omega)];rfl⟩
 ·rintro i _ H3 hi ⟨x2,x3,x4,M,rfl,I3,lM,g1,g2⟩ x H4 ⟨p,y,hp,rfl,rfl,gy⟩
  obtain⟨nx,e1⟩:∃nx,ns[i]? = some nx:=⟨_,List.getElem?_eq_getElem (by omega)⟩
  have gy:=gy _ (SqL.of (I3.same _ _ a1))
  rw[List.getElem?_map,e1]at gy
  cases gy
  refine s_gpair (SqT.of upd_same) ?_
  have s4:Same H3 (upd H3 p (.tup [V.int (i:Int),V.ref nx])):=same_new hp
  obtain⟨H4,hH4⟩:∃H4,H4=upd H3 p (.tup [V.int (i:Int),V.ref nx]):=⟨_,rfl⟩
  rw[<-hH4]at s4 ⊢
  have I4:=I3.next s4
  have hl:=at_len hi
  obtain⟨l,hle⟩:∃l,l=N[i]:=⟨_,rfl⟩
  rw[<-hle]at hl
  have hx:H nx=some (.lst (IL l)):=a3 i nx l e1 hl
  have hll:=h2 l (mI hl)
  specialize s_for (s_ilst ?_)
  refine⟨nx,rfl,⟨_,SqL.of (I4.same _ _ hx)⟩,for_list (xs:=IL l) (fun j σ H5=>∃x4 M',σ=[some (.ref na),some (.ref A),some (.int (i:Int)),some (.ref nx),x4]/\SrcI H H5 A as M'/\M'.length=N.length/\(∀(p:Nat) (l:List Nat),p<i->N[p]? = some l->∀t∈l,∃l',M'[t]? = some l'/\p∈l')/\(∀t∈l.take j,∃l',M'[t]? = some l'/\i∈l')/\(∀l∈M',l.length<=2 * i+j/\∀p∈l,p<N.length)) ?_ ?_ ?_ ?_⟩
  ·exact⟨_,M,rfl,I4,lM,g1,by simp,g2⟩
  ·rintro j σ H5 _ ⟨_,_,_,I5,_⟩
   exact SqL.of (I5.same _ _ hx)
  ·rintro j y _ H5 hy ⟨x4,M',rfl,I5,lM',c1,c2,c3⟩
   have hy:(l.map fun(n:Nat)=>V.int (n:Int))[j]? = some y:=hy
   rw[List.getElem?_map]at hy
   cases ht:l[j]? with
   | none=>rw[ht]at hy;cases hy
   | some t=>
    rw[ht]at hy
    cases hy
    have tm:=mI ht
    have hj:=(gI ht)
    have htn:t<N.length:=hlt l (mI hl) t tm
    ext
    obtain⟨z,hz⟩:∃z,as[t]? = some z:=⟨_,List.getElem?_eq_getElem (by have:=I5.len;omega)⟩
    have hMt:=at_len (show t<M'.length by omega)
    have hMz:=I5.at_ t z _ hz hMt
    specialize s_bm ?_
    refine q_ixL I5.h (atI_nat (by rw[List.getElem?_map,hz];rfl)) ?_
    exists ⟨ty_list hMz,?_⟩
    have hb:=c3 _ (List.getElem_mem (show t<M'.length by omega))
    refine q_append hMz (smallT (by rw[IL_len];omega)) ?_
    refine⟨_,M'.set t (M'[t]++[i]),rfl,?_,by rw[List.length_set];exact lM',?_,?_,?_⟩
    ·have:=I5.add (p:=i) hz hMt
     rw[show IL M'[t]++[V.int (i:Int)]=IL (M'[t]++[i]) by simp[IL]]
     exact this
    ·intro p' l' hp' hl' u hu
     obtain⟨l'',q1,q2⟩:=c1 p' l' hp' hl' u hu
     by_cases e:u=t
     ·subst e
      rw[hMt]at q1
      cases q1
      exact⟨_,List.getElem?_set_self (by omega),List.mem_append_left _ q2⟩
     ·exact⟨l'',by rw[List.getElem?_set_ne (Ne.symm e)];exact q1,q2⟩
    ·intro u hu
     rw[List.take_add_one,ht]at hu
     by_cases e:u=t
     ·subst e
      exact⟨_,List.getElem?_set_self (by omega),by simp⟩
     ·rcases List.mem_append.mp hu with q | q
      ·obtain⟨l'',q1,q2⟩:=c2 u q
       exact⟨l'',by rw[List.getElem?_set_ne (Ne.symm e)];exact q1,q2⟩
      ·exact absurd (by simpa using q) e
    ·intro l' hl'
     obtain⟨u,hu⟩:=List.mem_iff_getElem?.mp hl'
     rcases set_get hu with ⟨_,rfl⟩ | ⟨_,q⟩
     ·refine⟨by rw[List.length_append,List.length_singleton];omega,fun p' hp'=>?_⟩
      rcases List.mem_append.mp hp' with q | q
      ·exact hb.2 p' q
      ·rw[List.mem_singleton.mp q];exact hi
     ·obtain⟨r1,r2⟩:=c3 l' (mI q)
      exact⟨by omega,r2⟩
  ·rintro _ H5 ⟨x4,M',rfl,I5,lM',c1,c2,c3⟩
   rw[IL_len,List.take_length]at c2
   refine⟨_,_,x4,M',rfl,I5,lM',fun p' l' hp' hl' t ht=>?_,fun l' hl'=>?_⟩
   ·by_cases e:p'=i
    ·subst e
     rw[hl]at hl'
     cases hl'
     exact c2 t ht
    ·exact c1 p' l' (by omega) hl' t ht
   ·obtain⟨r1,r2⟩:=c3 l' hl'
    rw[IL_len]at r1
    exact⟨by omega,r2⟩
end RD
namespace RD
open PySem PySem.Spec L2
theorem reached_ok{K:Fg}{H:Hp}{ba la:Addr}{bs:List Nat}{M:Nt}{B:Nat}{Q:VK}{E:XK}(hb:H ba=some (.lst (IL bs)))(hm:NetAt H la M)(h400:M.length<=400)(hB:B<=800)(hl:∀l∈M,l.length<=B/\∀t∈l,t<M.length)(hbs:∀x∈bs,x<M.length)(lb:bs.length<=400)
  (k:∀d S H',H' d=some (.dK (KS S))->S.Nodup->(∀x∈S,x<M.length)->(∀x∈bs,x∈S)->Closed M S->Same H H'->Q (.ref d) H'):sp_reached K [.ref ba,.ref la] H Q E:=by
 refine⟨rfl,?_⟩
 unfold t_reached
 nofun
 exists s_dnew fun d H1 hd e1 s1=>?_
 nofun
 exists q_listL (s1 _ _ hb) fun w H2 hw e2 s2=>?_
 have s02:=s1.trans s2
 have hw0:H w=none:=s1.free hw
 have ndw:d≠w:=ne_of_none e1 hw
 with_reducible refine s_seq ?_
 with_reducible refine s_while ?_
 refine⟨fun m σ H3=>∃x4 ws S,σ=[some (.ref ba),some (.ref la),some (.ref d),some (.ref w),x4]/\H3 w=some (.lst (IL ws))/\H3 d=some (.dK (KS S))/\Same H H3/\S.Nodup/\(∀x∈S,x<M.length)/\(∀x∈ws,x<M.length) /\
  (∀x∈bs,x∈S\/x∈ws)/\(∀k∈S,∀l,M[k]? = some l->∀t∈l,t∈S\/t∈ws)/\ws.length<=400+S.length * B/\m=(M.length - S.length) * (B+1)+ws.length,?_,?_⟩
 ·exact⟨_,_,bs,[],rfl,e2,s2 _ _ e1,s02,by simp,by simp,hbs,fun x hx=>.inr hx,by simp,by omega,rfl⟩
 rintro m _ H3 ⟨x4,ws,S,rfl,hw3,hd3,s3,nd,hS,hws,c1,c2,c3,rfl⟩
 ext
 exists q_lenL hw3 ?_
 have hSl:=nd_le _ _ nd hS
 rcases snoc_cases ws with rfl | ⟨r,p,rfl⟩
 ·exists iteF' (decide_eq_false (by rw[IL_len];simp)) ?_
  refine k d S H3 hd3 nd hS (fun x hx=>(c1 x hx).elim id fun z=>by simp at z) (fun a ha l hl' t ht=>(c2 a ha l hl' t ht).elim id fun z=>by simp at z) s3
 refine iteT' (decide_eq_true (by rw[IL_len,List.length_append,List.length_singleton];omega)) ?_
 have hp:p<M.length:=hws p (by simp)
 have eIL:IL (r++[p])=IL r++[V.int (p:Int)]:=by simp[IL]
 rw[eIL]at hw3
 refine⟨fun σ H4=>∃m' x4 ws S',σ=[some (.ref ba),some (.ref la),some (.ref d),some (.ref w),x4]/\H4 w=some (.lst (IL ws))/\H4 d=some (.dK (KS S'))/\Same H H4/\S'.Nodup/\(∀x∈S',x<M.length)/\(∀x∈ws,x<M.length) /\
  (∀x∈bs,x∈S'\/x∈ws)/\(∀k∈S',∀l,M[k]? = some l->∀t∈l,t∈S'\/t∈ws)/\ws.length<=400+S'.length * B/\m'=(M.length - S'.length) * (B+1)+ws.length/\m'<(M.length - S.length) * (B+1)+(r++[p]).length,?_,?_⟩
 ·rintro σ' H4 ⟨m',x4,ws,S',e,r1,r2,r3,r4,r5,r6,r7,r8,r9,r10,r11⟩
  exact⟨m',r11,x4,ws,S',e,r1,r2,r3,r4,r5,r6,r7,r8,r9,r10⟩
 nofun
 specialize s_bm0 ?_
 exists ⟨ty_list hw3,q_pop hw3 ?_⟩
 have sW:Same H (upd H3 w (.lst (IL r))):=fun b o e=>by rw[upd_ne (ne_of_none e hw0)];exact s3 b o e
 have hdW:(upd H3 w (.lst (IL r))) d=some (.dK (KS S)):=by rw[upd_ne ndw];exact hd3
 have hwW:(upd H3 w (.lst (IL r))) w=some (.lst (IL r)):=upd_same
 obtain⟨H4,hH4⟩:∃H4,H4=upd H3 w (.lst (IL r)):=⟨_,rfl⟩
 rw[<-hH4]at sW hdW hwW ⊢
 rw[List.length_append,List.length_singleton]at c3 ⊢
 specialize s_dnotin ?_
 obtain⟨o,g1,g2⟩:=dget_in hdW p
 refine⟨d,o,rfl,g1,?_⟩
 rw[g2]
 ext
 by_cases hps:p∈S
 ·exists iteF' (by rw[decide_eq_true hps];rfl) ?_
  refine⟨_,_,r,S,rfl,hwW,hdW,sW,nd,hS,fun x hx=>hws x (List.mem_append_left _ hx),fun x hx=>?_,fun a ha l hl' t ht=>?_,by omega,rfl,by omega⟩
  ·rcases c1 x hx with z | z
   ·exact .inl z
   ·rcases List.mem_append.mp z with q | q
    ·exact .inr q
    ·exact .inl (List.mem_singleton.mp q ▸ hps)
  ·rcases c2 a ha l hl' t ht with z | z
   ·exact .inl z
   ·rcases List.mem_append.mp z with q | q
    ·exact .inr q
    ·exact .inl (List.mem_singleton.mp q ▸ hps)
 refine iteT' (by rw[decide_eq_false hps];rfl) ?_
 obtain⟨xs,y,f1,f2,f3,_⟩:=(hm.same sW).at (at_len hp)
 obtain⟨l,hle⟩:∃l,l=M[p]:=⟨_,rfl⟩
 have hlp:M[p]? = some l:=by rw[hle];exact at_len hp
 rw[<-hle]at f3
 obtain⟨b1,b2⟩:=hl l (mI hlp)
 have hput:put1 S p=S++[p]:=by unfold put1;rw[if_neg hps]
 have hS1:S.length<M.length:=by
  have:=nd_le _ _ (nd_put1 (k:=p) nd) fun x hx=>(mem_put1.mp hx).elim (hS x) fun z=>z ▸ hp
  rw[hput,List.length_append,List.length_singleton]at this
  omega
 with_reducible refine s_seq ?_
 specialize s_dput ?_
 refine⟨d,_,rfl,dput_in hdW (by omega) p,?_⟩
 rw[hput]
 obtain⟨H5,hH5⟩:∃H5,H5=upd H4 d (.dK (KS (S++[p]))):=⟨_,rfl⟩
 have hd5:H5 d=some (.dK (KS (S++[p]))):=hH5 ▸ upd_same
 have oth:∀b o,H4 b=some o->b≠d->H5 b=some o:=fun b o e n=>by rw[hH5,upd_ne n];exact e
 have s5:Same H H5:=fun b o e=>oth b o (sW b o e) (ne_of_none e hd)
 rw[<-hH5]
 have hw5:=oth w _ hwW (Ne.symm ndw)
 have fx5:=oth _ _ f1 (ne_of f1 hdW (by intro z;cases z))
 have fy5:=oth _ _ f3 (ne_of f3 hdW (by intro z;cases z))
 ext
 specialize s_bm ?_
 exists ⟨ty_list hw5,?_⟩
 refine q_ixL fx5 f2 ?_
 have hSB:S.length * B<=400 * 800:=Nat.mul_le_mul (by omega) hB
 ext
 refine q_extend hw5 fy5 (big (by rw[IL_len,IL_len];omega)) ?_
 have e6:IL r++IL l=IL (r++l):=by simp[IL]
 rw[e6]
 ext
 have key:(M.length - (S.length+1)) * (B+1)+(B+1)=(M.length - S.length) * (B+1):=by
  rw[<-Nat.succ_mul]
  congr 1
  omega
 refine⟨_,_,r++l,S++[p],rfl,upd_same,by rw[upd_ne ndw];exact hd5,fun b o e=>by rw[upd_ne (ne_of_none e hw0)];exact s5 b o e,hput ▸ nd_put1 nd,fun x hx=>?_,fun x hx=>?_,fun x hx=>?_,fun a ha l' hl' t ht=>?_,?_,rfl,?_⟩
 ·rcases List.mem_append.mp hx with q | q
  ·exact hS x q
  ·rw[List.mem_singleton.mp q];exact hp
 ·rcases List.mem_append.mp hx with q | q
  ·exact hws x (List.mem_append_left _ q)
  ·exact b2 x q
 ·rcases c1 x hx with z | z
  ·exact .inl (List.mem_append_left _ z)
  ·rcases List.mem_append.mp z with q | q
   ·exact .inr (List.mem_append_left _ q)
   ·exact .inl (List.mem_append_right _ q)
 ·rcases List.mem_append.mp ha with q | q
  ·rcases c2 a q l' hl' t ht with z | z
   ·exact .inl (List.mem_append_left _ z)
   ·rcases List.mem_append.mp z with u | u
    ·exact .inr (List.mem_append_left _ u)
    ·exact .inl (List.mem_append_right _ u)
  ·rw[List.mem_singleton.mp q,hlp]at hl'
   cases hl'
   exact .inr (List.mem_append_right _ ht)
 ·rw[List.length_append,List.length_append,List.length_singleton,Nat.succ_mul]
  omega
 ·rw[List.length_append,List.length_append,List.length_singleton]
  omega
theorem check_ways_ok{K:Fg}{H:Hp}{na:Addr}{N:Nt}{Q:VK}{E:XK}(hn:NetAt H na N)(hv:Valid N)(k:∀H',Same H H'->Q .non H'):sp_check_ways K [.ref na] H Q E:=by
 refine⟨rfl,?_⟩
 unfold t_check_ways
 nofun
 exists new_i (by simp) fun p1 H1 hp1 e1 s1=>?_
 exists reached_ok (bs:=[0]) (B:=2) e1 (hn.same s1) hv.le (by decide) (fun l hl=>⟨hv.two l hl,hv.lt l hl⟩) (by simpa using hv.pos) (by simp) fun d1 S1 H2 hd1 nd1 hS1 hb1 cl1 s2=>?_
 have in1:∀x,Rc N x->x∈S1:=by
  intro x h
  induction h with
  | zero=>exact hb1 0 (by simp)
  | @step a t l _ hl ht ih=>exact cl1 a ih l hl t ht
 nofun
 exists stops_of_ok ((hn.same s1).same s2) hv.le fun sa H3 _ e3 s3=>?_
 exists turned_ok (((hn.same s1).same s2).same s3) hv.le hv.two hv.lt fun ta M H4 m4 lM hM1 hM2 s4=>?_
 have lst:(stopsF N).length<=N.length:=by
  have:=List.length_filter_le (isStop N) (List.range N.length)
  rwa [List.length_range]at this
 have hle:=hv.le
 refine reached_ok (bs:=stopsF N) (B:=2 * N.length) (s4 _ _ e3) m4 (by omega) (by omega) (fun l hl=>⟨(hM2 l hl).1,by rw[lM];exact(hM2 l hl).2⟩) (fun x hx=>by
  rw[lM]
  exact List.mem_range.mp (List.mem_filter.mp hx).1) (by omega) fun d2 S2 H5 hd2 nd2 hS2 hb2 cl2 s5=>?_
 have in2:∀x,Gd N x->x∈S2:=by
  intro x h
  induction h with
  | @stop a h=>exact hb2 a (mem_stops h)
  | @step a t l h ht _ ih=>
   obtain⟨l',q1,q2⟩:=hM1 a l h t ht
   exact cl2 t ih l' q1 a q2
 have s05:=(((s1.trans s2).trans s3).trans s4).trans s5
 have hd1':H5 d1=_:=s5 _ _ (s4 _ _ (s3 _ _ hd1))
 obtain⟨ys,hy,ly⟩:=(hn.same s05).len
 ext
 specialize s_for (s_rng1 ?_)
 refine q_lenL hy ?_
 refine⟨N.length,by rw[ly],by omega,by omega,?_⟩
 rw[Int.toNat_natCast]
 refine for_range (fun i σ H6=>∃x3,σ=[some (.ref na),some (.ref d1),some (.ref d2),x3]/\H6=H5) ⟨_,rfl,rfl⟩ ?_ ?_
 ·rintro i _ H6 hi ⟨x3,rfl,rfl⟩
  ext
  rw[Int.zero_add]
  specialize s_dnotin ?_
  obtain⟨o,g1,g2⟩:=dget_in hd1' i
  refine⟨d1,o,rfl,g1,?_⟩
  rw[g2,decide_eq_true (in1 i (hv.rc i hi))]
  ext
  exists iteF' rfl ?_
  specialize s_dnotin ?_
  obtain⟨o',g1',g2'⟩:=dget_in hd2 i
  refine⟨d2,o',rfl,g1',?_⟩
  rw[g2',decide_eq_true (in2 i (hv.gd i hi))]
  ext
  exists iteF' rfl ?_
  exact⟨_,rfl,rfl⟩
 ·rintro _ H6 ⟨x3,rfl,rfl⟩
  exact k _ s05
end RD
namespace RD
open PySem PySem.Spec L2
abbrev Stp:=Int×Int
def FST:Stp:=(-1,0)
def stepsOn(N:Nt)(p:Nat):List Stp:=(List.range (N.getD p []).length).map fun(a:Nat)=>((p:Int),(a:Int))
def stepsU(N:Nt)(i:Nat):List Stp:=FST::(List.range i).flatMap (stepsOn N)
def stepsF(N:Nt):List Stp:=stepsU N N.length
def leadF(N:Nt)(s:Stp):Nat:=if s=FST then 0 else (N.getD s.1.toNat []).getD s.2.toNat 0
theorem stepsU_succ(N:Nt)(i:Nat):stepsU N (i+1)=stepsU N i++stepsOn N i:=by
 unfold stepsU
 rw[List.range_succ,List.flatMap_append]
 simp
def IsStep(N:Nt)(s:Stp):Prop:=s=FST\/∃(p q:Nat) (l:List Nat) (t:Nat),s=((p:Int),(q:Int))/\N[p]? = some l/\l[q]? = some t
theorem isStep_of{N:Nt}{s:Stp}(h:s∈stepsF N):IsStep N s:=by
 rcases List.mem_cons.mp h with z | z
 ·exact .inl z
 ·obtain⟨p,hp,q⟩:=List.mem_flatMap.mp z
  have hp:=List.mem_range.mp hp
  obtain⟨a,ha,rfl⟩:=List.mem_map.mp q
  have ha:=List.mem_range.mp ha
  have e:N.getD p []=N[p]:=by simp[List.getD,hp]
  rw[e]at ha
  exact .inr ⟨p,a,N[p],N[p][a],rfl,at_len hp,by simp⟩
theorem lead_lt{N:Nt}{s:Stp}(hv:Valid N)(h:IsStep N s):leadF N s<N.length:=by
 unfold leadF
 rcases h with rfl | ⟨p,q,l,t,rfl,h1,h2⟩
 ·rw[if_pos rfl];exact hv.pos
 ·split
  ·exact hv.pos
  ·have:(N.getD ((p:Int),(q:Int)).1.toNat []).getD ((p:Int),(q:Int)).2.toNat 0=t:=by
    show(N.getD (p:Int).toNat []).getD (q:Int).toNat 0=t
    rw[Int.toNat_natCast,Int.toNat_natCast]
    simp[List.getD,h1,h2]
   rw[this]
   exact hv.lt l (mI h1) t (mI h2)
def StepT(K:Fg)(H:Hp)(a:Addr)(s:Stp):Prop:=H a=some (.tup [.int s.1,.int s.2])\/(s=FST/\∀H,SqT K H a [.int (-1),.int 0])
theorem StepT.ts{K:Fg}{H H':Hp}{a:Addr}{s:Stp}(h:StepT K H a s)(t:TSame H H'):StepT K H' a s:=by
 rcases h with h | h
 ·exact .inl (t _ _ h)
 ·exact .inr h
theorem StepT.sq{K:Fg}{H:Hp}{a:Addr}{s:Stp}(h:StepT K H a s):SqT K H a [.int s.1,.int s.2]:=by
 rcases h with h | ⟨e,h⟩
 ·exact SqT.of h
 ·subst e;exact h H
structure StepsAt(K:Fg)(H:Hp)(l:Addr)(S:List Stp):Prop where
 ex:∃vs:List Addr,H l=some (.lst (vs.map V.ref))/\vs.length=S.length/\∀(i:Nat) x s,vs[i]? = some x->S[i]? = some s->StepT K H x s
theorem StepsAt.same{K:Fg}{H H':Hp}{l:Addr}{S:List Stp}(h:StepsAt K H l S)(s:Same H H'):StepsAt K H' l S:=by
 obtain⟨vs,h1,h2,h3⟩:=h.ex
 exact⟨vs,s _ _ h1,h2,fun i x t e1 e2=>(h3 i x t e1 e2).ts (Same.ts s)⟩
theorem StepsAt.kept{K:Fg}{H H':Hp}{b c l:Addr}{S:List Stp}(h:StepsAt K H l S)(hB:Bag H b c)(k:Kept b H H'):StepsAt K H' l S:=by
 obtain⟨vs,h1,h2,h3⟩:=h.ex
 exact⟨vs,k.1 _ _ h1 (refs_ne hB h1),h2,fun i x t e1 e2=>(h3 i x t e1 e2).ts (Kept.ts k hB)⟩
theorem StepsAt.put{K:Fg}{H:Hp}{l y:Addr}{S:List Stp}{xs ys:List V}(h:StepsAt K H l S)(hy:H y=some (.lst xs))(n:l≠y):StepsAt K (upd H y (.lst ys)) l S:=by
 obtain⟨vs,h1,h2,h3⟩:=h.ex
 exact⟨vs,by rw[upd_ne n];exact h1,h2,fun i x t e1 e2=>(h3 i x t e1 e2).ts (TSame.put hy)⟩
theorem steps_of_ok{K:Fg}{c:Cn}{H:Hp}{na:Addr}{N:Nt}{Q:VK}{E:XK}(ck:CnOk K c)(hn:NetAt H na N)(h400:N.length<=400)(h2:∀l∈N,l.length<=2)
  (k:∀a H',H a=none->StepsAt K H' a (stepsF N)->Same H H'->Q (.ref a) H'):sp_steps_of K c [.ref na] H Q E:=by
 obtain⟨ns,a1,a2,a3⟩:=id hn.ex
 refine⟨rfl,?_⟩
 unfold t_steps_of
 nofun
 exists new_i (by simp) fun D H1 hD e1 s1=>?_
 with_reducible refine s_seq ?_
 specialize s_for (s_ienum ?_)
 refine⟨na,rfl,⟨_,SqL.of (s1 _ _ a1)⟩,?_⟩
 refine for_i N.length (fun i σ H2=>∃x2 x3 vs,σ=[some (.ref na),some (.ref D),x2,x3]/\H2 D=some (.lst ((vs:List Addr).map V.ref))/\vs.length=(stepsU N i).length/\vs.length<=1+2 * i/\(∀(j:Nat) x s,vs[j]? = some x->(stepsU N i)[j]? = some s->StepT K H2 x s)/\Same H H2) ?_ ?_ ?_ ?_
 ·refine⟨_,_,[c.k_FIRST_STEP],rfl,e1,rfl,by simp,fun j x s f1 f2=>?_,s1⟩
  cases j with
  | zero=>
   cases f1
   cases f2
   exact .inr ⟨rfl,ck.t_FIRST_STEP⟩
  | succ j=>simp at f1
 ·rintro _ H2 ⟨x2,x3,vs,rfl,hD2,lv,_,at2,s2⟩
  exists ⟨⟨_,SqL.of (s2 _ _ a1),by rw[List.length_map,a2];exact Nat.le_refl _⟩,?_⟩
  exact k D H2 hD ⟨vs,hD2,lv,at2⟩ s2
 ·rintro i _ H2 hi ⟨x2,x3,vs,rfl,hD2,lv,_,at2,s2⟩
  exact⟨_,_,SqL.of (s2 _ _ a1),by rw[List.getElem?_map,List.getElem?_eq_getElem (show i<ns.length by omega)];rfl⟩
 ·rintro i _ H2 hi ⟨x2,x3,vs,rfl,hD2,lv,lv2,at2,s2⟩ x H3 ⟨p,y,hp,rfl,rfl,gy⟩
  obtain⟨nx,f1⟩:∃nx,ns[i]? = some nx:=⟨_,List.getElem?_eq_getElem (by omega)⟩
  have gy:=gy _ (SqL.of (s2 _ _ a1))
  rw[List.getElem?_map,f1]at gy
  cases gy
  refine s_gpair (SqT.of upd_same) ?_
  have s3:Same H2 (upd H2 p (.tup [V.int (i:Int),V.ref nx])):=same_new hp
  obtain⟨H3,hH3⟩:∃H3,H3=upd H2 p (.tup [V.int (i:Int),V.ref nx]):=⟨_,rfl⟩
  rw[<-hH3]at s3 ⊢
  have s03:=s2.trans s3
  have hl:=at_len hi
  obtain⟨l,hle⟩:∃l,l=N[i]:=⟨_,rfl⟩
  rw[<-hle]at hl
  have hll:=h2 l (mI hl)
  have hx:=s03 _ _ (a3 i nx l f1 hl)
  ext
  specialize s_bm ?_
  exists ⟨ty_list (s3 _ _ hD2),?_⟩
  specialize s_comp (s_rng1 ?_)
  refine q_lenL hx ?_
  rw[IL_len]
  refine⟨l.length,rfl,by omega,by omega,fun A hA=>?_⟩
  rw[Int.toNat_natCast]
  refine comp_rng (fun j ys H4=>∃ws:List Addr,ys=ws.map V.ref/\ws.length=j/\(∀(q:Nat) x,ws[q]? = some x->H4 x=some (.tup [.int (i:Int),.int (q:Int)]))/\H4 A=some (.lst ys)/\Same H3 H4) ?_ ?_ ?_ ?_
  ·exact⟨[],rfl,rfl,by simp,upd_same,same_new hA⟩
  ·rintro j ys H4 ⟨_,_,_,_,h,_⟩
   exact h
  ·rintro j ys H4 hj ⟨ws,rfl,lw,at4,hA4,s4⟩ R hR
   ext
   refine new_i (by simp) fun z H5 hz e5 s5=>?_
   rw[Int.zero_add]at e5
   have nzA:z≠A:=(ne_of_none hA4 hz).symm
   refine hR _ _ (s5 _ _ hA4) (smallT (by rw[List.length_map];omega)) ⟨ws++[z],by simp,by simp[lw],fun q x hq=>?_,upd_same,fun b o e=>?_⟩
   ·rcases snocAt hq with ⟨_,g⟩ | ⟨hq',g⟩
    ·have:=s5 _ _ (at4 q x g)
     rw[upd_ne (ne_of this (s5 _ _ hA4) (by intro z;cases z))]
     exact this
    ·subst g
     rw[upd_ne nzA,e5,hq',lw]
   ·rw[upd_ne (ne_of_none e hA)];exact s5 _ _ (s4 _ _ e)
  ·rintro ys H4 ⟨ws,rfl,lw,at4,hA4,s4⟩
   ext
   have hD4:H4 D=_:=s4 _ _ (s3 _ _ hD2)
   have s04:=s03.trans s4
   refine q_extend hD4 hA4 (big (by rw[List.length_map,List.length_map];omega)) ?_
   rw[<-List.map_append]
   have hon:stepsOn N i=(List.range l.length).map fun(a:Nat)=>((i:Int),(a:Int)):=by
    unfold stepsOn
    simp[List.getD,hl]
   have hU:=stepsU_succ N i
   have lon:(stepsOn N i).length=l.length:=by rw[hon];simp
   refine⟨_,_,vs++ws,rfl,upd_same,by rw[hU,List.length_append,List.length_append,lv,lw,lon],by rw[List.length_append];omega,fun j x s g1 g2=>?_,fun b o e=>?_⟩
   ·rw[hU]at g2
    by_cases hj:j<vs.length
    ·rw[List.getElem?_append_left hj]at g1
     rw[List.getElem?_append_left (by omega)]at g2
     exact((at2 j x s g1 g2).ts (Same.ts (s3.trans s4))).ts (TSame.put hD4)
    ·rw[List.getElem?_append_right (by omega)]at g1
     rw[List.getElem?_append_right (by omega),<-lv,hon,List.getElem?_map]at g2
     have hq:j - vs.length<l.length:=by
      have:=(gI g1)
      omega
     rw[List.getElem?_range hq]at g2
     cases g2
     have:=at4 _ _ g1
     exact .inl (by rw[upd_ne (ne_of this hD4 (by intro z;cases z))];exact this)
   ·rw[upd_ne (ne_of_none e hD)];exact s04 _ _ e
def PlanX(c:Cn)(H:Hp)(x:Addr)(N:Nt):Prop:=∃dx fs n,H x=some (.ins c.C_Plan dx fs)/\fs.lookup ("nexts" : Str)=some (V.ref n)/\NetAt H n N
theorem eq2(p q:Int):flatEq [.int p,.int q] [.int (-1),.int 0]=decide ((p,q)=FST):=by
 unfold flatEq
 simp only[List.length_cons,List.length_nil,Nat.zero_add,Nat.reduceAdd,Nat.min_self]
 rw[show List.range 2=[0,1] from rfl]
 simp only[List.all_cons,List.all_nil,Bool.and_true,List.getD,List.getElem?_cons_zero,List.getElem?_cons_succ,Option.getD_some,beq_self_eq_true]
 unfold FST
 by_cases h:p = -1
 ·by_cases h':q=0
  ·subst h h';decide
  ·subst h
   simp[eqV,h']
 ·simp[eqV,h]
theorem leads_to_ok{K:Fg}{c:Cn}{H:Hp}{x a:Addr}{N:Nt}{s:Stp}{Q:VK}{E:XK}(ck:CnOk K c)(hp:PlanX c H x N)(ha:StepT K H a s)(hs:IsStep N s)(k:Q (.int (leadF N s:Nat)) H):sp_Plan_leads_to K c [.ref x,.ref a] H Q E:=by
 refine⟨rfl,?_⟩
 unfold t_Plan_leads_to
 nofun
 refine⟨_,_,_,_,rfl,rfl,ha.sq,ck.t_FIRST_STEP H,rfl,rfl,?_⟩
 rw[eq2]
 ext
 by_cases e:s=FST
 ·exists iteT' (decide_eq_true e) ?_
  unfold leadF at k
  rw[if_pos e]at k
  exact k
 ·exists iteF' (decide_eq_false e) ?_
  rcases hs with z | ⟨p,q,l,t,rfl,h1,h2⟩
  ·exact(e z).elim
  rcases ha with ha | ⟨z,_⟩
  rotate_left
  ·exact(e z).elim
  obtain⟨dx,fs,n,hx,hf,hn⟩:=hp
  specialize s_fld ?_
  exists ⟨x,_,dx,fs,_,rfl,hx,ck.cls_Plan,ck.na_Plan_nexts,hf,?_⟩
  refine q_ixT ha (atI0 _ _) ?_
  obtain⟨xs,y,f1,f2,f3,_⟩:=hn.at h1
  exists q_ixL f1 f2 ?_
  refine q_ixT ha (atI1 _ _ _) ?_
  refine q_ixL f3 (IL_at h2) ?_
  have:leadF N ((p:Int),(q:Int))=t:=by
   unfold leadF
   rw[if_neg e]
   show(N.getD (p:Int).toNat []).getD (q:Int).toNat 0=t
   rw[Int.toNat_natCast,Int.toNat_natCast]
   simp[List.getD,h1,h2]
  rw[this]at k
  exact k
end RD
namespace RD
open PySem PySem.Spec L2
structure EntI(K:Fg)(H0 H:Hp)(e:Addr)(es:List Addr)(P:List (List Stp)):Prop where
 same:Same H0 H
 h:H e=some (.lst (es.map V.ref))
 len:es.length=P.length
 nd:es.Nodup
 na:e∉es
 at_:∀(i:Nat) y S,es[i]? = some y->P[i]? = some S->StepsAt K H y S
 new:H0 e=none/\∀y∈es,H0 y=none
theorem EntI.add{K:Fg}{H0 H:Hp}{e:Addr}{es:List Addr}{P:List (List Stp)}(h:EntI K H0 H e es P){t:Nat}{y a:Addr}{S:List Stp}{s:Stp}{vs:List Addr}(e1:es[t]? = some y)(e2:P[t]? = some S)(hy:H y=some (.lst (vs.map V.ref)))
  (lv:vs.length=S.length) (at2:∀(i:Nat) x s,vs[i]? = some x->S[i]? = some s->StepT K H x s) (ha:StepT K H a s):EntI K H0 (upd H y (.lst ((vs++[a]).map V.ref))) e es (P.set t (S++[s])):=by
 have hm:=mI e1
 have ye:y≠e:=fun z=>h.na (z ▸ hm)
 refine⟨fun b o q=>by rw[upd_ne (ne_of_none q (h.new.2 y hm))];exact h.same b o q,by rw[upd_ne ye.symm];exact h.h,by rw[List.length_set];exact h.len,h.nd,h.na,fun i z S' f1 f2=>?_,h.new⟩
 by_cases q:i=t
 ·subst q
  rw[e1]at f1
  cases f1
  rw[List.getElem?_set_self (gI e2)]at f2
  cases f2
  refine⟨vs++[a],upd_same,by simp[lv],fun j x s' g1 g2=>?_⟩
  rcases snocAt g1 with ⟨_,k1⟩ | ⟨j1,k1⟩
  ·rcases snocAt g2 with ⟨_,k2⟩ | ⟨j2,k2⟩
   ·exact(at2 j x s' k1 k2).ts (TSame.put hy)
   ·omega
  ·rcases snocAt g2 with ⟨_,k2⟩ | ⟨j2,k2⟩
   ·omega
   ·subst k1 k2
    exact ha.ts (TSame.put hy)
 ·rw[List.getElem?_set_ne (Ne.symm q)]at f2
  have:z≠y:=by
   rintro rfl
   exact q (nd_ix h.nd f1 e1)
  exact(h.at_ i z S' f1 f2).put hy this
structure PlanAt(K:Fg)(c:Cn)(H:Hp)(x:Addr)(N:Nt):Prop where
 ex:∃dx r n e es,H x=some (.ins c.C_Plan dx [("rows", .ref r),("nexts", .ref n),("entries", .ref e)])/\RowsAt H r N/\NetAt H n N/\H e=some (.lst ((es:List Addr).map V.ref))/\es.length=N.length /\
  ∀(t:Nat) y,es[t]? = some y->StepsAt K H y ((stepsF N).filter fun s=>decide (leadF N s=t))
structure PlanZ(K:Fg)(c:Cn)(Z:Addr->Prop)(rs:List Addr)(H:Hp)(x:Addr)(N:Nt):Prop where
 ex:∃dx r n e es ns,H x=some (.ins c.C_Plan dx [("rows", .ref r),("nexts", .ref n),("entries", .ref e)])/\(RowsAt H r N/\H r=some (.lst (rs.map V.ref)))/\H n=some (.lst ((ns:List Addr).map V.ref))/\ns.length=N.length/\(∀(i:Nat) y l,ns[i]? = some y->N[i]? = some l->H y=some (.lst (IL l))) /\
  H e=some (.lst ((es:List Addr).map V.ref))/\es.length=N.length/\(∀(t:Nat) y,es[t]? = some y->StepsAt K H y ((stepsF N).filter fun s=>decide (leadF N s=t)))/\∀z,Z z->z≠r/\z≠n/\z≠e/\z∉ns/\z∉es
theorem PlanZ.at{K:Fg}{c:Cn}{Z:Addr->Prop}{rs:List Addr}{H:Hp}{x:Addr}{N:Nt}(h:PlanZ K c Z rs H x N):PlanAt K c H x N:=by
 obtain⟨dx,r,n,e,es,ns,h1,⟨h2,h2r⟩,h3,h4,h5,h6,h7,h8,_⟩:=h.ex
 exact⟨dx,r,n,e,es,h1,h2,⟨ns,h3,h4,h5⟩,h6,h7,h8⟩
theorem PlanZ.put{K:Fg}{c:Cn}{Z:Addr->Prop}{rs:List Addr}{H:Hp}{x z:Addr}{N:Nt}{xs ys:List V}(h:PlanZ K c Z rs H x N)(hz:Z z)(hl:H z=some (.lst xs)):PlanZ K c Z rs (upd H z (.lst ys)) x N:=by
 obtain⟨dx,r,n,e,es,ns,h1,⟨h2,h2r⟩,h3,h4,h5,h6,h7,h8,h9⟩:=h.ex
 obtain⟨z1,z2,z3,z4,z5⟩:=h9 z hz
 refine⟨dx,r,n,e,es,ns,by rw[upd_ne (ne_of h1 hl (by intro z;cases z))];exact h1,⟨?_,by rw[upd_ne z1.symm];exact h2r⟩,by rw[upd_ne z2.symm];exact h3,h4,fun i y l a b=>?_,by rw[upd_ne z3.symm];exact h6,h7,fun t y q=>(h8 t y q).put hl fun u=>z5 (u ▸ mI q),h9⟩
 ·obtain⟨rs',r1,r2,r3⟩:=h2.ex
  exact⟨rs',by rw[upd_ne z1.symm];exact r1,r2,fun i y l a b=>(r3 i y l a b).ts (TSame.put hl)⟩
 ·rw[upd_ne (show y≠z from fun u=>z4 (u ▸ mI a))]
  exact h5 i y l a b
theorem PlanZ.same{K:Fg}{c:Cn}{Z:Addr->Prop}{rs:List Addr}{H H':Hp}{x:Addr}{N:Nt}(h:PlanZ K c Z rs H x N)(s:Same H H'):PlanZ K c Z rs H' x N:=by
 obtain⟨dx,r,n,e,es,ns,h1,⟨h2,h2r⟩,h3,h4,h5,h6,h7,h8,h9⟩:=h.ex
 exact⟨dx,r,n,e,es,ns,s _ _ h1,⟨h2.same s,s _ _ h2r⟩,s _ _ h3,h4,fun i y l a b=>s _ _ (h5 i y l a b),s _ _ h6,h7,fun t y q=>(h8 t y q).same s,h9⟩
theorem PlanZ.kept{K:Fg}{c:Cn}{Z:Addr->Prop}{rs:List Addr}{H H':Hp}{b d x:Addr}{N:Nt}(h:PlanZ K c Z rs H x N)(hB:Bag H b d)(h2':∀l∈N,l.length<=2)(k:Kept b H H'):PlanZ K c Z rs H' x N:=by
 obtain⟨dx,r,n,e,es,ns,h1,⟨h2,h2r⟩,h3,h4,h5,h6,h7,h8,h9⟩:=h.ex
 obtain⟨bs,hb⟩:=hB.lst
 refine⟨dx,r,n,e,es,ns,k.1 _ _ h1 (ne_of h1 hb (by intro z;cases z)),⟨h2.kept hB k,k.1 _ _ h2r (refs_ne hB h2r)⟩,k.1 _ _ h3 (refs_ne hB h3),h4,fun i y l a b=>?_,k.1 _ _ h6 (refs_ne hB h6),h7,fun t y q=>(h8 t y q).kept hB k,h9⟩
 have q:=h5 i y l a b
 exact k.1 _ _ q (short_ne hB q (by rw[IL_len];have:=h2' l (mI b);omega))
theorem PlanAt.same{K:Fg}{c:Cn}{H H':Hp}{x:Addr}{N:Nt}(h:PlanAt K c H x N)(s:Same H H'):PlanAt K c H' x N:=by
 obtain⟨dx,r,n,e,es,h1,h2,h3,h4,h5,h6⟩:=h.ex
 exact⟨dx,r,n,e,es,s _ _ h1,h2.same s,h3.same s,s _ _ h4,h5,fun t y q=>(h6 t y q).same s⟩
theorem PlanAt.kept{K:Fg}{c:Cn}{H H':Hp}{b d x:Addr}{N:Nt}(h:PlanAt K c H x N)(hB:Bag H b d)(h2':∀l∈N,l.length<=2)(k:Kept b H H'):PlanAt K c H' x N:=by
 obtain⟨dx,r,n,e,es,h1,h2,h3,h4,h5,h6⟩:=h.ex
 obtain⟨bs,hb⟩:=hB.lst
 exact⟨dx,r,n,e,es,k.1 _ _ h1 (ne_of h1 hb (by intro z;cases z)),h2.kept hB k,h3.kept hB h2' k,k.1 _ _ h4 (refs_ne hB h4),h5,fun t y q=>(h6 t y q).kept hB k⟩
theorem PlanAt.x{K:Fg}{c:Cn}{H:Hp}{x:Addr}{N:Nt}(h:PlanAt K c H x N):PlanX c H x N:=by
 obtain⟨dx,r,n,e,es,h1,h2,h3,_⟩:=h.ex
 exact⟨dx,_,n,h1,rfl,h3⟩
theorem NetAt.ins{H:Hp}{a x C dx:Addr}{N:Nt}{fs:List (Str×V)}{o:HO}(h:NetAt H a N)(hx:H x=some (.ins C dx fs)):NetAt (upd H x o) a N:=by
 obtain⟨as,q1,q2,q3⟩:=h.ex
 exact⟨as,by rw[upd_ne (ne_of q1 hx (by intro z;cases z))];exact q1,q2,fun j y l e1 e2=>by
  have q:=q3 j y l e1 e2
  rw[upd_ne (ne_of q hx (by intro z;cases z))];exact q⟩
theorem TSame.ins{H:Hp}{x C dx:Addr}{fs:List (Str×V)}{o:HO}(hx:H x=some (.ins C dx fs)):TSame H (upd H x o):=fun a xs e=>by
 rw[upd_ne (ne_of e hx (by intro z;cases z))];exact e
theorem RowsAt.ins{H:Hp}{a x C dx:Addr}{N:Nt}{fs:List (Str×V)}{o:HO}(h:RowsAt H a N)(hx:H x=some (.ins C dx fs)):RowsAt (upd H x o) a N:=by
 obtain⟨as,q1,q2,q3⟩:=h.ex
 exact⟨as,by rw[upd_ne (ne_of q1 hx (by intro z;cases z))];exact q1,q2,fun j y l e1 e2=>(q3 j y l e1 e2).ts (TSame.ins hx)⟩
theorem steps_len{N:Nt}(h:∀l∈N,l.length<=2):(stepsF N).length<=1+2 * N.length:=by
 have go:∀i,i<=N.length->(stepsU N i).length<=1+2 * i:=by
  intro i
  induction i with
  | zero=>intro _;show 1<=1;exact Nat.le_refl _
  | succ i ih=>
   intro hi
   rw[stepsU_succ,List.length_append]
   have:=ih (by omega)
   have h2:(stepsOn N i).length<=2:=by
    unfold stepsOn
    rw[List.length_map,List.length_range]
    have e:N.getD i []=N[i]:=by simp[List.getD,show i<N.length by omega]
    rw[e]
    exact h _ (List.getElem_mem _)
   omega
 exact go _ (Nat.le_refl _)
theorem filter_set{S:List Stp}{f:Stp->Nat}{i t:Nat}{s:Stp}(h:S[i]? = some s):(S.take (i+1)).filter (fun s=>decide (f s=t))=(S.take i).filter (fun s=>decide (f s=t))++(if f s=t then [s] else []):=by
 rw[List.take_add_one,h,List.filter_append]
 congr 1
 by_cases e:f s=t
 ·rw[if_pos e];simp[e]
 ·rw[if_neg e];simp[e]
theorem plan_init_ok{K:Fg}{c:Cn}{H:Hp}{x dx ra na:Addr}{N:Nt}{rs:List Addr}{Q:VK}{E:XK}(ck:CnOk K c)(hrs:H ra=some (.lst (rs.map V.ref)))(hr:RowsAt H ra N)(hn:NetAt H na N)(hv:Valid N)(hx:H x=some (.ins c.C_Plan dx []))
  (k:∀H',PlanZ K c (fun z=>∃o,H z=some o/\z≠x) rs H' x N->(∀b o,H b=some o->b≠x->H' b=some o)->Q .non H'):sp_Plan_init K c [.ref x,.ref ra,.ref na] H Q E:=by
 obtain⟨rs',r1,r2,r3⟩:=id hr.ex
 obtain rfl:rs'=rs:=by
  rw[hrs]at r1
  exact(List.map_inj_right (f:=V.ref) (fun a b h=>V.ref.inj h) |>.mp (HO.lst.inj (Option.some.inj r1))).symm
 obtain⟨ns,n1,n2,n3⟩:=id hn.ex
 have hpos:=hv.pos
 have h400:=hv.le
 refine⟨rfl,?_⟩
 unfold t_Plan_init
 nofun
 exists check_length_ok r1 (by rw[List.length_map];omega) (by rw[List.length_map];omega) ?_
 nofun
 specialize s_comp (s_ilst ?_)
 refine⟨ra,rfl,⟨_,SqL.of r1⟩,fun D hD=>?_⟩
 refine comp_lst (xs:=rs'.map V.ref) (fun i ys H2=>ys=List.replicate i (V.bl true)/\H2 D=some (.lst ys)/\Same H H2) ⟨rfl,upd_same,same_new hD⟩ ?_ ?_ ?_ ?_
 ·rintro i ys H2 ⟨_,h,_⟩
  exact h
 ·rintro i ys H2 _ ⟨_,_,s2⟩
  exact SqL.of (s2 _ _ r1)
 ·rintro i y ys H2 hy ⟨rfl,hD2,s2⟩ R hR
  rw[List.getElem?_map]at hy
  cases hrx:rs'[i]? with
  | none=>rw[hrx]at hy;cases hy
  | some rx=>
   rw[hrx]at hy
   cases hy
   have hi:i<N.length:=by rw[<-r2];exact(gI hrx)
   ext
   refine is_row_rw ck ((r3 i rx _ hrx (at_len hi)).ts (Same.ts s2)) fun H3 s3=>?_
   refine hR _ _ (s3 _ _ hD2) (smallT (by rw[List.length_replicate];omega)) ⟨tru_snoc i,upd_same,fun b o e=>?_⟩
   rw[upd_ne (ne_of_none e hD)];exact s3 _ _ (s2 _ _ e)
 rintro ys H2 ⟨rfl,hD2,s2⟩
 ext
 refine check_each_ok hD2 fun H3 s3=>?_
 have s03:=s2.trans s3
 ext
 nofun
 refine check_nexts_ok (hr.same s03) (hn.same s03) h400 hv.two hv.lt fun H4 s4=>?_
 have s04:=s03.trans s4
 ext
 nofun
 refine check_ways_ok (hn.same s04) hv fun H5 s5=>?_
 have s05:=s04.trans s5
 ext
 with_reducible refine s_seq ?_
 specialize s_sfld ?_
 refine q_listL (s05 _ _ r1) fun rp H6 hrp e6 s6=>?_
 have s06:=s05.trans s6
 ext
 refine⟨x,_,dx,[],rfl,s06 _ _ hx,ck.cls_Plan,ck.na_Plan_rows,by simp,?_⟩
 obtain⟨H7,hH7⟩:∃H7,H7=upd H6 x (.ins c.C_Plan dx (putF "rows" (.ref rp) [])):=⟨_,rfl⟩
 have x7:H7 x=some (.ins c.C_Plan dx [("rows", .ref rp)]):=hH7 ▸ upd_same
 have f7:∀b o,H6 b=some o->b≠x->H7 b=some o:=fun b o e n=>by rw[hH7,upd_ne n];exact e
 have rows7:RowsAt H7 rp N:=by
  have q:RowsAt H6 rp N:=⟨rs',e6,r2,fun i y l a b=>(r3 i y l a b).ts (Same.ts s06)⟩
  rw[hH7]
  exact q.ins (s06 _ _ hx)
 have net7:NetAt H7 na N:=by rw[hH7];exact(hn.same s06).ins (s06 _ _ hx)
 have ra7:H7 ra=some (.lst (rs'.map V.ref)):=f7 _ _ (s06 _ _ r1) (ne_of r1 hx (by intro z;cases z))
 rw[<-hH7]
 clear hH7
 with_reducible refine s_seq ?_
 with_reducible refine s_sfld ?_
 with_reducible refine s_comp (s_ilst ?_)
 obtain⟨ns',m1,m2,m3⟩:=id net7.ex
 ext
 refine⟨na,rfl,⟨_,SqL.of m1⟩,fun np hnp=>?_⟩
 refine comp_lst (xs:=ns'.map V.ref) (fun i ys H8=>∃as:List Addr,ys=as.map V.ref/\as.length=i/\(∀(j:Nat) y l,as[j]? = some y->N[j]? = some l->H8 y=some (.lst (IL l))/\y≠np)/\H8 np=some (.lst ys)/\Same H7 H8/\∀y∈as,H7 y=none) ?_ ?_ ?_ ?_ ?_
 ·exact⟨[],rfl,rfl,by simp,upd_same,same_new hnp,by simp⟩
 ·rintro i ys H8 ⟨_,_,_,_,h,_⟩
  exact h
 ·rintro i ys H8 _ ⟨_,_,_,_,_,s8,_⟩
  exact SqL.of (s8 _ _ m1)
 ·rintro i y ys H8 hy ⟨as,rfl,la,at8,hnp8,s8,fr8⟩ R hR
  rw[List.getElem?_map]at hy
  cases hnx:ns'[i]? with
  | none=>rw[hnx]at hy;cases hy
  | some nx=>
   rw[hnx]at hy
   cases hy
   have hi:i<N.length:=by rw[<-m2];exact(gI hnx)
   ext
   refine q_listL (s8 _ _ (m3 i nx _ hnx (at_len hi))) fun q H9 hq e9 s9=>?_
   have nq:q≠np:=(ne_of_none hnp8 hq).symm
   refine hR _ _ (s9 _ _ hnp8) (smallT (by rw[List.length_map];omega)) ⟨as++[q],by simp,by simp[la],fun j y l g1 g2=>?_,upd_same,fun b o e=>?_,fun y hy=>?_⟩
   ·rcases snocAt g1 with ⟨_,f1⟩ | ⟨hj,f1⟩
    ·obtain⟨f2,f3⟩:=at8 j y l f1 g2
     exact⟨by rw[upd_ne f3];exact s9 _ _ f2,f3⟩
    ·rw[hj,la,at_len hi]at g2
     cases g2
     subst f1
     exact⟨by rw[upd_ne nq];exact e9,nq⟩
   ·rw[upd_ne (ne_of_none e hnp)];exact s9 _ _ (s8 _ _ e)
   ·rcases List.mem_append.mp hy with z | z
    ·exact fr8 y z
    ·rw[List.mem_singleton.mp z];exact s8.free hq
 rintro ys H8 ⟨as,rfl,la,at8,hnp8,s8,fr8⟩
 rw[List.length_map,m2]at la
 have net8:NetAt H8 np N:=⟨as,hnp8,la,fun i y l a b=>(at8 i y l a b).1⟩
 ext
 refine⟨x,_,dx,_,rfl,s8 _ _ x7,ck.cls_Plan,ck.na_Plan_nexts,by simp,?_⟩
 obtain⟨H9,hH9⟩:∃H9,H9=upd H8 x (.ins c.C_Plan dx (putF "nexts" (.ref np) [("rows", .ref rp)])):=⟨_,rfl⟩
 have x9:H9 x=some (.ins c.C_Plan dx [("rows", .ref rp),("nexts", .ref np)]):=by
  rw[hH9,upd_same]
  simp only[putF]
  rw[if_neg (by decide)]
 have f9:∀b o,H8 b=some o->b≠x->H9 b=some o:=fun b o e n=>by rw[hH9,upd_ne n];exact e
 have rows9:RowsAt H9 rp N:=by rw[hH9];exact(rows7.same s8).ins (s8 _ _ x7)
 have net9:NetAt H9 np N:=by rw[hH9];exact net8.ins (s8 _ _ x7)
 have ra9:H9 ra=some (.lst (rs'.map V.ref)):=f9 _ _ (s8 _ _ ra7) (ne_of ra7 x7 (by intro z;cases z))
 rw[<-hH9]
 clear hH9
 with_reducible refine s_seq ?_
 with_reducible refine s_sfld ?_
 specialize s_comp (s_ilst ?_)
 refine⟨ra,rfl,⟨_,SqL.of ra9⟩,fun ep hep=>?_⟩
 refine comp_lst (xs:=rs'.map V.ref) (fun i ys H10=>∃es,ys=es.map V.ref/\SrcI H9 H10 ep es (List.replicate i [])) ?_ ?_ ?_ ?_ ?_
 ·exact⟨[],rfl,.nil hep (same_new hep) upd_same⟩
 ·rintro i ys H10 ⟨es,rfl,I⟩
  exact I.h
 ·rintro i ys H10 _ ⟨es,rfl,I⟩
  exact SqL.of (I.same _ _ ra9)
 ·rintro i y ys H10 hy ⟨es,rfl,I⟩ R hR
  have hi:i<N.length:=by
   have:=(gI hy)
   rw[List.length_map,r2]at this
   exact this
  ext
  refine new_i (by simp) fun p H11 hp e11 s11=>?_
  have:=I.len
  rw[List.length_replicate]at this
  refine hR _ _ (s11 _ _ I.h) (smallT (by rw[List.length_map];omega)) ⟨es++[p],by simp,?_⟩
  have q:=I.snoc hp e11 s11
  rw[show List.replicate i ([]:List Nat)++[[]]=List.replicate (i+1) [] from by rw[List.replicate_succ']]at q
  rw[show es.map V.ref++[V.ref p]=(es++[p]).map V.ref by simp]
  exact q
 rintro ys H10 ⟨es,rfl,I10⟩
 rw[List.length_map,r2]at I10
 ext
 have x10:=I10.same _ _ x9
 refine⟨x,_,dx,_,rfl,x10,ck.cls_Plan,ck.na_Plan_entries,by simp,?_⟩
 obtain⟨F,hF⟩:∃F:List (Str×V),F=([("rows", .ref rp),("nexts", .ref np),("entries", .ref ep)]:List (Str×V)):=⟨_,rfl⟩
 have hput:putF "entries" (.ref ep) [("rows", .ref rp),("nexts", .ref np)]=F:=by
  rw[hF]
  simp only[putF]
  rw[if_neg (by decide),if_neg (by decide)]
 rw[hput]
 obtain⟨H11,hH11⟩:∃H11,H11=upd H10 x (.ins c.C_Plan dx F):=⟨_,rfl⟩
 obtain⟨H0,hH0⟩:∃H0,H0=upd H9 x (.ins c.C_Plan dx F):=⟨_,rfl⟩
 have x0:H0 x=some (.ins c.C_Plan dx F):=hH0 ▸ upd_same
 have f0:∀b o,H9 b=some o->b≠x->H0 b=some o:=fun b o e n=>by rw[hH0,upd_ne n];exact e
 have rows0:RowsAt H0 rp N:=by rw[hH0];exact rows9.ins x9
 have net0:NetAt H0 np N:=by rw[hH0];exact net9.ins x9
 have np0:H0 np=some (.lst (as.map V.ref)):=by
  have:=f9 _ _ hnp8 (ne_of hnp8 (s8 _ _ x7) (by intro z;cases z))
  exact f0 _ _ this (ne_of this x9 (by intro z;cases z))
 have rp0:H0 rp=some (.lst (rs'.map V.ref)):=by
  have q:=s8 _ _ (f7 _ _ e6 (ne_of e6 (s06 _ _ hx) (by intro z;cases z)))
  have q:=f9 _ _ q (ne_of q (s8 _ _ x7) (by intro z;cases z))
  exact f0 _ _ q (ne_of q x9 (by intro z;cases z))
 have at0:∀(i:Nat) y l,as[i]? = some y->N[i]? = some l->H0 y=some (.lst (IL l)):=fun i y l a b=>by
  have q:=(at8 i y l a b).1
  have q:=f9 _ _ q (ne_of q (s8 _ _ x7) (by intro z;cases z))
  exact f0 _ _ q (ne_of q x9 (by intro z;cases z))
 have old9:∀b o,H b=some o->b≠x->H9 b=some o:=fun b o e n=>f9 _ _ (s8 _ _ (f7 _ _ (s06 _ _ e) n)) n
 have ent11:EntI K H0 H11 ep es (List.replicate N.length []):=by
  have nxe:x≠ep:=ne_of_none x9 hep
  have nxes:∀y∈es,x≠y:=fun y hy=>ne_of_none x9 (I10.new.2 y hy)
  refine⟨fun b o e=>?_,by rw[hH11,upd_ne nxe.symm];exact I10.h,by rw[List.length_replicate];have:=I10.len;rwa [List.length_replicate]at this,I10.nd,I10.na,fun i y S a b=>?_,by rw[hH0,upd_ne nxe.symm];exact hep,fun y hy=>by rw[hH0,upd_ne (nxes y hy).symm];exact I10.new.2 y hy⟩
  ·rw[hH0]at e
   rw[hH11]
   by_cases q:b=x
   ·subst q
    rw[upd_same]at e ⊢
    exact e
   ·rw[upd_ne q]at e ⊢
    exact I10.same _ _ e
  ·have hi:=(gI b)
   rw[List.length_replicate]at hi
   have q:=I10.at_ i y [] a (by rw[List.getElem?_replicate,if_pos hi])
   rw[List.getElem?_replicate,if_pos hi]at b
   cases b
   refine⟨[],?_,rfl,by simp⟩
   rw[hH11,upd_ne (ne_of q x10 (by intro z;cases z))]
   exact q
 have old:∀b o,H b=some o->b≠x->H0 b=some o:=fun b o e n=>f0 _ _ (f9 _ _ (s8 _ _ (f7 _ _ (s06 _ _ e) n)) n) n
 rw[<-hH11]
 clear hH11 hH0 I10 x10 f0 f9 x9 ra9 net9 rows9
 specialize s_for (s_ilst ?_)
 specialize s_fld ?_
 exists ⟨x,_,dx,F,.ref np,rfl,ent11.same _ _ x0,ck.cls_Plan,ck.na_Plan_nexts,by rw[hF];rfl,?_⟩
 refine steps_of_ok ck (net0.same ent11.same) h400 hv.two fun sl H12 hsl S12 s12=>?_
 obtain⟨vs,v1,v2,v3⟩:=id S12.ex
 have nsl:sl∉es:=fun z=>by
  obtain⟨i,hi⟩:=List.mem_iff_getElem?.mp z
  have hil:i<N.length:=by
   have:=ent11.len
   rw[List.length_replicate]at this
   rw[<-this];exact(gI hi)
  obtain⟨ws,w1,_⟩:=(ent11.at_ i sl [] hi (by rw[List.getElem?_replicate,if_pos hil])).ex
  rw[hsl]at w1
  cases w1
 refine⟨sl,rfl,⟨_,SqL.of v1⟩,for_list (xs:=vs.map V.ref) (fun i σ H13=>∃x3 P,σ=[some (.ref x),some (.ref ra),some (.ref na),x3]/\EntI K H0 H13 ep es P/\P.length=N.length/\(∀t,t<N.length->P[t]? = some (((stepsF N).take i).filter fun s=>decide (leadF N s=t)))/\StepsAt K H13 sl (stepsF N)/\H13 sl=some (.lst (vs.map V.ref))) ?_ ?_ ?_ ?_⟩
 ·refine⟨_,List.replicate N.length [],rfl,⟨ent11.same.trans s12,s12 _ _ ent11.h,ent11.len,ent11.nd,ent11.na,fun i y S a b=>(ent11.at_ i y S a b).same s12,ent11.new⟩,by simp,fun t ht=>by rw[List.getElem?_replicate,if_pos ht];simp,S12,v1⟩
 ·rintro i σ H13 _ ⟨_,_,_,_,_,_,_,h⟩
  exact SqL.of h
 ·rintro i y _ H13 hy ⟨x3,P,rfl,I13,lP,hP,S13,hsl13⟩
  rw[List.getElem?_map]at hy
  cases hvx:vs[i]? with
  | none=>rw[hvx]at hy;cases hy
  | some vx=>
   rw[hvx]at hy
   cases hy
   obtain⟨ws,w1,w2,w3⟩:=S13.ex
   have ews:ws=vs:=by
    rw[hsl13]at w1
    have:=List.map_inj_right (f:=V.ref) (fun a b h=>V.ref.inj h) |>.mp (HO.lst.inj (Option.some.inj w1))
    exact this.symm
   subst ews
   have hi:i<(stepsF N).length:=by rw[<-w2];exact(gI hvx)
   obtain⟨s,hs⟩:∃s,(stepsF N)[i]? = some s:=⟨_,List.getElem?_eq_getElem hi⟩
   have hst:=w3 i vx s hvx hs
   have hm:=mI hs
   have his:=isStep_of hm
   have hlt:=lead_lt hv his
   have x13:=I13.same _ _ x0
   ext
   specialize s_bm ?_
   specialize s_fld ?_
   refine⟨x,_,dx,F,.ref ep,rfl,x13,ck.cls_Plan,ck.na_Plan_entries,by rw[hF];rfl,?_⟩
   specialize s_meth ?_
   exists ⟨x,dx,F,rfl,x13,by rw[hF];rfl,?_⟩
   refine leads_to_ok ck ⟨dx,F,np,x13,by rw[hF];rfl,net0.same I13.same⟩ hst his ?_
   obtain⟨z,hz⟩:∃z,es[leadF N s]? = some z:=⟨_,List.getElem?_eq_getElem (by have:=I13.len;omega)⟩
   refine q_ixL I13.h (atI_nat (by rw[List.getElem?_map,hz];rfl)) ?_
   have hPt:=hP _ hlt
   obtain⟨us,u1,u2,u3⟩:=(I13.at_ _ z _ hz hPt).ex
   exists ⟨ty_list u1,?_⟩
   have hul:us.length<=i:=by
    rw[u2]
    refine Nat.le_trans (List.length_filter_le _ _) ?_
    rw[List.length_take];omega
   have hlen1:(stepsF N).length<=1000:=by
    rw[<-w2]
    have:(stepsF N).length<=1+2 * N.length:=steps_len hv.two
    omega
   refine q_append u1 (smallT (by rw[List.length_map];omega)) ?_
   have add:=I13.add (a:=vx) (s:=s) hz hPt u1 u2 u3 hst
   rw[show us.map V.ref++[V.ref vx]=(us++[vx]).map V.ref by simp]
   have nz:sl≠z:=fun q=>nsl (q ▸ mI hz)
   refine⟨_,_,rfl,add,by rw[List.length_set];exact lP,fun t ht=>?_,S13.put u1 nz,by rw[upd_ne nz];exact hsl13⟩
   rw[filter_set hs]
   by_cases q:leadF N s=t
   ·subst q
    rw[List.getElem?_set_self (by omega),if_pos rfl]
   ·rw[List.getElem?_set_ne q,if_neg q,List.append_nil]
    exact hP t ht
 ·rintro _ H13 ⟨x3,P,rfl,I13,lP,hP,S13,hsl13⟩
  have f8:∀b o,H b=some o->b≠x->H7 b=some o:=fun b o e n=>f7 _ _ (s06 _ _ e) n
  refine k H13 ⟨dx,rp,np,ep,es,as,hF ▸ I13.same _ _ x0,⟨rows0.same I13.same,I13.same _ _ rp0⟩,I13.same _ _ np0,la,fun i y l a b=>I13.same _ _ (at0 i y l a b),I13.h,by rw[I13.len,lP],fun t y hy=>?_,fun z ⟨o,ho,hzx⟩=>⟨ne_of_none (s05 _ _ ho) hrp,ne_of_none (f8 _ _ ho hzx) hnp,ne_of_none (old9 _ _ ho hzx) hep,fun q=>ne_of_none (f8 _ _ ho hzx) (fr8 z q) rfl,fun q=>ne_of_none (old _ _ ho hzx) (I13.new.2 z q) rfl⟩⟩ fun b o e n=>I13.same _ _ (old b o e n)
  have ht:t<N.length:=by
   have:=(gI hy)
   have:=I13.len
   omega
  have q:=I13.at_ t y _ hy (hP t ht)
  rw[List.length_map,v2,List.take_length]at q
  exact q
end RD
namespace RD
open PySem PySem.Spec L2
theorem s_dget{σ:St}{H:Hp}{to ti:TE}{Q:VK}(h:to σ H fun x H1=>ti σ H1 fun y H2=>∃a v,x=.ref a/\DGet H2 a y (some v)/\Q v H2):tDGet to ti σ H Q:=h
end RD
namespace RD
open PySem PySem.Spec L2
inductive Fw(N:Nt):Stp->List Stp->Nat->Prop
 | one {s:Stp}:IsStep N s->Fw N s [] (leadF N s)
 | cons {s s':Stp} {r:List Stp} {t:Nat}:IsStep N s->s'.1=(leadF N s:Int)->Fw N s' r t->Fw N s (s'::r) t
theorem Fw.app{N:Nt}{s s':Stp}{r r':List Stp}{t t':Nat}(h:Fw N s r t)(e:s'.1=(t:Int))(h':Fw N s' r' t'):Fw N s (r++s'::r') t':=by
 induction h with
 | one h=>exact .cons h e h'
 | cons h e1 _ ih=>exact .cons h e1 (ih e)
theorem Fw.last{N:Nt}{s:Stp}{r:List Stp}{t:Nat}(h:Fw N s r t):∃q,(s::r)=q++[((s::r).getLast (by simp))]/\leadF N ((s::r).getLast (by simp))=t:=by
 refine⟨(s::r).dropLast,(List.dropLast_concat_getLast _).symm,?_⟩
 induction h with
 | one h=>rfl
 | @cons s s' r t h e1 _ ih=>rw[List.getLast_cons (by simp)];exact ih
end RD
namespace RD
open PySem PySem.Spec L2
theorem IL_app(a b:List Nat):IL (a++b)=IL a++IL b:=by unfold IL;rw[List.map_append]
end RD
namespace RD
open PySem PySem.Spec L2
end RD
namespace RD
open PySem PySem.Spec L2
theorem names3(r n e:Addr)(m:Str)(h:m∉(["rows", "nexts", "entries"]:List Str)):([("rows", .ref r),("nexts", .ref n),("entries", .ref e)]:List (Str×V)).lookup m=none:=by
 rw[List.lookup_eq_none_iff]
 intro p hp
 simp only[List.mem_cons,List.not_mem_nil,or_false]at h hp
 rcases hp with rfl | rfl | rfl
 ·simp;intro z;exact h (.inl z)
 ·simp;intro z;exact h (.inr (.inl z))
 ·simp;intro z;exact h (.inr (.inr z))
end RD
namespace RD
open PySem PySem.Spec L2
def Kys(S:List Nat)(kvs:List (Key×V)):Prop:=kvs.map (·.1)=S.map fun(t:Nat)=>(Sum.inl (t:Int):Key)
section
variable {S:List Nat}{kvs:List (Key×V)}{t i:Nat}{v:V}
theorem Kys.len(h:Kys S kvs):kvs.length=S.length:=by
 have:=congrArg List.length h
 rwa [List.length_map,List.length_map]at this
theorem Kys.ndk(h:Kys S kvs)(nd:S.Nodup):(kvs.map (·.1)).Nodup:=by
 rw[h]
 refine List.Pairwise.map _ (fun a b hab z=>hab ?_) nd
 have:=Sum.inl.inj z
 omega
theorem Kys.at(h:Kys S kvs)(nd:S.Nodup)(hi:S[i]? = some t):∃v,kvs[i]? = some (Sum.inl (t:Int),v)/\valV kvs (Sum.inl (t:Int))=some v:=by
 have e:=congrArg (·[i]?) h
 simp only[List.getElem?_map,hi,Option.map_some]at e
 cases hk:kvs[i]? with
 | none=>rw[hk]at e;cases e
 | some x=>
  rw[hk]at e
  have e:x.1=Sum.inl (t:Int):=Option.some.inj e
  refine⟨x.2,by rw[<-e],?_⟩
  refine valV_mem (h.ndk nd) ?_
  rw[<-e]
  exact mI hk
theorem Kys.in_(h:Kys S kvs)(nd:S.Nodup)(t:Nat):(valV kvs (Sum.inl (t:Int))).isSome=decide (t∈S):=by
 by_cases ht:t∈S
 ·rw[decide_eq_true ht]
  obtain⟨i,hi⟩:=List.mem_iff_getElem?.mp ht
  obtain⟨v,_,q⟩:=h.at nd hi
  rw[q];rfl
 ·rw[decide_eq_false ht]
  cases e:valV kvs (Sum.inl (t:Int))with
  | none=>rfl
  | some v=>
   have:=valV_in e
   rw[h]at this
   obtain⟨u,hu,z⟩:=List.mem_map.mp this
   have:=Sum.inl.inj z
   have:u=t:=by omega
   exact absurd (this ▸ hu) ht
theorem Kys.put(h:Kys S kvs)(nd:S.Nodup)(ht:¬t∈S):putK kvs (Sum.inl (t:Int)) v=kvs++[(Sum.inl (t:Int),v)]:=by
 unfold putK
 rw[valV_any,h.in_ nd,decide_eq_false ht,if_neg (by decide)]
theorem Kys.snoc(h:Kys S kvs):Kys (S++[t]) (kvs++[(Sum.inl (t:Int),v)]):=by
 unfold Kys at h ⊢
 rw[List.map_append,List.map_append,h];rfl
end
theorem nd_snoc{S:List Nat}{t:Nat}(h:S.Nodup)(ht:¬t∈S):(S++[t]).Nodup:=by
 rw[List.nodup_append]
 exact⟨h,by simp,fun x hx y hy=>by rw[List.mem_singleton.mp hy];intro z;exact ht (z ▸ hx)⟩
end RD
namespace RD
open PySem PySem.Spec L2
def ItT(H:Hp)(v:V):Prop:=flatV v=true\/∃p xs,v=.ref p/\(H p=some (.tup xs)\/H p=some (.lst xs))/\xs.all flatV=true
def stepOf(H:Hp)(v:V):Option Stp:=match v with
 | .ref p=>match H p with
  | some (.tup [.int a,.int b])=>some (a,b)
  | _=>none
 | _=>none
def stepB(N:Nt)(s:Stp):Bool:=decide (s=FST)||((decide (0<=s.1)&&decide (s.1<(N.length:Int)))&&(decide (0<=s.2)&&decide (s.2<((N.getD s.1.toNat []).length:Int))))
def itemB(H:Hp)(N:Nt)(v:V):Bool:=match stepOf H v with
 | some s=>stepB N s
 | none=>false
section
variable {H H':Hp}{N:Nt}{v:V}{s:Stp}
theorem ItT.same(h:ItT H v)(s:Same H H'):ItT H' v:=h.imp id fun⟨p,xs,e,q,f⟩=>⟨p,xs,e,q.imp (s _ _) (s _ _),f⟩
theorem stepOf_same(h:ItT H v)(s:Same H H'):stepOf H' v=stepOf H v:=by
 rcases h with h | ⟨p,xs,rfl,q,f⟩
 ·cases v with
  | ref p=>cases h
  | _=>rfl
 ·unfold stepOf
  rcases q with q | q <;> simp only[q,s _ _ q]
theorem itemB_same(h:ItT H v)(s:Same H H'):itemB H' N v=itemB H N v:=by unfold itemB;rw[stepOf_same h s]
theorem stepB_is(h:stepB N s=true):IsStep N s:=by
 unfold stepB at h
 rw[Bool.or_eq_true]at h
 rcases h with h | h
 ·exact .inl (of_decide_eq_true h)
 ·simp only[Bool.and_eq_true,decide_eq_true_eq]at h
  obtain⟨⟨h1,h2⟩,h3,h4⟩:=h
  have hp:s.1.toNat<N.length:=by omega
  have hg:N.getD s.1.toNat []=N[s.1.toNat]:=by simp[List.getD,hp]
  rw[hg]at h4
  have hq:s.2.toNat<(N[s.1.toNat]).length:=by omega
  refine .inr ⟨s.1.toNat,s.2.toNat,N[s.1.toNat],(N[s.1.toNat])[s.2.toNat],Prod.ext ?_ ?_,by simp,by simp⟩
  ·show s.1=((s.1.toNat:Nat):Int);omega
  ·show s.2=((s.2.toNat:Nat):Int);omega
theorem stepOf_at(h:stepOf H v=some s):∃p,v=.ref p/\H p=some (.tup [.int s.1,.int s.2]):=by
 unfold stepOf at h
 split at h
 ·rename_i p
  split at h
  ·rename_i a b e
   cases h
   exact⟨p,rfl,e⟩
  ·cases h
 ·cases h
end
def isInt(v:V):Bool:=match v with
 | .int _=>true
 | _=>false
theorem is_whole_any{K:Fg}{H:Hp}{v:V}{Q:VK}{E:XK}(f:flatV v=true)(k:Q (.bl (isInt v)) H):sp_is_whole K [v] H Q E:=by
 refine⟨rfl,?_⟩
 unfold t_is_whole
 cases v with
 | non=>
  ext
  exists q_isi rfl (by decide) ?_
  exact iteF' rfl k
 | str z=>
  ext
  exists q_isi rfl (by decide) ?_
  exact iteF' rfl k
 | bl b=>
  ext
  exists q_isi rfl (by decide) ?_
  exists iteT' rfl ?_
  exists q_isi rfl (by decide) ?_
  exact k
 | int n=>
  ext
  exists q_isi rfl (by decide) ?_
  exists iteT' rfl ?_
  exists q_isi rfl (by decide) ?_
  exact k
 | byt b=>cases f
 | flt b=>cases f
 | ref a=>cases f
 | ty n=>cases f
theorem lwhole_any{K:Fg}{H:Hp}{v:V}{Q:VK}{E:XK}(f:flatV v=true)(k:Q (.bl (isInt v)) H):sp_whole K [v] H Q E:=by
 refine⟨rfl,?_⟩
 unfold t_whole
 cases v with
 | non=>
  ext
  exists q_isi rfl (by decide) ?_
  exact iteF' rfl k
 | str z=>
  ext
  exists q_isi rfl (by decide) ?_
  exact iteF' rfl k
 | bl b=>
  ext
  exists q_isi rfl (by decide) ?_
  exists iteT' rfl ?_
  exists q_isi rfl (by decide) ?_
  exact k
 | int n=>
  ext
  exists q_isi rfl (by decide) ?_
  exists iteT' rfl ?_
  exists q_isi rfl (by decide) ?_
  exact k
 | byt b=>cases f
 | flt b=>cases f
 | ref a=>cases f
 | ty n=>cases f
theorem is_below_any{K:Fg}{H:Hp}{n m:Int}{Q:VK}{E:XK}(k:Q (.bl (decide (0<=n)&&decide (n<m))) H):sp_is_below K [.int n,.int m] H Q E:=by
 refine⟨rfl,?_⟩
 unfold t_is_below
 ext
 exists is_whole_any rfl ?_
 exists iteT' rfl ?_
 by_cases h:0<=n
 ·rw[decide_eq_true h]at k
  exists iteT' (decide_eq_true h) ?_
  exact k
 ·rw[decide_eq_false h]at k
  exact iteF' (decide_eq_false h) k
theorem isi_tup{H:Hp}{v:V}{Q:VK}(h:ItT H v)(k:∀b:Bool,(b=true->∃p xs,v=.ref p/\H p=some (.tup xs)/\xs.all flatV=true)->(b=false->stepOf H v=none)->Q (.bl b) H):qIsi [v,.ty "tuple"] H Q:=by
 rcases h with h | ⟨p,xs,rfl,q,f⟩
 ·cases v with
  | non=>exact q_isi rfl (by decide) (k false (fun z=>by cases z) fun _=>rfl)
  | bl b=>exact q_isi rfl (by decide) (k false (fun z=>by cases z) fun _=>rfl)
  | int b=>exact q_isi rfl (by decide) (k false (fun z=>by cases z) fun _=>rfl)
  | str b=>exact q_isi rfl (by decide) (k false (fun z=>by cases z) fun _=>rfl)
  | _=>cases h
 ·rcases q with q | q
  ·exact q_isi (s := "tuple") (by simp only[tyName,q]) (by decide) (k true (fun _=>⟨p,xs,rfl,q,f⟩) fun z=>by cases z)
  ·exact q_isi (s := "list") (by simp only[tyName,q]) (by decide) (k false (fun z=>by cases z) fun _=>by unfold stepOf;simp only[q])
theorem pis_any{K:Fg}{c:Cn}{H:Hp}{x:Addr}{v:V}{N:Nt}{Q:VK}{E:XK}(ck:CnOk K c)(hp:PlanX c H x N)(it:ItT H v)(k:Q (.bl (itemB H N v)) H):sp_is_step K c [.ref x,v] H Q E:=by
 obtain⟨dx,fs,n,hx,hf,hn⟩:=hp
 obtain⟨as,hna,las,hat⟩:=id hn.ex
 refine⟨rfl,?_⟩
 unfold t_is_step
 have no:stepOf H v=none->Q (.bl false) H:=fun e=>by
  have:itemB H N v=false:=by unfold itemB;rw[e]
  rw[this]at k
  exact k
 nofun
 exists isi_tup it fun b b1 b2=>?_
 cases b with
 | false=>
  refine iteT' rfl ?_
  exists iteT' rfl ?_
  exact no (b2 rfl)
 | true=>
  obtain⟨p,xs,rfl,st,f⟩:=b1 rfl
  exists iteF' rfl ?_
  exists q_lenT st ?_
  match xs,st,f with
  | [],st,f=>
   exists iteT' (by simp) ?_
   exact no (by unfold stepOf;simp only[st])
  | [_],st,f=>
   exists iteT' (by simp) ?_
   refine no ?_
   unfold stepOf
   simp only[st]
  | _::_::_::r,st,f=>
   refine iteT' (by
    rw[List.length_cons,List.length_cons,List.length_cons,dec_i]
    rw[decide_eq_false (by omega)];rfl) ?_
   ext
   refine no ?_
   unfold stepOf
   simp only[st]
  | [u,w],st,f=>
   exists iteF' (by simp) ?_
   rw[List.all_cons,List.all_cons,Bool.and_eq_true,Bool.and_eq_true]at f
   nofun
   exists q_ixT st (atI0 _ _) ?_
   exists is_whole_any f.1 ?_
   cases hu:isInt u with
   | false=>
    refine iteT' rfl ?_
    exists iteT' rfl ?_
    refine no ?_
    unfold stepOf
    simp only[st]
    cases u with
    | int a=>cases hu
    | _=>rfl
   | true=>
   exists iteF' rfl ?_
   exists q_ixT st (atI1 _ _ _) ?_
   exists is_whole_any f.2.1 ?_
   cases hw:isInt w with
   | false=>
    exists iteT' rfl ?_
    refine no ?_
    unfold stepOf
    simp only[st]
    cases u with
    | int a=>
     cases w with
     | int b=>cases hw
     | _=>rfl
    | _=>rfl
   | true=>
   refine iteF' rfl ?_
   obtain⟨a,rfl⟩:∃a,u=.int a:=by cases u with
    | int a=>exact⟨a,rfl⟩
    | _=>cases hu
   obtain⟨b,rfl⟩:∃b,w=.int b:=by cases w with
    | int a=>exact⟨a,rfl⟩
    | _=>cases hw
   have eS:stepOf H (.ref p)=some (a,b):=by unfold stepOf;simp only[st]
   have eI:itemB H N (.ref p)=stepB N (a,b):=by unfold itemB;rw[eS]
   rw[eI]at k
   ext
   nofun
   refine⟨_,_,_,_,rfl,rfl,SqT.of st,ck.t_FIRST_STEP H,rfl,rfl,?_⟩
   rw[eq2]
   ext
   by_cases hF:(a,b)=FST
   ·exists iteT' (decide_eq_true hF) ?_
    have:stepB N (a,b)=true:=by unfold stepB;rw[decide_eq_true hF];rfl
    rw[this]at k
    exact k
   ·exists iteF' (decide_eq_false hF) ?_
    exists q_ixT st (atI0 _ _) ?_
    specialize s_fld ?_
    exists ⟨x,_,dx,fs,_,rfl,hx,ck.cls_Plan,ck.na_Plan_nexts,hf,?_⟩
    refine q_lenL hna ?_
    rw[List.length_map,las]
    ext
    exists is_below_any ?_
    have eB:stepB N (a,b)=((decide (0<=a)&&decide (a<(N.length:Int)))&&(decide (0<=b)&&decide (b<((N.getD a.toNat []).length:Int)))):=by
     unfold stepB
     rw[decide_eq_false hF];rfl
    cases hab:(decide (0<=a)&&decide (a<(N.length:Int)))with
    | false=>
     rw[eB,hab]at k
     exact iteF' rfl k
    | true=>
     rw[eB,hab,Bool.true_and]at k
     refine iteT' rfl ?_
     simp only[Bool.and_eq_true,decide_eq_true_eq]at hab
     have ha:a.toNat<N.length:=by omega
     have hl:=at_len ha
     rw[show N.getD a.toNat []=N[a.toNat] by simp[List.getD,ha]]at k
     obtain⟨us,y,f1,f2,f3,f4⟩:=hn.at hl
     rw[show((a.toNat:Nat):Int)=a by omega]at f2
     ext
     exists q_ixT st (atI1 _ _ _) ?_
     specialize s_fld ?_
     exists ⟨x,_,dx,fs,_,rfl,hx,ck.cls_Plan,ck.na_Plan_nexts,hf,?_⟩
     exists q_ixT st (atI0 _ _) ?_
     exists q_ixL f1 f2 ?_
     refine q_lenL f3 ?_
     rw[IL_len]
     ext
     exact is_below_any k
theorem lstep_any{K:Fg}{H:Hp}{na:Addr}{v:V}{N:Nt}{Q:VK}{E:XK}(hn:NetAt H na N)(it:ItT H v)(k1:∀s H',stepOf H v=some s->stepB N s=true->Same H H'->Q (.int ((leadF N s:Nat):Int)) H')(k2:∀H',itemB H N v=false->Same H H'->Q .non H'):sp_step K [.ref na,v] H Q E:=by
 obtain⟨as,hna,las,hat⟩:=id hn.ex
 refine⟨rfl,?_⟩
 unfold t_step
 have no:stepOf H v=none->Q .non H:=fun e=>k2 H (by unfold itemB;rw[e]) (Same.refl _)
 nofun
 exists isi_tup it fun b b1 b2=>?_
 cases b with
 | false=>
  refine iteT' rfl ?_
  exists iteT' rfl ?_
  exact no (b2 rfl)
 | true=>
  obtain⟨p,xs,rfl,st,f⟩:=b1 rfl
  exists iteF' rfl ?_
  exists q_lenT st ?_
  match xs,st,f with
  | [],st,f=>
   refine iteT' (by simp) ?_
   exists iteT' rfl ?_
   exact no (by unfold stepOf;simp only[st])
  | [_],st,f=>
   refine iteT' (by simp) ?_
   exists iteT' rfl ?_
   refine no ?_
   unfold stepOf
   simp only[st]
  | _::_::_::r,st,f=>
   refine iteT' (by
    rw[List.length_cons,List.length_cons,List.length_cons,dec_i]
    rw[decide_eq_false (by omega)];rfl) ?_
   exists iteT' rfl ?_
   refine no ?_
   unfold stepOf
   simp only[st]
  | [u,w],st,f=>
   exists iteF' (by simp) ?_
   rw[List.all_cons,List.all_cons,Bool.and_eq_true,Bool.and_eq_true]at f
   exists q_ixT st (atI0 _ _) ?_
   exists lwhole_any f.1 ?_
   cases hu:isInt u with
   | false=>
    refine iteT' rfl ?_
    exists iteT' rfl ?_
    refine no ?_
    unfold stepOf
    simp only[st]
    cases u with
    | int a=>cases hu
    | _=>rfl
   | true=>
   exists iteF' rfl ?_
   exists q_ixT st (atI1 _ _ _) ?_
   exists lwhole_any f.2.1 ?_
   cases hw:isInt w with
   | false=>
    exists iteT' rfl ?_
    refine no ?_
    unfold stepOf
    simp only[st]
    cases u with
    | int a=>
     cases w with
     | int b=>cases hw
     | _=>rfl
    | _=>rfl
   | true=>
   refine iteF' rfl ?_
   obtain⟨a,rfl⟩:∃a,u=.int a:=by cases u with
    | int a=>exact⟨a,rfl⟩
    | _=>cases hu
   obtain⟨b,rfl⟩:∃b,w=.int b:=by cases w with
    | int a=>exact⟨a,rfl⟩
    | _=>cases hw
   have eS:stepOf H (.ref p)=some (a,b):=by unfold stepOf;simp only[st]
   have eI:itemB H N (.ref p)=stepB N (a,b):=by unfold itemB;rw[eS]
   rw[eI]at k2
   ext
   nofun
   refine new_i (by simp) fun z H1 hz e1 s1=>?_
   refine⟨_,eqO_tup (s1 _ _ st) e1 rfl rfl,?_⟩
   rw[eq2]
   ext
   have st1:=s1 _ _ st
   by_cases hF:(a,b)=FST
   ·exists iteT' (decide_eq_true hF) ?_
    have:=k1 (a,b) H1 eS (by unfold stepB;rw[decide_eq_true hF];rfl) s1
    rw[show leadF N (a,b)=0 by unfold leadF;rw[if_pos hF]]at this
    exact this
   ·exists iteF' (decide_eq_false hF) ?_
    have eB:stepB N (a,b)=((decide (0<=a)&&decide (a<(N.length:Int)))&&(decide (0<=b)&&decide (b<((N.getD a.toNat []).length:Int)))):=by
     unfold stepB
     rw[decide_eq_false hF];rfl
    rw[eB]at k2
    nofun
    exists q_ixT st1 (atI0 _ _) ?_
    by_cases h1:0<=a
    rotate_left
    ·rw[decide_eq_false h1]at k2
     refine iteF' (decide_eq_false h1) ?_
     refine⟨false,rfl,?_⟩
     refine iteF' rfl ?_
     exists iteF' rfl ?_
     exact k2 H1 rfl s1
    exists iteT' (decide_eq_true h1) ?_
    refine q_lenL (s1 _ _ hna) ?_
    rw[List.length_map,las]
    ext
    by_cases h2:a<(N.length:Int)
    rotate_left
    ·rw[decide_eq_true h1,decide_eq_false h2]at k2
     refine iteF' (decide_eq_false h2) ?_
     exists iteF' rfl ?_
     exact k2 H1 rfl s1
    exists iteT' (decide_eq_true h2) ?_
    exists q_ixT st1 (atI1 _ _ _) ?_
    by_cases h3:0<=b
    rotate_left
    ·rw[decide_eq_true h1,decide_eq_true h2,decide_eq_false h3]at k2
     refine iteF' (decide_eq_false h3) ?_
     refine⟨false,rfl,?_⟩
     exists iteF' rfl ?_
     exact k2 H1 rfl s1
    refine iteT' (decide_eq_true h3) ?_
    have ha:a.toNat<N.length:=by omega
    have hl:=at_len ha
    have hg:N.getD a.toNat []=N[a.toNat]:=by simp[List.getD,ha]
    obtain⟨us,y,f1,f2,f3,f4⟩:=(hn.same s1).at hl
    rw[show((a.toNat:Nat):Int)=a by omega]at f2
    ext
    exists q_ixT st1 (atI0 _ _) ?_
    exists q_ixL f1 f2 ?_
    refine q_lenL f3 ?_
    rw[IL_len]
    ext
    by_cases h4:b<((N[a.toNat]).length:Int)
    rotate_left
    ·rw[hg,decide_eq_true h1,decide_eq_true h2,decide_eq_true h3,decide_eq_false h4]at k2
     exists iteF' (decide_eq_false h4) ?_
     exact k2 H1 rfl s1
    exists iteT' (decide_eq_true h4) ?_
    exists q_ixT st1 (atI0 _ _) ?_
    exists q_ixL f1 f2 ?_
    exists q_ixT st1 (atI1 _ _ _) ?_
    have hb:b.toNat<(N[a.toNat]).length:=by omega
    have hbe:(N[a.toNat])[b.toNat]? = some (N[a.toNat])[b.toNat]:=by simp
    have ix:=IL_at hbe
    rw[show((b.toNat:Nat):Int)=b by omega]at ix
    refine q_ixL f3 ix ?_
    have:=k1 (a,b) H1 eS (by rw[eB,hg,decide_eq_true h1,decide_eq_true h2,decide_eq_true h3,decide_eq_true h4];rfl) s1
    have le:leadF N (a,b)=(N[a.toNat])[b.toNat]:=by
     unfold leadF
     rw[if_neg hF]
     show(N.getD a.toNat []).getD b.toNat 0=_
     rw[hg]
     simp[List.getD,hb]
    rw[le]at this
    exact this
end RD
namespace RD
open PySem PySem.Spec L2
structure GoodS(H:Hp)(N:Nt)(vs:List V)(S:List Stp):Prop where
 len:S.length=vs.length
 at_:∀(i:Nat) v s,vs[i]? = some v->S[i]? = some s->stepOf H v=some s/\stepB N s=true
 lk:∀(i:Nat) a b,S[i]? = some a->S[i+1]? = some b->b.1=(leadF N a:Int)
def WayB(H:Hp)(N:Nt)(vs:List V):Prop:=vs≠[]/\∃S,GoodS H N vs S
section
variable {H H':Hp}{N:Nt}{vs:List V}{S:List Stp}
theorem GoodS.same(g:GoodS H N vs S)(it:∀v∈vs,ItT H v)(s:Same H H'):GoodS H' N vs S:=⟨g.len,fun i v t e1 e2=>by rw[stepOf_same (it v (mI e1)) s];exact g.at_ i v t e1 e2,g.lk⟩
theorem steps_ex(h:∀v∈vs,itemB H N v=true):∃S:List Stp,S.length=vs.length/\∀(i:Nat) v s,vs[i]? = some v->S[i]? = some s->stepOf H v=some s/\stepB N s=true:=by
 induction vs with
 | nil=>exact⟨[],rfl,fun i v s e=>by simp at e⟩
 | cons v vs ih=>
  obtain⟨S,l,a⟩:=ih fun u hu=>h u (List.mem_cons_of_mem _ hu)
  have hv:=h v (List.mem_cons_self ..)
  unfold itemB at hv
  cases e:stepOf H v with
  | none=>rw[e]at hv;cases hv
  | some s=>
   rw[e]at hv
   refine⟨s::S,by simp[l],fun i u t f1 f2=>?_⟩
   cases i with
   | zero=>cases f1;cases f2;exact⟨e,hv⟩
   | succ i=>exact a i u t f1 f2
theorem GoodS.item(g:GoodS H N vs S){v:V}(hv:v∈vs):itemB H N v=true:=by
 obtain⟨i,hi⟩:=List.mem_iff_getElem?.mp hv
 obtain⟨s,hs⟩:∃s,S[i]? = some s:=⟨_,List.getElem?_eq_getElem (by rw[g.len];exact(gI hi))⟩
 obtain⟨e1,e2⟩:=g.at_ i v s hi hs
 unfold itemB
 rw[e1];exact e2
end
theorem lplaces_any{K:Fg}{H:Hp}{na w:Addr}{vs:List V}{N:Nt}{Q:VK}{E:XK}(hn:NetAt H na N)(hw:H w=some (.lst vs))(it:∀v∈vs,ItT H v)(lv:vs.length<=1000)
  (k1:∀D S H',H D=none->vs≠[]->GoodS H N vs S->H' D=some (.lst (IL (S.map (leadF N))))->Same H H'->Q (.ref D) H') (k2:∀H',¬WayB H N vs->Same H H'->Q .non H'):sp_places K [.ref na,.ref w] H Q E:=by
 refine⟨rfl,?_⟩
 unfold t_places
 nofun
 exists q_isi (s := "list") (by simp only[tyName,hw]) (by decide) ?_
 exists iteF' (by decide) ?_
 refine new_i (by simp) fun z H1 hz e1 s1=>?_
 exists ⟨w,z,vs,rfl,rfl,s1 _ _ hw,e1,?_⟩
 by_cases h0:vs.length=0
 ·exists iteT' (decide_eq_true h0) ?_
  exact k2 H1 (fun z=>z.1 (List.length_eq_zero_iff.mp h0)) s1
 refine iteF' (decide_eq_false h0) ?_
 have hne:vs≠[]:=fun z=>h0 (by rw[z];rfl)
 ext
 nofun
 exists new_i (by simp) fun D H2 hD e2 s2=>?_
 have s02:=s1.trans s2
 with_reducible refine s_seq ?_
 specialize s_for (s_ilst ?_)
 refine⟨w,rfl,⟨_,SqL.of (s02 _ _ hw)⟩,for_list (xs:=vs) (fun i σ H3=>∃y3 y4 S,σ=[some (.ref na),some (.ref w),some (.ref D),y3,y4]/\(S:List Stp).length=i/\(∀(j:Nat) v s,vs[j]? = some v->S[j]? = some s->stepOf H v=some s/\stepB N s=true)/\(∀(j:Nat) a b,S[j]? = some a->S[j+1]? = some b->b.1=(leadF N a:Int))/\H3 D=some (.lst (IL (S.map (leadF N))))/\Same H H3) ⟨_,_,[],rfl,rfl,by simp,by simp,e2,s02⟩ ?_ ?_ ?_⟩
 ·rintro i σ H3 _ ⟨_,_,_,_,_,_,_,_,s3⟩
  exact SqL.of (s3 _ _ hw)
 ·rintro i v _ H3 hv ⟨y3,y4,S,rfl,lS,at3,lk3,hD3,s3⟩
  have iv:=it v (mI hv)
  have hi:=(gI hv)
  have uniq:∀S',GoodS H N vs S'->∀(j:Nat) s,S[j]? = some s->S'[j]? = some s:=fun S' g j s hs=>by
   have hj:=(gI hs)
   obtain⟨u,hu⟩:∃u,vs[j]? = some u:=⟨_,List.getElem?_eq_getElem (by omega)⟩
   obtain⟨s',hs'⟩:∃s',S'[j]? = some s':=⟨_,List.getElem?_eq_getElem (by rw[g.len];omega)⟩
   have a1:=(at3 j u s hu hs).1
   have a2:=(g.at_ j u s' hu hs').1
   rw[a1]at a2
   cases a2
   exact hs'
  ext
  nofun
  refine lstep_any (hn.same s3) (iv.same s3) (fun s H4 e4 sB s4=>?_) fun H4 e4 s4=>?_
  rotate_left
  ·ext
   nofun
   exists ⟨rfl,?_⟩
   refine iteT' rfl ?_
   exists iteT' rfl ?_
   refine k2 H4 (fun⟨_,S',g⟩=>?_) (s3.trans s4)
   rw[itemB_same iv s3,g.item (mI hv)]at e4
   cases e4
  rw[stepOf_same iv s3]at e4
  obtain⟨p,rfl,st⟩:=stepOf_at e4
  have s04:=s3.trans s4
  have st4:=s04 _ _ st
  have hD4:=s4 _ _ hD3
  ext
  nofun
  exists ⟨rfl,?_⟩
  exists iteF' (decide_eq_false (by intro z;cases z)) ?_
  refine new_i (by simp) fun z5 H5 hz5 e5 s5=>?_
  refine⟨_,eqO_lst (s5 _ _ hD4) e5 (IL_flat _) rfl,?_⟩
  rw[flatEq_nil,IL_len,List.length_map,lS]
  ext
  have st5:=s5 _ _ st4
  have s05:=s04.trans s5
  have app:(∀a,S[i - 1]? = some a->0<i->s.1=(leadF N a:Int))->∀ {R:VK},(∀u H',(∃y3 y4 S,[some (V.ref na),some (.ref w),some (.ref D),some (.ref p),some (.int ((leadF N s:Nat):Int))]=[some (V.ref na),some (.ref w),some (.ref D),y3,y4]/\(S:List Stp).length=i+1/\(∀(j:Nat) v s,vs[j]? = some v->S[j]? = some s->stepOf H v=some s/\stepB N s=true)/\(∀(j:Nat) a b,S[j]? = some a->S[j+1]? = some b->b.1=(leadF N a:Int))/\H' D=some (.lst (IL (S.map (leadF N))))/\Same H H')->R u H')->tBM K "list" qAppend (tVar 2) (tCons (tVar 4) (tNil)) [some (V.ref na),some (.ref w),some (.ref D),some (.ref p),some (.int ((leadF N s:Nat):Int))] H5 R:=by
   intro hh R hnx
   have hD5:=s5 _ _ hD4
   ext
   specialize s_bm ?_
   exists ⟨ty_list hD5,?_⟩
   refine q_append hD5 (smallT (by rw[IL_len,List.length_map];omega)) ?_
   refine hnx _ _ ⟨_,_,S++[s],rfl,by simp[lS],fun j v' s' f1 f2=>?_,fun j a b f1 f2=>?_,?_,fun b o e=>?_⟩
   ·rcases snocAt f2 with ⟨_,g⟩ | ⟨hj,g⟩
    ·exact at3 j v' s' f1 g
    ·subst g
     rw[hj,lS,hv]at f1
     cases f1
     exact⟨e4,sB⟩
   ·rcases snocAt f2 with ⟨hj,g⟩ | ⟨hj,g⟩
    ·rw[List.getElem?_append_left (by omega)]at f1
     exact lk3 j a b f1 g
    ·subst g
     rw[List.getElem?_append_left (by omega)]at f1
     exact hh a (by rw[show i - 1=j by omega];exact f1) (by omega)
   ·rw[upd_same,List.map_append,IL_app];rfl
   ·rw[upd_ne (ne_of_none e (s1.free hD))];exact s05 _ _ e
  by_cases hi0:i=0
  ·refine iteF' (by rw[decide_eq_true hi0];rfl) ?_
   exists iteF' rfl ?_
   refine app (fun a _ h=>by omega) ?_
   exact fun _ H' h=>h
  ·refine iteT' (by rw[decide_eq_false hi0];rfl) ?_
   obtain⟨sl,hsl⟩:∃sl,S[i - 1]? = some sl:=⟨_,List.getElem?_eq_getElem (by omega)⟩
   obtain⟨S0,rfl⟩:∃S0,S=S0++[sl]:=by
    rcases snoc_cases S with z | ⟨S0,b,z⟩
    ·rw[z]at lS;simp at lS;omega
    ·refine⟨S0,?_⟩
     rw[z]at lS hsl
     rw[List.length_append,List.length_singleton]at lS
     rw[List.getElem?_append_right (by omega),show i - 1 - S0.length=0 by omega]at hsl
     cases hsl
     exact z
   have hD5:=s5 _ _ hD4
   have hD5':=hD5
   rw[List.map_append,IL_app]at hD5'
   ext
   exists q_ixT st5 (atI0 _ _) ?_
   exists q_ixL hD5' atI_last ?_
   by_cases hlk:s.1=((leadF N sl:Nat):Int)
   ·exists iteF' (by rw[dec_i,decide_eq_true hlk];rfl) ?_
    refine app (fun a ha _=>?_) ?_
    rotate_left
    ·exact fun _ H' h=>h
    rw[hsl]at ha
    cases ha
    exact hlk
   ·exists iteT' (by rw[dec_i,decide_eq_false hlk];rfl) ?_
    refine k2 H5 (fun⟨_,S',g⟩=>?_) s05
    have h1:=uniq S' g (i - 1) sl hsl
    obtain⟨s',hs'⟩:∃s',S'[i]? = some s':=⟨_,List.getElem?_eq_getElem (by rw[g.len];omega)⟩
    have h2:=(g.at_ i _ s' hv hs').1
    rw[e4]at h2
    cases h2
    exact hlk (g.lk (i - 1) sl s h1 (by rw[show i - 1+1=i by omega];exact hs'))
 ·rintro _ H3 ⟨y3,y4,S,rfl,lS,at3,lk3,hD3,s3⟩
  ext
  exact k1 D S H3 (s1.free hD) hne ⟨lS,at3,lk3⟩ hD3 s3
theorem s_rng2{σ:St}{H1:Hp}{ta:TA}{R:It->Hp->Prop}(h:ta σ H1 fun vs H2=>∃i j:Int,vs=[.int i,.int j]/\(-(2 ^ 62)<=i/\i<2 ^ 62 /\ -(2 ^ 62)<=j/\j<2 ^ 62)/\R (Itr i (j - i).toNat) H2):iRng2 ta σ H1 R:=h
theorem all_map{vs:List V}{f:V->Bool}:(vs.map f).all id=vs.all f:=by rw[List.all_map];rfl
theorem is_way_any{K:Fg}{c:Cn}{H:Hp}{x w:Addr}{vs:List V}{N:Nt}{Q:VK}{E:XK}(ck:CnOk K c)(hz:PlanAt K c H x N)(hw:H w=some (.lst vs))(it:∀v∈vs,ItT H v)(lv:vs.length<=1000)
  (k:∀(b:Bool) H',(b=true↔WayB H N vs)->Same H H'->Q (.bl b) H'):sp_is_way K c [.ref x,.ref w] H Q E:=by
 obtain⟨dx2,r2,n2,e2',es,p1,_⟩:=id hz.ex
 refine⟨rfl,?_⟩
 unfold t_is_way
 nofun
 exists q_isi (s := "list") (by simp only[tyName,hw]) (by decide) ?_
 exists iteF' (by decide) ?_
 exists q_lenL hw ?_
 by_cases h0:vs.length=0
 ·exists iteT' (by rw[h0];rfl) ?_
  exact k false H ⟨fun z=>(by cases z),fun z=>absurd (List.length_eq_zero_iff.mp h0) z.1⟩ (Same.refl _)
 have hne:vs≠[]:=fun z=>h0 (by rw[z];rfl)
 exists iteF' (by rw[dec_i,decide_eq_false (by omega)]) ?_
 nofun
 specialize s_comp (s_ilst ?_)
 refine⟨w,rfl,⟨_,SqL.of hw⟩,fun T hT=>?_⟩
 refine comp_lst (xs:=vs) (fun i ys H2=>ys=((vs.take i).map (itemB H N)).map V.bl/\H2 T=some (.lst ys)/\Same H H2) ⟨rfl,upd_same,same_new hT⟩ ?_ ?_ ?_ ?_
 ·rintro i ys H2 ⟨_,h,_⟩
  exact h
 ·rintro i ys H2 _ ⟨_,_,s2⟩
  exact SqL.of (s2 _ _ hw)
 ·rintro i v ys H2 hv ⟨rfl,hT2,s2⟩ R hR
  have iv:=it v (mI hv)
  have hi:=(gI hv)
  ext
  refine pis_any ck (hz.same s2).x (iv.same s2) ?_
  rw[itemB_same iv s2]
  refine hR _ _ hT2 (smallT (by rw[List.length_map,List.length_map,List.length_take];omega)) ⟨?_,upd_same,fun b o e=>by rw[upd_ne (ne_of_none e hT)];exact s2 _ _ e⟩
  rw[List.take_add_one,hv,List.map_append,List.map_append];rfl
 rintro ys H2 ⟨rfl,hT2,s2⟩
 rw[List.take_length]at hT2
 ext
 refine q_all hT2 ?_
 rw[all_map]
 ext
 cases hall:vs.all (itemB H N)with
 | false=>
  exists iteT' rfl ?_
  refine k false H2 ⟨fun z=>(by cases z),fun⟨_,S,g⟩=>?_⟩ s2
  have:vs.all (itemB H N)=true:=List.all_eq_true.mpr fun v hv=>g.item hv
  rw[hall]at this
  cases this
 | true=>
 refine iteF' rfl ?_
 obtain⟨S,lS,atS⟩:=steps_ex (H:=H) (N:=N) (vs:=vs) fun v hv=>List.all_eq_true.mp hall v hv
 have gd:WayB H N vs↔∀(i:Nat) a b,S[i]? = some a->S[i+1]? = some b->b.1=(leadF N a:Int):=by
  refine⟨fun⟨_,S',g⟩=>?_,fun h=>⟨hne,S,lS,atS,h⟩⟩
  have e:S'=S:=by
   apply List.ext_getElem?
   intro i
   by_cases hi:i<vs.length
   ·obtain⟨s',hs'⟩:∃s',S'[i]? = some s':=⟨_,List.getElem?_eq_getElem (by rw[g.len];exact hi)⟩
    obtain⟨s,hs⟩:∃s,S[i]? = some s:=⟨_,List.getElem?_eq_getElem (by rw[lS];exact hi)⟩
    obtain⟨v,hv⟩:∃v,vs[i]? = some v:=⟨_,List.getElem?_eq_getElem hi⟩
    have a1:=(g.at_ i v s' hv hs').1
    rw[(atS i v s hv hs).1]at a1
    cases a1
    rw[hs,hs']
   ·rw[List.getElem?_eq_none_iff.mpr (by rw[g.len];omega),List.getElem?_eq_none_iff.mpr (by omega)]
  rw[<-e]
  exact g.lk
 obtain⟨lkB,hlkB⟩:∃lkB:Nat->Bool,∀(i:Nat) a b,S[i]? = some a->S[i+1]? = some b->lkB i=decide (((leadF N a:Nat):Int)=b.1):=⟨fun i=>match S[i]?,S[i+1]? with
  | some a,some b=>decide (((leadF N a:Nat):Int)=b.1)
  | _,_=>false,fun i a b f1 f2=>by simp only[f1,f2]⟩
 have stp:∀(i:Nat) v s H1,Same H H1->vs[i]? = some v->S[i]? = some s->∃p,v=.ref p/\H1 p=some (.tup [.int s.1,.int s.2])/\IsStep N s:=fun i v s H1 s1 f1 f2=>by
  obtain⟨e1,e2⟩:=atS i v s f1 f2
  obtain⟨p,q1,q2⟩:=stepOf_at e1
  exact⟨p,q1,s1 _ _ q2,stepB_is e2⟩
 ext
 specialize s_comp (s_rng2 ?_)
 exists q_lenL (s2 _ _ hw) ?_
 refine⟨1,(vs.length:Int),rfl,⟨by omega,by omega,by omega,by omega⟩,fun T2 hT2'=>?_⟩
 rw[show((vs.length:Int) - 1).toNat=vs.length - 1 by omega]
 refine comp_rng (fun i ys H3=>ys=((List.range i).map lkB).map V.bl/\H3 T2=some (.lst ys)/\Same H2 H3) ⟨rfl,upd_same,same_new hT2'⟩ ?_ ?_ ?_
 ·rintro i ys H3 ⟨_,h,_⟩
  exact h
 ·rintro i ys H3 hi ⟨rfl,hT3,s3⟩ R hR
  have s03:=s2.trans s3
  obtain⟨v,hv⟩:∃v,vs[i]? = some v:=⟨_,List.getElem?_eq_getElem (by omega)⟩
  obtain⟨v',hv'⟩:∃v',vs[i+1]? = some v':=⟨_,List.getElem?_eq_getElem (by omega)⟩
  obtain⟨s,hs⟩:∃s,S[i]? = some s:=⟨_,List.getElem?_eq_getElem (by omega)⟩
  obtain⟨s',hs'⟩:∃s',S[i+1]? = some s':=⟨_,List.getElem?_eq_getElem (by omega)⟩
  obtain⟨p,rfl,st,is⟩:=stp i v s H3 s03 hv hs
  obtain⟨p',rfl,st',_⟩:=stp (i+1) v' s' H3 s03 hv' hs'
  have e1:(1:Int)+(i:Int) - 1=(i:Int):=by omega
  have e2:(1:Int)+(i:Int)=((i+1:Nat):Int):=by omega
  ext
  specialize s_meth ?_
  exists ⟨x,dx2,_,rfl,s03 _ _ p1,names3 r2 n2 e2' _ (by decide),?_⟩
  rw[e1]
  exists q_ixL (s03 _ _ hw) (atI_nat hv) ?_
  exists leads_to_ok ck (hz.same s03).x (.inl st) is ?_
  rw[e2]
  exists q_ixL (s03 _ _ hw) (atI_nat hv') ?_
  exists q_ixT st' (atI0 _ _) ?_
  rw[dec_i,<-hlkB i s s' hs hs']
  refine hR _ _ hT3 (smallT (by rw[List.length_map,List.length_map,List.length_range];omega)) ⟨?_,upd_same,fun b o e=>by rw[upd_ne (ne_of_none e hT2')];exact s3 _ _ e⟩
  rw[List.range_succ,List.map_append,List.map_append];rfl
 rintro ys H3 ⟨rfl,hT3,s3⟩
 ext
 refine q_all hT3 ?_
 refine k _ H3 ?_ (s2.trans s3)
 rw[gd,List.all_map,List.all_eq_true]
 refine⟨fun h i a b f1 f2=>?_,fun h i hi=>?_⟩
 ·have hi:=(gI f2)
  have:=h i (List.mem_range.mpr (by omega))
  have this:lkB i=true:=this
  rw[hlkB i a b f1 f2]at this
  exact(of_decide_eq_true this).symm
 ·have hi:=List.mem_range.mp hi
  obtain⟨s,hs⟩:∃s,S[i]? = some s:=⟨_,List.getElem?_eq_getElem (by omega)⟩
  obtain⟨s',hs'⟩:∃s',S[i+1]? = some s':=⟨_,List.getElem?_eq_getElem (by omega)⟩
  show lkB i=true
  rw[hlkB i s s' hs hs']
  exact decide_eq_true (h i s s' hs hs').symm
end RD
namespace RD
open PySem PySem.Spec L2
def wholeB(N:Nt)(s0 sl:Stp):Bool:=decide (s0=FST)&&decide ((N.getD (leadF N sl) []).length=0)
def NoL(H:Hp)(v:V):Prop:=∃s,tyName v H=some s/\isKind s "list" = false
theorem NoL.same{H H':Hp}{v:V}(h:NoL H v)(s:Same H H'):NoL H' v:=by
 obtain⟨t,e,f⟩:=h
 refine⟨t,?_,f⟩
 unfold tyName at e ⊢
 cases v with
 | ref a=>
  simp only at e ⊢
  cases q:H a with
  | none=>rw[q]at e;cases e
  | some o=>
   rw[q]at e
   rw[s _ _ q]
   exact e
 | _=>exact e
section
variable {K:Fg}{c:Cn}{H:Hp}{x na w:Addr}{v:V}{vs:List V}{N:Nt}{Q:VK}{E:XK}
theorem lplaces_no(h:NoL H v)(k:Q .non H):sp_places K [.ref na,v] H Q E:=by
 obtain⟨t,e,f⟩:=h
 refine⟨rfl,?_⟩
 unfold t_places
 nofun
 exists q_isi e (by decide) ?_
 exists iteT' (by rw[f];rfl) ?_
 exact k
theorem is_way_no(h:NoL H v)(k:Q (.bl false) H):sp_is_way K c [.ref x,v] H Q E:=by
 obtain⟨t,e,f⟩:=h
 refine⟨rfl,?_⟩
 unfold t_is_way
 nofun
 exists q_isi e (by decide) ?_
 exists iteT' (by rw[f];rfl) ?_
 exact k
theorem is_whole_way_no(h:NoL H v)(k:Q (.bl false) H):sp_is_whole_way K c [.ref x,v] H Q E:=by
 refine⟨rfl,?_⟩
 unfold t_is_whole_way
 nofun
 exists is_way_no h ?_
 exists iteT' rfl ?_
 exact k
theorem GoodS.ends{S:List Stp}(g:GoodS H N vs S)(hne:vs≠[]):∃v0 vs' vi vl s0 S0 sl p0 pl,vs=v0::vs'/\vs=vi++[vl]/\S[0]? = some s0/\S=S0++[sl]/\v0=.ref p0/\vl=.ref pl/\H p0=some (.tup [.int s0.1,.int s0.2])/\H pl=some (.tup [.int sl.1,.int sl.2])/\IsStep N s0/\IsStep N sl:=by
 have hl:0<vs.length:=List.length_pos_iff.mpr hne
 obtain⟨v0,vs',e0⟩:∃v0 vs',vs=v0::vs':=by
  cases vs with
  | nil=>exact absurd rfl hne
  | cons a r=>exact⟨_,_,rfl⟩
 obtain⟨vi,vl,el⟩:∃vi vl,vs=vi++[vl]:=⟨_,_,(List.dropLast_concat_getLast hne).symm⟩
 have hS:S≠[]:=fun z=>by have:=g.len;rw[z]at this;simp at this;omega
 obtain⟨S0,sl,eS⟩:∃S0 sl,S=S0++[sl]:=⟨_,_,(List.dropLast_concat_getLast hS).symm⟩
 obtain⟨s0,h0⟩:∃s0,S[0]? = some s0:=⟨_,List.getElem?_eq_getElem (by rw[g.len];exact hl)⟩
 have ll:S0.length=vi.length:=by
  have:=g.len
  rw[eS,el]at this
  simpa using this
 obtain⟨a1,a2⟩:=g.at_ 0 v0 s0 (by rw[e0];rfl) h0
 obtain⟨b1,b2⟩:=g.at_ vi.length vl sl (by rw[el];simp) (by rw[eS,<-ll];simp)
 obtain⟨p0,c1,c2⟩:=stepOf_at a1
 obtain⟨pl,d1,d2⟩:=stepOf_at b1
 exact⟨v0,vs',vi,vl,s0,S0,sl,p0,pl,e0,el,h0,eS,c1,d1,c2,d2,stepB_is a2,stepB_is b2⟩
theorem is_whole_way_any(ck:CnOk K c)(hz:PlanAt K c H x N)(hv:Valid N)(hw:H w=some (.lst vs))(it:∀v∈vs,ItT H v)(lv:vs.length<=1000)
  (k:∀(b:Bool) H',(¬WayB H N vs->b=false)->(∀S S0 s0 sl,vs≠[]->GoodS H N vs S->S[0]? = some s0->S=S0++[sl]->b=wholeB N s0 sl)->Same H H'->Q (.bl b) H'):sp_is_whole_way K c [.ref x,.ref w] H Q E:=by
 obtain⟨dx2,r2,n2,e2',es,p1,_⟩:=id hz.ex
 refine⟨rfl,?_⟩
 unfold t_is_whole_way
 nofun
 exists is_way_any ck hz hw it lv fun b H1 hb s1=>?_
 cases b with
 | false=>
  exists iteT' rfl ?_
  have no:¬WayB H N vs:=fun z=>by cases hb.mpr z
  exact k false H1 (fun _=>rfl) (fun S S0 s0 sl hne g _ _=>absurd ⟨hne,S,g⟩ no) s1
 | true=>
 refine iteF' rfl ?_
 obtain⟨hne,S,g⟩:=hb.mp rfl
 obtain⟨v0,vs',vi,vl,s0,S0,sl,p0,pl,e0,el,h0,eS,rfl,rfl,st0,stl,is0,isl⟩:=g.ends hne
 have uniq:∀S',GoodS H N vs S'->S'=S:=fun S' g'=>by
  apply List.ext_getElem?
  intro i
  by_cases hi:i<vs.length
  ·obtain⟨s',hs'⟩:∃s',S'[i]? = some s':=⟨_,List.getElem?_eq_getElem (by rw[g'.len];exact hi)⟩
   obtain⟨s,hs⟩:∃s,S[i]? = some s:=⟨_,List.getElem?_eq_getElem (by rw[g.len];exact hi)⟩
   obtain⟨v,hv⟩:∃v,vs[i]? = some v:=⟨_,List.getElem?_eq_getElem hi⟩
   have a1:=(g'.at_ i v s' hv hs').1
   rw[(g.at_ i v s hv hs).1]at a1
   cases a1
   rw[hs,hs']
  ·rw[List.getElem?_eq_none_iff.mpr (by rw[g'.len];omega),List.getElem?_eq_none_iff.mpr (by rw[g.len];omega)]
 have same2:∀S' S0' s0' sl',GoodS H N vs S'->S'[0]? = some s0'->S'=S0'++[sl']->s0'=s0/\sl'=sl:=fun S' S0' s0' sl' g' f1 f2=>by
  have z:=uniq S' g'
  rw[z]at f1 f2
  rw[h0]at f1
  cases f1
  rw[eS]at f2
  exact⟨rfl,(List.singleton_inj.mp (List.append_inj' f2 rfl).2).symm⟩
 ext
 have hw0:=s1 _ _ hw
 have hwl:=hw0
 rw[e0]at hw0
 rw[el]at hwl
 refine q_ixL hw0 (atI0 _ _) ?_
 refine⟨_,_,_,_,rfl,rfl,SqT.of (s1 _ _ st0),ck.t_FIRST_STEP H1,rfl,rfl,?_⟩
 rw[eq2]
 ext
 by_cases hF:s0=FST
 rotate_left
 ·exists iteT' (by rw[decide_eq_false hF];rfl) ?_
  refine k false H1 (fun _=>rfl) (fun S' S0' s0' sl' _ g' f1 f2=>?_) s1
  obtain⟨rfl,rfl⟩:=same2 S' S0' s0' sl' g' f1 f2
  unfold wholeB
  rw[decide_eq_false hF];rfl
 refine iteF' (by rw[decide_eq_true hF];rfl) ?_
 obtain⟨dx,fs,n,hx,hf,hn⟩:=hz.x
 ext
 specialize s_fld ?_
 exists ⟨x,_,dx,fs,_,rfl,s1 _ _ hx,ck.cls_Plan,ck.na_Plan_nexts,hf,?_⟩
 specialize s_meth ?_
 exists ⟨x,dx2,_,rfl,s1 _ _ p1,names3 r2 n2 e2' _ (by decide),?_⟩
 exists q_ixL hwl atI_last ?_
 exists leads_to_ok ck (hz.same s1).x (.inl (s1 _ _ stl)) isl ?_
 have hlt:=lead_lt hv isl
 have he:=at_len hlt
 obtain⟨us,y,f1,f2,f3,f4⟩:=(hn.same s1).at he
 exists q_ixL f1 f2 ?_
 refine q_lenL f3 ?_
 rw[IL_len]
 ext
 refine k _ H1 (fun z=>absurd ⟨hne,S,g⟩ z) (fun S' S0' s0' sl' _ g' f1 f2=>?_) s1
 obtain⟨rfl,rfl⟩:=same2 S' S0' s0' sl' g' f1 f2
 unfold wholeB
 rw[decide_eq_true hF,Bool.true_and,dec_i,show N.getD (leadF N sl') []=N[leadF N sl'] by simp[List.getD,hlt]]
 by_cases z:(N[leadF N sl']).length=0
 ·rw[decide_eq_true z,decide_eq_true (by omega)]
 ·rw[decide_eq_false z,decide_eq_false (by omega)]
theorem places_any{S:List Stp}(ck:CnOk K c)(hz:PlanAt K c H x N)(hw:H w=some (.lst vs))(g:GoodS H N vs S)(lv:vs.length<=1000)
  (k:∀D H',H D=none->H' D=some (.lst (IL (S.map (leadF N))))->Same H H'->Q (.ref D) H'):sp_places_of K c [.ref x,.ref w] H Q E:=by
 obtain⟨dx2,r2,n2,e2',es,p1,_⟩:=id hz.ex
 have lS:=g.len
 refine⟨rfl,?_⟩
 unfold t_places_of
 ext
 specialize s_comp (s_ilst ?_)
 refine⟨w,rfl,⟨_,SqL.of hw⟩,fun T hT=>?_⟩
 refine comp_lst (xs:=vs) (fun i ys H2=>ys=IL ((S.take i).map (leadF N))/\H2 T=some (.lst ys)/\Same H H2) ⟨rfl,upd_same,same_new hT⟩ ?_ ?_ ?_ ?_
 ·rintro i ys H2 ⟨_,h,_⟩
  exact h
 ·rintro i ys H2 _ ⟨_,_,s2⟩
  exact SqL.of (s2 _ _ hw)
 ·rintro i v ys H2 hv ⟨rfl,hT2,s2⟩ R hR
  have hi:=(gI hv)
  obtain⟨s,hs⟩:∃s,S[i]? = some s:=⟨_,List.getElem?_eq_getElem (by rw[lS];exact hi)⟩
  obtain⟨a1,a2⟩:=g.at_ i v s hv hs
  obtain⟨p,rfl,st⟩:=stepOf_at a1
  ext
  specialize s_meth ?_
  exists ⟨x,dx2,_,rfl,s2 _ _ p1,names3 r2 n2 e2' _ (by decide),?_⟩
  refine leads_to_ok ck (hz.same s2).x (.inl (s2 _ _ st)) (stepB_is a2) ?_
  refine hR _ _ hT2 (smallT (by rw[IL_len,List.length_map,List.length_take];omega)) ⟨?_,upd_same,fun b o e=>by rw[upd_ne (ne_of_none e hT)];exact s2 _ _ e⟩
  rw[List.take_add_one,hs,List.map_append,IL_app];rfl
 rintro ys H2 ⟨rfl,hT2,s2⟩
 rw[<-lS,List.take_length]at hT2
 exact k T H2 hT hT2 s2
end
theorem ItT.dq{K:Fg}{H:Hp}{v:V}(h:ItT H v):Dq K H 1 v v:=by
 rcases h with h | ⟨p,xs,rfl,q | q,f⟩
 ·exact .flat h
 ·exact .tup (SqT.of q) (SqT.of q) rfl fun j x y e1 e2=>by
   rw[e1]at e2;cases e2
   exact .flat (List.all_eq_true.mp f _ (mI e1))
 ·exact .lst (SqL.of q) (SqL.of q) rfl fun j x y e1 e2=>by
   rw[e1]at e2;cases e2
   exact .flat (List.all_eq_true.mp f _ (mI e1))
inductive WT(H:Hp):V->Prop
 | lst {w:Addr} {vs:List V}:H w=some (.lst vs)->(∀v∈vs,ItT H v)->vs.length<=1000->WT H (.ref w)
 | tup {w:Addr} {vs:List V}:H w=some (.tup vs)->(∀v∈vs,ItT H v)->WT H (.ref w)
 | dict {w:Addr}:H w=some (.dK [])->WT H (.ref w)
 | non:WT H .non
 | str {s:Str}:WT H (.str s)
 | int {i:Int}:WT H (.int i)
end RD
namespace RD
open PySem PySem.Spec L2
theorem lwhole_int{K:Fg}{H:Hp}{n:Int}{Q:VK}{E:XK}(k:Q (.bl true) H):sp_whole K [.int n] H Q E:=lwhole_any (v:=.int n) rfl k
section
variable {K:Fg}{c:Cn}{H:Hp}{x na w:Addr}{v:V}{vs:List V}{N:Nt}{Q:VK}{E:XK}
theorem asked_no(h:NoL H v)(dq:∀H',Same H H'->∀Q:VK,Q (.bl false) H'->qNeX K v v H' Q)(k:Q (.bl true) H):sp_asked K c [.ref x,.ref na,v] H Q E:=by
 obtain⟨t,e,f⟩:=id h
 refine⟨rfl,?_⟩
 unfold t_asked
 nofun
 nofun
 exists q_isi e (by decide) ?_
 exists iteF' f ?_
 nofun
 exists lplaces_no h ?_
 nofun
 exists is_way_no h ?_
 nofun
 exists q_isi rfl (by decide) ?_
 exists iteF' (by decide) ?_
 exists ⟨rfl,?_⟩
 exists iteF' (by decide) ?_
 nofun
 exists is_whole_way_no h ?_
 nofun
 exists ⟨rfl,?_⟩
 exists iteF' (by decide) ?_
 nofun
 exists q_isi rfl (by decide) ?_
 exists iteF' (by decide) ?_
 exists iteF' (by decide) ?_
 exists dq H (Same.refl _) _ ?_
 exists iteF' (by decide) ?_
 nofun
 exists ⟨rfl,?_⟩
 exists iteT' (by decide) ?_
 exact k
theorem dq_list{a b:Addr}(ha:H a=some (.lst vs))(hb:H b=some (.lst vs))(it:∀v∈vs,ItT H v):Dq K H 2 (.ref a) (.ref b):=.lst (SqL.of ha) (SqL.of hb) rfl fun j x y e1 e2=>by
 rw[e1]at e2;cases e2
 exact(it _ (mI e1)).dq
theorem asked_lst(ck:CnOk K c)(hz:PlanAt K c H x N)(hn:NetAt H na N)(hv:Valid N)(hw:H w=some (.lst vs))(it:∀v∈vs,ItT H v)(lv:vs.length<=1000)(k:∀H',Same H H'->Q (.bl true) H'):sp_asked K c [.ref x,.ref na,.ref w] H Q E:=by
 refine⟨rfl,?_⟩
 unfold t_asked
 nofun
 nofun
 exists q_isi (s := "list") (by simp only[tyName,hw]) (by decide) ?_
 exists iteT' (by decide) ?_
 exists q_listL hw fun kp H1 hkp e1 s1=>?_
 nofun
 have it1:∀v∈vs,ItT H1 v:=fun v h=>(it v h).same s1
 refine lplaces_any (hn.same s1) (s1 _ _ hw) it1 lv (fun D S H2 hD hne g e2 s2=>?_) fun H2 no s2=>?_
 ·-- a way
  have s02:=s1.trans s2
  have it2:∀v∈vs,ItT H2 v:=fun v h=>(it v h).same s02
  have g2:GoodS H2 N vs S:=g.same it1 s2
  ext
  nofun
  refine is_way_any ck (hz.same s02) (s02 _ _ hw) it2 lv fun b H3 hb s3=>?_
  obtain rfl:b=true:=hb.mpr ⟨hne,S,g2⟩
  have s03:=s02.trans s3
  have it3:∀v∈vs,ItT H3 v:=fun v h=>(it v h).same s03
  have g3:=g2.same it2 s3
  ext
  nofun
  exists q_isi rfl (by decide) ?_
  exists iteF' (by decide) ?_
  exists ⟨rfl,?_⟩
  have nD:decide (V.ref D=V.non)=false:=decide_eq_false (by intro z;cases z)
  exists iteF' (by rw[nD];decide) ?_
  nofun
  refine is_whole_way_any ck (hz.same s03) hv (s03 _ _ hw) it3 lv fun b H4 _ hb s4=>?_
  obtain⟨v0,vs',vi,vl,s0,S0,sl,p0,pl,e0,el,h0,eS,rfl,rfl,st0,stl,is0,isl⟩:=g3.ends hne
  have eb:=hb S S0 s0 sl hne g3 h0 eS
  subst eb
  have s04:=s03.trans s4
  ext
  have hw0:=s04 _ _ hw
  rw[e0]at hw0
  have hlt:=lead_lt hv isl
  have he:=at_len hlt
  have hD4:H4 D=some (.lst (IL (S.map (leadF N)))):=s4 _ _ (s3 _ _ e2)
  with_reducible refine s_cut (P:=fun σ H5=>σ=[some (.ref x),some (.ref na),some (.ref w),some (.ref kp),some (.ref D),some (.bl (wholeB N s0 sl)),some (.bl (wholeB N s0 sl)),none]/\Same H4 H5) ?_ ?_
  rotate_left
  ·intro nx hnx
   ext
   exists ⟨rfl,?_⟩
   exists iteT' (by rw[nD];rfl) ?_
   exists q_ixL hw0 (atI0 _ _) ?_
   refine new_i (by simp) fun z H5 hz5 e5 s5=>?_
   refine⟨_,eqO_tup (s5 _ _ (s4 _ _ st0)) e5 rfl rfl,?_⟩
   rw[eq2]
   ext
   by_cases hF:s0=FST
   rotate_left
   ·exists iteF' (decide_eq_false hF) ?_
    refine hnx _ _ ⟨?_,s5⟩
    unfold wholeB
    rw[decide_eq_false hF];rfl
   ·exists iteT' (decide_eq_true hF) ?_
    have hD5:=s5 _ _ hD4
    rw[eS,List.map_append,IL_app]at hD5
    exists q_ixL hD5 atI_last ?_
    obtain⟨us,y,f1,f2,f3,f4⟩:=(hn.same (s04.trans s5)).at he
    exists q_ixL f1 f2 ?_
    refine new_i (by simp) fun z6 H6 hz6 e6 s6=>?_
    refine⟨_,eqO_lst (s6 _ _ f3) e6 (IL_flat _) rfl,?_⟩
    rw[flatEq_nil,IL_len]
    ext
    refine hnx _ _ ⟨?_,s5.trans s6⟩
    unfold wholeB
    rw[decide_eq_true hF,Bool.true_and,show N.getD (leadF N sl) []=N[leadF N sl] by simp[List.getD,hlt]];rfl
  rintro _ H5 ⟨rfl,s5⟩
  have s05:=s04.trans s5
  have it5:∀v∈vs,ItT H5 v:=fun v h=>(it v h).same s05
  have g5:GoodS H5 N vs S:=g3.same it3 (s4.trans s5)
  have e15:H5 kp=some (.lst vs):=s5 _ _ (s4 _ _ (s3 _ _ (s2 _ _ e1)))
  ext
  nofun
  exists q_isi rfl (by decide) ?_
  exists iteF' (by decide) ?_
  exists iteF' (by rw[decide_eq_true rfl];rfl) ?_
  refine .inr (.inl ⟨_,_,2,rfl,rfl,by decide,dq_list e15 (s05 _ _ hw) it5,?_⟩)
  ext
  exists iteF' (by decide) ?_
  nofun
  exists ⟨rfl,?_⟩
  exists iteF' (decide_eq_false (by intro z;cases z)) ?_
  nofun
  refine places_any ck (hz.same s05) (s05 _ _ hw) g5 lv fun T H6 hT e6 s6=>?_
  have s06:=s05.trans s6
  have hD6:=s6 _ _ (s5 _ _ hD4)
  ext
  nofun
  exists q_isi (s := "list") (by simp only[tyName,e6]) (by decide) ?_
  exists iteF' (by decide) ?_
  refine⟨_,eqO_lst e6 hD6 (IL_flat _) (IL_flat _),?_⟩
  rw[flatEq_self _ (IL_flat _)]
  ext
  exists iteF' (by decide) ?_
  have e60:atI (IL (S.map (leadF N))) 0=some (.int ((leadF N s0:Nat):Int)):=IL_at (j:=0) (by rw[List.getElem?_map,h0];rfl)
  exists q_ixL e6 e60 ?_
  exists lwhole_int ?_
  exists iteF' (by decide) ?_
  nofun
  specialize s_bm0 ?_
  refine⟨ty_list e6,?_⟩
  exists q_clear e6 ?_
  have s57:Same H5 (upd H6 T (.lst [])):=fun b o e=>by rw[upd_ne (ne_of_none e hT)];exact s6 _ _ e
  have s07:=s05.trans s57
  have it7:∀v∈vs,ItT (upd H6 T (.lst [])) v:=fun v h=>(it v h).same s07
  exists places_any ck (hz.same s07) (s07 _ _ hw) (g5.same it5 s57) lv fun T2 H8 hT2 e8 s8=>?_
  refine⟨_,eqO_lst e8 (s8 _ _ (s57 _ _ (s5 _ _ hD4))) (IL_flat _) (IL_flat _),?_⟩
  rw[flatEq_self _ (IL_flat _)]
  ext
  exists iteT' (by decide) ?_
  have s08:=s07.trans s8
  exact⟨_,_,2,rfl,rfl,by decide,dq_list (s8 _ _ (s57 _ _ e15)) (s08 _ _ hw) (fun v h=>(it v h).same s08),k _ s08⟩
 ·-- no way
  have s02:=s1.trans s2
  have no:¬WayB H1 N vs:=no
  have noW:∀H',Same H1 H'->¬WayB H' N vs:=fun H' s ⟨hne,S,g⟩=>no ⟨hne,S,g.len,fun i v t f1 f2=>by rw[<-stepOf_same (it1 v (mI f1)) s];exact g.at_ i v t f1 f2,g.lk⟩
  have it2:∀v∈vs,ItT H2 v:=fun v h=>(it v h).same s02
  ext
  nofun
  refine is_way_any ck (hz.same s02) (s02 _ _ hw) it2 lv fun b H3 hb s3=>?_
  obtain rfl:b=false:=by
   cases b with
   | false=>rfl
   | true=>exact absurd (hb.mp rfl) (noW _ s2)
  have s03:=s02.trans s3
  have it3:∀v∈vs,ItT H3 v:=fun v h=>(it v h).same s03
  ext
  nofun
  exists q_isi rfl (by decide) ?_
  exists iteF' (by decide) ?_
  exists ⟨rfl,?_⟩
  exists iteF' (by decide) ?_
  nofun
  refine is_whole_way_any ck (hz.same s03) hv (s03 _ _ hw) it3 lv fun b H4 hb _ s4=>?_
  obtain rfl:=hb (noW _ (s2.trans s3))
  have s04:=s03.trans s4
  ext
  nofun
  exists ⟨rfl,?_⟩
  exists iteF' (by decide) ?_
  nofun
  exists q_isi rfl (by decide) ?_
  exists iteF' (by decide) ?_
  exists iteF' (by decide) ?_
  refine .inr (.inl ⟨_,_,2,rfl,rfl,by decide,dq_list (s4 _ _ (s3 _ _ (s2 _ _ e1))) (s04 _ _ hw) (fun v h=>(it v h).same s04),?_⟩)
  ext
  exists iteF' (by decide) ?_
  nofun
  exists ⟨rfl,?_⟩
  exists iteT' (by decide) ?_
  exact k _ s04
theorem asked_ok(ck:CnOk K c)(hz:PlanAt K c H x N)(hn:NetAt H na N)(hv:Valid N)(h:WT H v)(k:∀H',Same H H'->Q (.bl true) H'):sp_asked K c [.ref x,.ref na,v] H Q E:=by
 cases h with
 | lst hw it lv=>exact asked_lst ck hz hn hv hw it lv k
 | tup hw it=>exact asked_no ⟨"tuple", by simp only[tyName,hw],by decide⟩ (fun H' s Q q=>.inr (.inl ⟨_,_,2,rfl,rfl,by decide,.tup (SqT.of (s _ _ hw)) (SqT.of (s _ _ hw)) rfl fun j x y e1 e2=>by
   rw[e1]at e2;cases e2
   exact((it _ (mI e1)).same s).dq,q⟩)) (k _ (Same.refl _))
 | dict hw=>exact asked_no ⟨"dict", by simp only[tyName,hw],by decide⟩ (fun H' s Q q=>.inr (.inr (by
   unfold qNeD
   simp only[s _ _ hw]
   exact⟨trivial,List.nodup_nil,rfl,q⟩))) (k _ (Same.refl _))
 | non=>exact asked_no ⟨"NoneType", rfl,by decide⟩ (fun H' s Q q=>.inl ⟨true,rfl,q⟩) (k _ (Same.refl _))
 | str=>exact asked_no ⟨"str", rfl,by decide⟩ (fun H' s Q q=>.inl ⟨true,by unfold eqO;simp[scal],q⟩) (k _ (Same.refl _))
 | int=>exact asked_no ⟨"int", rfl,by decide⟩ (fun H' s Q q=>.inl ⟨true,by unfold eqO;simp[scal],q⟩) (k _ (Same.refl _))
end
end RD
namespace RD
open PySem PySem.Spec L2
def Pq(H:Hp)(p:Addr):Prop:=∃i j:Int,H p=some (.tup [.int i,.int j]) /\ -1<=i/\i<1000
structure PW(H:Hp)(a:Addr)(ps:List Addr):Prop where
 h:H a=some (.lst (ps.map V.ref))
 at_:∀p∈ps,Pq H p
theorem Pq.same{H H':Hp}{p:Addr}(h:Pq H p)(s:Same H H'):Pq H' p:=by
 obtain⟨i,j,e,r⟩:=h
 exact⟨i,j,s _ _ e,r⟩
theorem PW.same{H H':Hp}{a:Addr}{ps:List Addr}(h:PW H a ps)(s:Same H H'):PW H' a ps:=⟨s _ _ h.h,fun p hp=>(h.at_ p hp).same s⟩
theorem PW.dput{H:Hp}{a d:Addr}{ps:List Addr}{ks:List (Key×V)}{o:HO}(h:PW H a ps)(hd:H d=some (.dK ks)):PW (upd H d o) a ps:=
 ⟨by rw[upd_ne (ne_of h.h hd (by intro z;cases z))];exact h.h,fun p hp=>by
  obtain⟨i,j,e,r⟩:=h.at_ p hp
  exact⟨i,j,by rw[upd_ne (ne_of e hd (by intro z;cases z))];exact e,r⟩⟩
structure WD(H:Hp)(d:Addr)(N:Nt)(S:List Nat):Prop where
 ex:∃kvs,H d=some (.dK kvs)/\Kys S kvs/\S.Nodup/\(∀t∈S,t<N.length)/\∀t∈S,∃a ps,valV kvs (Sum.inl (t:Int))=some (.ref a)/\PW H a ps/\ps.length+1<=S.length
section
variable {H H':Hp}{d a:Addr}{N:Nt}{S S0:List Nat}{t:Nat}{ps:List Addr}{F G:Prop}
theorem WD.same(h:WD H d N S)(s:Same H H'):WD H' d N S:=by
 obtain⟨kvs,h1,h2,h3,h4,h5⟩:=h.ex
 exact⟨kvs,s _ _ h1,h2,h3,h4,fun t ht=>by
  obtain⟨a,ps,e,p,l⟩:=h5 t ht
  exact⟨a,ps,e,p.same s,l⟩⟩
theorem WD.in_(h:WD H d N S)(t:Nat):∃o,DGet H d (.int (t:Int)) o/\o.isSome=decide (t∈S):=by
 obtain⟨kvs,h1,h2,h3,h4,h5⟩:=h.ex
 exact⟨_,DGet.k (k:=Sum.inl (t:Int)) h1,h2.in_ h3 t⟩
theorem WD.get(h:WD H d N S)(ht:t∈S):∃a ps,DGet H d (.int (t:Int)) (some (.ref a))/\PW H a ps/\ps.length+1<=S.length:=by
 obtain⟨kvs,h1,h2,h3,h4,h5⟩:=h.ex
 obtain⟨a,ps,e,p,l⟩:=h5 t ht
 refine⟨a,ps,?_,p,l⟩
 rw[<-e]
 exact DGet.k (k:=Sum.inl (t:Int)) h1
theorem WD.le(h:WD H d N S):S.length<=N.length:=by
 obtain⟨kvs,h1,h2,h3,h4,h5⟩:=h.ex
 exact nd_le _ _ h3 h4
theorem WD.put(h:WD H d N S)(hN:N.length<=400)(ht:t<N.length)(hn:¬t∈S)(pw:PW H a ps)(l:ps.length<=S.length):∃o,DPut H d (.int (t:Int)) (.ref a) (upd H d o)/\WD (upd H d o) d N (S++[t]):=by
 have hl:=h.le
 obtain⟨kvs,h1,h2,h3,h4,h5⟩:=h.ex
 refine⟨_,DPut.k (k:=Sum.inl (t:Int)) h1 (smallT (by rw[h2.len];omega)),_,upd_same,?_,nd_snoc h3 hn,fun u hu=>?_,fun u hu=>?_⟩
 ·rw[h2.put h3 hn];exact h2.snoc
 ·rcases List.mem_append.mp hu with q | q
  ·exact h4 u q
  ·rw[List.mem_singleton.mp q];exact ht
 ·rw[valV_put,List.length_append,List.length_singleton]
  by_cases e:u=t
  ·subst e
   exact⟨a,ps,if_pos rfl,pw.dput h1,by omega⟩
  ·obtain⟨b,qs,f1,f2,f3⟩:=h5 u ((List.mem_append.mp hu).resolve_right fun z=>e (List.mem_singleton.mp z))
   exact⟨b,qs,by rw[if_neg (fun z=>e (by have:=Sum.inl.inj z;omega))];exact f1,f2.dput h1,by omega⟩
def Pre(S0 S:List Nat)(F:Prop):Prop:=S0 <+: S/\(S=S0->F)
theorem Pre.put(h:Pre S0 S F):Pre S0 (S++[t]) G:=⟨h.1.trans (List.prefix_append _ _),fun z=>by
 have:=h.1.length_le
 have:=congrArg List.length z
 rw[List.length_append,List.length_singleton]at this
 omega⟩
theorem Pre.more(h:Pre S0 S F)(k:S=S0->F->G):Pre S0 S G:=⟨h.1,fun z=>k z (h.2 z)⟩
def OkS(N:Nt)(S:List Nat)(j:Nat):Prop:=(N[j]? = some []->j∈S)/\∀l t,N[j]? = some l->t∈l->t∈S->j∈S
theorem oks_all(h:∀j,j<N.length->OkS N S j):∀k,Gd N k->k∈S:=by
 intro k g
 induction g with
 | @stop k h1=>exact(h k (gI h1)).1 h1
 | @step k t l h1 h2 _ ih=>exact(h k (gI h1)).2 l t h1 h2 ih
end
theorem shortest_ok{K:Fg}{H:Hp}{na:Addr}{N:Nt}{pl:Nat}{Q:VK}{E:XK}(hn:NetAt H na N)(hv:Valid N)(hp:pl<N.length)
  (k:∀a ps H',PW H' a ps->ps.length<=400->Same H H'->Q (.ref a) H'):sp_shortest K [.ref na,.int (pl:Int)] H Q E:=by
 have h400:=hv.le
 obtain⟨as,hna,las,hat⟩:=id hn.ex
 refine⟨rfl,?_⟩
 unfold t_shortest
 nofun
 exists s_dnew fun d H1 hd1 e1 s1=>?_
 have I1:WD H1 d N []:=⟨_,e1,rfl,by simp,(fun t ht=>by cases ht),fun t ht=>by cases ht⟩
 with_reducible refine s_seq ?_
 specialize s_for (s_rng1 ?_)
 refine q_lenL (s1 _ _ hna) ?_
 rw[List.length_map,las]
 refine⟨N.length,rfl,by omega,by omega,?_⟩
 rw[Int.toNat_natCast]
 refine for_range (fun r σ H2=>∃y3 y4 y5 S,σ=[some (.ref na),some (.int (pl:Int)),some (.ref d),y3,y4,y5]/\WD H2 d N S/\((∀t,t<N.length->t∈S)\/r<=S.length)/\Same H H2) ⟨_,_,_,[],rfl,I1,.inr (Nat.le_refl _),s1⟩ ?_ ?_
 ·rintro r _ H2 hr ⟨y3,y4,y5,S0,rfl,I2,G2,s2⟩
  rw[Int.zero_add]
  ext
  specialize s_for (s_rng1 ?_)
  refine q_lenL (s2 _ _ hna) ?_
  rw[List.length_map,las]
  refine⟨N.length,rfl,by omega,by omega,?_⟩
  rw[Int.toNat_natCast]
  refine for_range (fun j σ H3=>∃y4 y5 S,σ=[some (.ref na),some (.int (pl:Int)),some (.ref d),some (.int (r:Int)),y4,y5]/\WD H3 d N S/\Pre S0 S (∀i,i<j->OkS N S0 i)/\Same H H3) ⟨_,_,S0,rfl,I2,⟨List.prefix_refl _,fun _ i h=>by omega⟩,s2⟩ ?_ ?_
  ·rintro j _ H3 hj ⟨y4,y5,S,rfl,I3,P3,s3⟩
   rw[Int.zero_add]
   ext
   have hl:=at_len hj
   obtain⟨l,hle⟩:∃l,l=N[j]:=⟨_,rfl⟩
   rw[<-hle]at hl
   obtain⟨u0,hu0⟩:∃u0,as[j]? = some u0:=⟨_,List.getElem?_eq_getElem (by omega)⟩
   have hu:=hat j u0 l hu0 hl
   have ixj:atI (as.map V.ref) (j:Int)=some (.ref u0):=atI_nat (by rw[List.getElem?_map,hu0];rfl)
   with_reducible refine s_cut (P:=fun σ H4=>∃S,σ=[some (.ref na),some (.int (pl:Int)),some (.ref d),some (.int (r:Int)),some (.int (j:Int)),y5]/\WD H4 d N S/\Pre S0 S ((∀i,i<j->OkS N S0 i)/\(l=[]->j∈S0))/\Same H H4) ?_ ?_
   rotate_left
   ·intro nx hnx
    ext
    exists q_ixL (s3 _ _ hna) ixj ?_
    refine new_i (by simp) fun z H4 hz e4 s4=>?_
    refine⟨_,eqO_lst (s4 _ _ (s3 _ _ hu)) e4 (IL_flat _) rfl,?_⟩
    rw[flatEq_nil,IL_len]
    ext
    have s04:=s3.trans s4
    have I4:=I3.same s4
    by_cases h0:l.length=0
    ·exists iteT' (decide_eq_true h0) ?_
     specialize s_dnotin ?_
     obtain⟨o,q1,q2⟩:=I4.in_ j
     refine⟨d,o,rfl,q1,?_⟩
     rw[q2]
     ext
     by_cases hj2:j∈S
     ·exists iteF' (by rw[decide_eq_true hj2];rfl) ?_
      exact hnx _ _ ⟨S,rfl,I4,P3.more fun z f=>⟨f,fun _=>z ▸ hj2⟩,s04⟩
     ·exists iteT' (by rw[decide_eq_false hj2];rfl) ?_
      specialize s_dput ?_
      exists new_i (by simp) fun z5 H5 hz5 e5 s5=>?_
      have I5:=I4.same s5
      obtain⟨o,p1,p2⟩:=I5.put h400 hj hj2 (a:=z5) (ps:=[]) ⟨e5,fun p hp=>by cases hp⟩ (Nat.zero_le _)
      refine⟨d,_,rfl,p1,?_⟩
      exact hnx _ _ ⟨_,rfl,p2,P3.put,fun b o' e=>by rw[upd_ne (ne_of_none e hd1)];exact s5 _ _ (s04 _ _ e)⟩
    ·exists iteF' (decide_eq_false h0) ?_
     exact hnx _ _ ⟨S,rfl,I4,P3.more fun z f=>⟨f,fun z=>absurd (by rw[z];rfl) h0⟩,s04⟩
   rintro _ H4 ⟨S,rfl,I4,P4,s4⟩
   specialize s_for (s_rng1 ?_)
   exists q_ixL (s4 _ _ hna) ixj ?_
   refine q_lenL (s4 _ _ hu) ?_
   rw[IL_len]
   have l2:=hv.two l (mI hl)
   refine⟨l.length,rfl,by omega,by omega,?_⟩
   rw[Int.toNat_natCast]
   refine for_range (fun q σ H5=>∃y5 S,σ=[some (.ref na),some (.int (pl:Int)),some (.ref d),some (.int (r:Int)),some (.int (j:Int)),y5]/\WD H5 d N S/\Pre S0 S (((∀i,i<j->OkS N S0 i)/\(l=[]->j∈S0))/\∀(q' t:Nat),q'<q->l[q']? = some t->t∈S0->j∈S0)/\Same H H5) ⟨_,S,rfl,I4,P4.more fun _ f=>⟨f,fun q' t h=>by omega⟩,s4⟩ ?_ ?_
   ·rintro q _ H5 hq ⟨y5,S,rfl,I5,P5,s5⟩
    rw[Int.zero_add]
    ext
    obtain⟨u,hlu⟩:∃u,l[q]? = some u:=⟨_,List.getElem?_eq_getElem hq⟩
    specialize s_dnotin ?_
    obtain⟨o,q1,q2⟩:=I5.in_ j
    refine⟨d,o,rfl,q1,?_⟩
    rw[q2]
    ext
    by_cases hj2:j∈S
    ·refine iteF' (by rw[decide_eq_true hj2];rfl) ?_
     exists iteF' rfl ?_
     exact⟨_,S,rfl,I5,P5.more fun z f=>⟨f.1,fun _ _ _ _ _=>z ▸ hj2⟩,s5⟩
    exists iteT' (by rw[decide_eq_false hj2];rfl) ?_
    specialize s_din ?_
    exists q_ixL (s5 _ _ hna) ixj ?_
    exists q_ixL (s5 _ _ hu) (IL_at hlu) ?_
    obtain⟨o,q1,q2⟩:=I5.in_ u
    refine⟨d,o,rfl,q1,?_⟩
    rw[q2]
    ext
    by_cases hu2:u∈S
    rotate_left
    ·exists iteF' (decide_eq_false hu2) ?_
     refine⟨_,S,rfl,I5,P5.more fun z f=>⟨f.1,fun q' t hq' ht hS=>?_⟩,s5⟩
     by_cases e:q'=q
     ·subst e
      rw[hlu]at ht
      cases ht
      exact absurd (z ▸ hS) hu2
     ·exact f.2 q' t (by omega) ht hS
    exists iteT' (decide_eq_true hu2) ?_
    specialize s_dput ?_
    exists new_i (by simp) fun z6 H6 hz6 e6 s6=>?_
    refine new_i (by simp) fun z7 H7 hz7 e7 s7=>?_
    have s57:=s6.trans s7
    have s07:=s5.trans s57
    ext
    specialize s_dget ?_
    exists q_ixL (s07 _ _ hna) ixj ?_
    exists q_ixL (s07 _ _ hu) (IL_at hlu) ?_
    have I7:=I5.same s57
    obtain⟨w,ps,g1,g2,g3⟩:=I7.get hu2
    have hle:=I7.le
    refine⟨d,.ref w,rfl,g1,?_⟩
    refine q_addL e7 g2.h ?_
    exists new_i (by simp;omega) fun z8 H8 hz8 e8 s8=>?_
    have I8:=I7.same s8
    obtain⟨o,p1,p2⟩:=I8.put h400 hj hj2 (a:=z8) (ps:=z6::ps) ⟨e8,fun p hp=>by
     rcases List.mem_cons.mp hp with e | e
     ·rw[e]
      exact⟨(j:Int),(q:Int),s8 _ _ (s7 _ _ e6),by omega,by omega⟩
     ·exact(g2.at_ p e).same s8⟩ (by rw[List.length_cons];omega)
    refine⟨d,_,rfl,p1,?_⟩
    exact⟨_,_,rfl,p2,P5.put,fun b o' e=>by rw[upd_ne (ne_of_none e hd1)];exact s8 _ _ (s07 _ _ e)⟩
   ·rintro _ H5 ⟨y5,S,rfl,I5,P5,s5⟩
    refine⟨_,_,S,rfl,I5,P5.more fun z f i hi=>?_,s5⟩
    by_cases e:i=j
    ·subst e
     refine⟨fun h=>f.1.2 (by rw[hl]at h;exact Option.some.inj h),fun l' t h1 h2 h3=>?_⟩
     rw[hl]at h1
     cases h1
     obtain⟨q',hq'⟩:=List.mem_iff_getElem?.mp h2
     exact f.2 q' t (gI hq') hq' h3
    ·exact f.1.1 i (by omega)
  ·rintro _ H3 ⟨y4,y5,S,rfl,I3,P3,s3⟩
   refine⟨_,_,_,S,rfl,I3,?_,s3⟩
   by_cases e:S=S0
   ·exact .inl fun t ht=>e ▸ oks_all (P3.2 e) t (hv.gd t ht)
   ·rcases G2 with g | g
    ·exact .inl fun t ht=>P3.1.subset (g t ht)
    ·have h1:=P3.1.length_le
     have:S0.length≠S.length:=fun z=>e (P3.1.eq_of_length z).symm
     exact .inr (by omega)
 ·rintro _ H2 ⟨y3,y4,y5,S,rfl,I2,G2,s2⟩
  have hin:pl∈S:=by
   rcases G2 with g | g
   ·exact g pl hp
   ·obtain⟨kvs,h1,h2,h3,h4,h5⟩:=I2.ex
    by_cases q:pl∈S
    ·exact q
    ·have:=nd_le N.length (S++[pl]) (nd_snoc h3 q) fun u hu=>by
      rcases List.mem_append.mp hu with z | z
      ·exact h4 u z
      ·rw[List.mem_singleton.mp z];exact hp
     rw[List.length_append,List.length_singleton]at this
     omega
  obtain⟨w,ps,g1,g2,g3⟩:=I2.get hin
  have hle:=I2.le
  ext
  specialize s_dget ?_
  refine⟨d,.ref w,rfl,g1,?_⟩
  exact k w ps H2 g2 (by omega) s2
end RD
namespace RD
open PySem PySem.Spec L2
section
variable {b d a w:Addr}{H H':Hp}{ps:List Addr}{N:Nt}{L xs ys:List V}{v:V}
theorem PW.kept(h:PW H a ps)(hB:Bag H b d)(k:Kept b H H'):PW H' a ps:=by
 obtain⟨bs,hb⟩:=hB.lst
 exact⟨k.1 _ _ h.h (refs_ne hB h.h),fun p hp=>by
  obtain⟨i,j,e,r⟩:=h.at_ p hp
  exact⟨i,j,k.tup hb e,r⟩⟩
theorem PW.app{z:Addr}{i j:Int}(h:PW H a ps)(hz:H z=some (.tup [.int i,.int j]))(h0 : -1<=i)(h1:i<1000):PW (upd H a (.lst (ps.map V.ref++[.ref z]))) a (ps++[z]):=
 ⟨by rw[upd_same,List.map_append];rfl,fun p hp=>by
  rcases List.mem_append.mp hp with q | q
  ·obtain⟨i,j,e,r⟩:=h.at_ p q
   exact⟨i,j,by rw[upd_ne (ne_of e h.h (by intro z;cases z))];exact e,r⟩
  ·rw[List.mem_singleton.mp q]
   exact⟨i,j,by rw[upd_ne (ne_of hz h.h (by intro z;cases z))];exact hz,h0,h1⟩⟩
theorem walk_ok{K:Fg}{na:Addr}{Q:VK}{E:XK}(hB:Bag H b d)(hn:NetAt H na N)(hv:Valid N)
  (k:∀w ps H',PW H' w ps->ps.length<=420->Bag H' b d->Kept b H H'->Q (.ref w) H'):sp_walk K [.ref b,.ref na] H Q E:=by
 have h400:=hv.le
 have pos:=hv.pos
 have net:∀ {H'},Kept b H H'->NetAt H' na N:=fun k=>hn.kept hB hv.two k
 refine⟨rfl,?_⟩
 unfold t_walk
 nofun
 exists new_i (by simp) fun z1 H1 hz1 e1 s1=>?_
 exists new_i (by simp) fun w1 H2 hw1 e2 s2=>?_
 have s02:=s1.trans s2
 have B2:=hB.same s02
 nofun
 with_reducible refine s_cut (P:=fun σ H3=>∃w ps,∃p:Nat,σ=[some (.ref b),some (.ref na),some (.ref w),some (.int (p:Int)),none,none]/\ps.length<=1/\PW H3 w ps/\Bag H3 b d/\Kept b H H3/\H w=none/\p<N.length) ?_ ?_
 rotate_left
 ·intro nx hnx
  ext
  refine take_ok B2 (by decide) (by decide) fun n1 H3 a0 a1 B3 k3=>?_
  have k03:=(Kept.of_same s02).trans k3
  ext
  refine ite2 (fun _=>?_) (fun _=>?_)
  ·nofun
   obtain⟨as,hna,las,_⟩:=(net k03).ex
   refine q_lenL hna ?_
   rw[List.length_map,las]
   ext
   exists take_ok B3 (by omega) (by omega) fun n2 H4 c0 c1 B4 k4=>?_
   exists new_i (by simp) fun w2 H5 hw2 e5 s5=>?_
   have k05:=(k03.trans k4).trans (Kept.of_same s5)
   refine hnx _ _ ⟨w2,[],n2.toNat,by rw[show((n2.toNat:Nat):Int)=n2 by omega];rfl,by simp,⟨e5,fun p hp=>by cases hp⟩,B4.same s5,k05,(k03.trans k4).none hw2,by omega⟩
  ·ext
   obtain⟨bs,hb⟩:=B2.lst
   have pw2:PW H2 w1 [z1]:=⟨e2,fun p hp=>by rw[List.mem_singleton.mp hp];exact⟨-1,0,s2 _ _ e1,by omega,by omega⟩⟩
   exact hnx _ _ ⟨w1,[z1],0,rfl,by simp,pw2.kept B2 k3,B3,k03,s1.free hw1,pos⟩
 rintro _ H3 ⟨w,ps,p,rfl,l3,P3,B3,k3,hw,hp⟩
 have wb:=hB.nb hw
 with_reducible refine s_seq ?_
 specialize s_for (s_rng1 ?_)
 refine take_ok B3 (by decide) (by decide) fun n4 H4 a0 a1 B4 k4=>?_
 refine⟨n4,rfl,by omega,by omega,?_⟩
 have k04:=k3.trans k4
 refine for_range (fun i σ H5=>∃y4 y5 ps,∃p:Nat,σ=[some (.ref b),some (.ref na),some (.ref w),some (.int (p:Int)),y4,y5]/\ps.length<=1+i/\PW H5 w ps/\Bag H5 b d/\Kept b H H5/\p<N.length) ⟨_,_,ps,p,rfl,l3,P3.kept B3 k4,B4,k04,hp⟩ ?_ ?_
 ·rintro i _ H5 hi ⟨y4,y5,ps,p,rfl,l5,P5,B5,k5,hp⟩
  rw[Int.zero_add]
  have hl:=at_len hp
  obtain⟨l,hle⟩:∃l,l=N[p]:=⟨_,rfl⟩
  rw[<-hle]at hl
  have l2:=hv.two l (mI hl)
  obtain⟨us,y,f1,f2,f3,_⟩:=(net k5).at hl
  ext
  exists q_ixL f1 f2 ?_
  refine new_i (by simp) fun z H6 hz e6 s6=>?_
  refine⟨_,eqO_lst (s6 _ _ f3) e6 (IL_flat _) rfl,?_⟩
  rw[flatEq_nil,IL_len]
  ext
  have k6:=k5.trans (Kept.of_same s6)
  have P6:=P5.same s6
  have B6:=B5.same s6
  by_cases h0:l.length=0
  ·exists iteF' (by rw[decide_eq_true h0];rfl) ?_
   exact⟨_,_,ps,p,rfl,by omega,P6,B6,k6,hp⟩
  refine iteT' (by rw[decide_eq_false h0];rfl) ?_
  nofun
  exists q_ixL (s6 _ _ f1) f2 ?_
  refine q_lenL (s6 _ _ f3) ?_
  rw[IL_len]
  ext
  refine take_ok B6 (by omega) (by omega) fun n7 H7 c0 c1 B7 k7=>?_
  have k07:=k6.trans k7
  have P7:=P6.kept B6 k7
  ext
  nofun
  specialize s_bm ?_
  exists ⟨ty_list P7.h,?_⟩
  exists new_i (by simp) fun z8 H8 hz8 e8 s8=>?_
  have P8:=P7.same s8
  exists q_append P8.h (smallT (by rw[List.length_map];omega)) ?_
  have k9:Kept b H (upd H8 w (.lst (ps.map V.ref++[.ref z8]))):=(k07.trans (Kept.of_same s8)).put hw
  have B9:Bag (upd H8 w (.lst (ps.map V.ref++[.ref z8]))) b d:=(B7.same s8).put wb.1 wb.2
  obtain⟨us',y',g1,g2,g3,_⟩:=(net k9).at hl
  exists q_ixL g1 g2 ?_
  have hn7:n7.toNat<l.length:=by omega
  have hu:l[n7.toNat]? = some l[n7.toNat]:=by simp
  have ix:=IL_at hu
  rw[show((n7.toNat:Nat):Int)=n7 by omega]at ix
  exists q_ixL g3 ix ?_
  exact⟨_,_,ps++[z8],l[n7.toNat],rfl,by simp;omega,P8.app e8 (by omega) (by omega),B9,k9,hv.lt l (mI hl) _ (List.getElem_mem _)⟩
 ·rintro _ H5 ⟨y4,y5,ps,p,rfl,l5,P5,B5,k5,hp⟩
  with_reducible refine s_cut (P:=fun σ H6=>∃w ps y3,σ=[some (.ref b),some (.ref na),some (.ref w),y3,y4,y5]/\ps.length<=420/\PW H6 w ps/\Bag H6 b d/\Kept b H H6) ?_ ?_
  rotate_left
  ·intro nx hnx
   ext
   refine take_ok B5 (by decide) (by decide) fun n6 H6 a0 a1 B6 k6=>?_
   have k06:=k5.trans k6
   have P6:=P5.kept B5 k6
   ext
   refine ite2 (fun _=>?_) (fun _=>?_)
   ·ext
    refine shortest_ok (net k06) hv hp fun q qs H7 P7 l7 s7=>?_
    have P7':=P6.same s7
    ext
    refine q_addL P7'.h P7.h ?_
    exists new_i (by rw[List.length_map,List.length_map];omega) fun z8 H8 hz8 e8 s8=>?_
    refine hnx _ _ ⟨z8,ps++qs,_,rfl,by rw[List.length_append];omega,⟨by rw[e8,List.map_append],fun p hp=>?_⟩,(B6.same s7).same s8,(k06.trans (Kept.of_same s7)).trans (Kept.of_same s8)⟩
    rcases List.mem_append.mp hp with z | z
    ·exact(P7'.at_ p z).same s8
    ·exact(P7.at_ p z).same s8
   ·ext
    exact hnx _ _ ⟨w,ps,_,rfl,by omega,P6,B6,k06⟩
  rintro _ H6 ⟨w,ps,y3,rfl,l6,P6,B6,k6⟩
  ext
  exact k w ps H6 P6 l6 B6 k6
end
end RD
namespace RD
open PySem PySem.Spec L2
def Its(H:Hp)(L:List V):Prop:=∀v∈L,ItT H v
section
variable {b d a w:Addr}{H H':Hp}{ps:List Addr}{N:Nt}{L xs ys:List V}{v:V}{Q:VK}
theorem ItT.kept(h:ItT H v)(hB:Bag H b d)(k:Kept b H H'):ItT H' v:=by
 obtain⟨i0,i1,i2,ns,hb,_⟩:=hB.ex
 refine h.imp id ?_
 rintro⟨p,xs,rfl,q,f⟩
 refine⟨p,xs,rfl,q.imp (fun q=>k.tup hb q) fun q=>k.1 _ _ q fun z=>?_,f⟩
 subst z
 rw[hb]at q
 have z:=HO.lst.inj (Option.some.inj q)
 rw[<-z]at f
 cases f
theorem Its.same(h:Its H L)(s:Same H H'):Its H' L:=fun v hv=>(h v hv).same s
theorem Its.cons(h:Its H L)(s:Same H H')(i:ItT H' v):Its H' (v::L):=fun u hu=>by
 rcases List.mem_cons.mp hu with rfl | q
 ·exact i
 ·exact(h u q).same s
theorem Its.app(h:Its H xs)(g:Its H ys):Its H (xs++ys):=fun v hv=>(List.mem_append.mp hv).elim (h v) (g v)
theorem Its.cut(h:Its H xs)(lo hi:Option Int):Its H (cutV xs lo hi):=fun v hv=>h v (List.mem_of_mem_drop (List.mem_of_mem_take hv))
theorem itT_tup{p:Addr}(e:H p=some (.tup xs))(f:xs.all flatV=true):ItT H (.ref p):=.inr ⟨p,xs,rfl,.inl e,f⟩
theorem itT_lst{p:Addr}(e:H p=some (.lst xs))(f:xs.all flatV=true):ItT H (.ref p):=.inr ⟨p,xs,rfl,.inr e,f⟩
theorem PW.its(h:PW H a ps):Its H (ps.map V.ref):=fun v hv=>by
 obtain⟨p,hp,rfl⟩:=List.mem_map.mp hv
 obtain⟨i,j,e,_⟩:=h.at_ p hp
 exact itT_tup e rfl
theorem q_tuple{p:Addr}(hp:H p=some (.lst ys))(h:∀l H',H l=none->H' l=some (.tup ys)->Same H H'->Q (.ref l) H'):qTuple [.ref p] H Q:=by
 unfold qTuple
 simp only[hp]
 exact fun l hl=>h l _ hl upd_same (same_new hl)
theorem q_catT{K:Fg}{p q:Addr}(hp:H p=some (.tup xs))(hq:H q=some (.tup ys))(hx:xs≠[])(hy:ys≠[])(hl:xs.length+ys.length<=100)(h:∀l H',H l=none->H' l=some (.tup (xs++ys))->Same H H'->Q (.ref l) H'):rCatT K (.ref p) (.ref q) H Q:=
 ⟨p,q,xs,ys,rfl,rfl,SqT.of hp,SqT.of hq,hx,Nat.le_trans hl (by rw[PySem.sizeLine_eq];decide),fun z=>absurd z hy,fun _ l hl=>h l _ hl upd_same (same_new hl)⟩
theorem WT.three{z:Addr}{ws:List V}{lo1 hi1 lo2 hi2:Option Int}(e:H z=some (.lst (cutV ws lo1 hi1++[v]++cutV ws lo2 hi2)))(h:Its H ws)(hv:ItT H v)(l:ws.length<=420):WT H (.ref z):=.lst e ((Its.app (h.cut _ _) (fun u hu=>by rw[List.mem_singleton.mp hu];exact hv)).app (h.cut _ _)) (by
 have:=cutV_length ws lo1 hi1
 have:=cutV_length ws lo2 hi2
 simp only[List.length_append,List.length_singleton]
 omega)
end
theorem spoilt_ok{K:Fg}{H:Hp}{b d w:Addr}{ps:List Addr}{m:Int}{Q:VK}{E:XK}(hB:Bag H b d)(hw:PW H w ps)(hl:ps.length<=420)(m0:0<m)(m1:m<=400)
  (k:∀v H',WT H' v->Bag H' b d->Kept b H H'->Q v H'):sp_spoilt K [.ref b,.ref w,.int m] H Q E:=by
 have lm:(ps.map V.ref).length<=420:=by rw[List.length_map];exact hl
 refine⟨rfl,?_⟩
 unfold t_spoilt
 nofun
 refine q_lenL hw.h ?_
 rw[List.length_map]
 ext
 exists take_ok hB (by omega) (by omega) fun at_ H1 a0 a1 B1 k1=>?_
 nofun
 exists take_ok B1 (by decide) (by decide) fun kd H2 b0 b1 B2 k2=>?_
 nofun
 exists take_ok B2 (by omega) (by omega) fun n3 H3 c0 c1 B3 k3=>?_
 exists take_ok B3 (by decide) (by decide) fun n4 H4 d0 d1 B4 k4=>?_
 exists new_i (by simp) fun st H5 hst e5 s5=>?_
 have k05:=(((k1.trans k2).trans k3).trans k4).trans (Kept.of_same s5)
 have B5:=B4.same s5
 have P5:=hw.kept hB k05
 have I5:=P5.its
 have J5:ItT H5 (.ref st):=itT_tup e5 rfl
 nofun
 refine ite2 (fun _=>?_) (fun _=>?_)
 ·ext
  exists q_slL P5.h fun p1 H6 h6 e6 s6=>?_
  refine new_i (by simp) fun p2 H7 h7 e7 s7=>?_
  have c1:=cutV_length (ps.map V.ref) none (some at_)
  refine q_addL (s7 _ _ e6) e7 ?_
  exists new_i (by simp only[List.length_singleton];omega) fun p3 H8 h8 e8 s8=>?_
  have s58:=(s6.trans s7).trans s8
  refine q_slL (s58 _ _ P5.h) fun p4 H9 h9 e9 s9=>?_
  have c2:=cutV_length (ps.map V.ref) (some at_) none
  refine q_addL (s9 _ _ e8) e9 ?_
  refine new_i (by simp only[List.length_append,List.length_singleton];omega) fun p5 H10 h10 e10 s10=>?_
  have s510:=(s58.trans s9).trans s10
  exact k _ _ (WT.three e10 (I5.same s510) (J5.same s510) lm) (B5.same s510) (k05.trans (Kept.of_same s510))
 ext
 nofun
 refine ite2 (fun _=>?_) (fun _=>?_)
 ·ext
  exists q_slL P5.h fun p1 H6 h6 e6 s6=>?_
  refine q_slL (s6 _ _ P5.h) fun p4 H9 h9 e9 s9=>?_
  have c1:=cutV_length (ps.map V.ref) none (some at_)
  have c2:=cutV_length (ps.map V.ref) (some (at_+1)) none
  refine q_addL (s9 _ _ e6) e9 ?_
  refine new_i (by omega) fun p5 H10 h10 e10 s10=>?_
  have s510:=(s6.trans s9).trans s10
  have I10:=I5.same s510
  exact k _ _ (.lst e10 ((I10.cut _ _).app (I10.cut _ _)) (by rw[List.length_append];omega)) (B5.same s510) (k05.trans (Kept.of_same s510))
 ext
 nofun
 refine ite2 (fun _=>?_) (fun _=>?_)
 ·ext
  exists q_slL P5.h fun p1 H6 h6 e6 s6=>?_
  refine new_i (by simp) fun p2 H7 h7 e7 s7=>?_
  have c1:=cutV_length (ps.map V.ref) none (some at_)
  refine q_addL (s7 _ _ e6) e7 ?_
  exists new_i (by simp only[List.length_singleton];omega) fun p3 H8 h8 e8 s8=>?_
  have s58:=(s6.trans s7).trans s8
  refine q_slL (s58 _ _ P5.h) fun p4 H9 h9 e9 s9=>?_
  have c2:=cutV_length (ps.map V.ref) (some (at_+1)) none
  refine q_addL (s9 _ _ e8) e9 ?_
  refine new_i (by simp only[List.length_append,List.length_singleton];omega) fun p5 H10 h10 e10 s10=>?_
  have s510:=(s58.trans s9).trans s10
  exact k _ _ (WT.three e10 (I5.same s510) (J5.same s510) lm) (B5.same s510) (k05.trans (Kept.of_same s510))
 ext
 nofun
 refine ite2 (fun _=>?_) (fun _=>?_)
 ·ext
  exists new_i (by simp) fun p1 H6 h6 e6 s6=>?_
  exists new_i (by simp) fun p2 H7 h7 e7 s7=>?_
  have s57:=s6.trans s7
  refine q_addL e7 (s57 _ _ P5.h) ?_
  refine new_i (by simp only[List.length_singleton];omega) fun p3 H8 h8 e8 s8=>?_
  have s58:=s57.trans s8
  exact k _ _ (.lst e8 (Its.app (fun u hu=>by rw[List.mem_singleton.mp hu];exact itT_tup (s8 _ _ (s7 _ _ e6)) rfl) (I5.same s58)) (by simp only[List.length_append,List.length_singleton];omega)) (B5.same s58) (k05.trans (Kept.of_same s58))
 ext
 nofun
 refine ite2 (fun _=>?_) (fun _=>?_)
 ·ext
  exists q_tuple P5.h fun p1 H6 h6 e6 s6=>?_
  exists s_dnew fun p2 H7 h7 e7 s7=>?_
  exists new_i (by simp) fun p3 H8 h8 e8 s8=>?_
  exists new_i (by simp) fun p4 H9 h9 e9 s9=>?_
  have s69:=(s7.trans s8).trans s9
  have s59:=s6.trans s69
  have B9:=B5.same s59
  exists take_ok B9 (by decide) (by decide) fun n10 H10 f0 f1 B10 k10=>?_
  have n2:p2≠b:=(B5.nb (s6.free h7)).1
  have n3:p3≠b:=(B5.nb ((s6.trans s7).free h8)).1
  have n4:p4≠b:=(B5.nb (((s6.trans s7).trans s8).free h9)).1
  obtain⟨v,v1,v2⟩:=atI_of (xs:=[V.non,.ref p1,.str "way", .ref p2,.int 0,.ref p3]) f0 f1
  refine q_ixL (k10.1 _ _ e9 n4) v1 ?_
  obtain⟨bs,hb⟩:=B9.lst
  refine k _ _ ?_ B10 ((k05.trans (Kept.of_same s59)).trans k10)
  have:=mI v2
  simp only[List.mem_cons,List.not_mem_nil,or_false]at this
  rcases this with rfl | rfl | rfl | rfl | rfl | rfl
  ·exact .non
  ·exact .tup (k10.tup hb (s69 _ _ e6)) fun v hv=>((I5 v hv).same s59).kept B9 k10
  ·exact .str
  ·exact .dict (k10.1 _ _ (s9 _ _ (s8 _ _ e7)) n2)
  ·exact .int
  ·exact .lst (k10.1 _ _ (s9 _ _ e8) n3) (fun v hv=>by cases hv) (by simp)
 ext
 nofun
 refine q_lenL P5.h ?_
 rw[List.length_map]
 ext
 refine ite2 (fun hlt=>?_) (fun _=>?_)
 ·have hlt:at_<(ps.length:Int):=of_decide_eq_true hlt
  obtain⟨p,hp⟩:∃p,ps[at_.toNat]? = some p:=⟨_,List.getElem?_eq_getElem (by omega)⟩
  obtain⟨i,j,ep,i0,i1⟩:=P5.at_ p (mI hp)
  have ix:atI (ps.map V.ref) at_=some (.ref p):=by
   have:atI (ps.map V.ref) ((at_.toNat:Nat):Int)=some (.ref p):=atI_nat (by rw[List.getElem?_map,hp];rfl)
   rwa [show((at_.toNat:Nat):Int)=at_ by omega]at this
  nofun
  refine q_ixL P5.h ix ?_
  refine s_gpair (SqT.of ep) ?_
  nofun
  exists q_ixL P5.h ix ?_
  refine q_list ep fun o1 G1 g1 q1 t1=>?_
  have J1:Its G1 [.ref o1]:=Its.cons (L:=[]) (fun v hv=>by cases hv) t1 (itT_lst q1 rfl)
  ext
  exists q_ixL (t1 _ _ P5.h) ix ?_
  refine new_i (by simp) fun x2 G2 g2 q2 t2=>?_
  have u2:=t1.trans t2
  refine q_catT (u2 _ _ ep) q2 (by simp) (by simp) (by simp) fun o2 G3 g3 q3 t3=>?_
  have J3:=J1.cons (t2.trans t3) (itT_tup q3 rfl)
  have u3:=u2.trans t3
  ext
  refine new_i (by simp) fun o3 G4 g4 q4 t4=>?_
  have J4:=J3.cons t4 (itT_tup q4 rfl)
  ext
  refine new_i (by simp) fun o4 G5 g5 q5 t5=>?_
  have J5':=J4.cons t5 (itT_tup q5 rfl)
  have u5:=(u3.trans t4).trans t5
  ext
  exists q_ixL (u5 _ _ P5.h) ix ?_
  refine q_slT (u5 _ _ ep) (show ¬(HT.sIx 2 0 none=0/\HT.sIx 2 2 (some 1)=2) by decide) fun o5 G6 g6 q6 t6=>?_
  have J6:=J5'.cons t6 (itT_tup q6 rfl)
  ext
  refine new_i (by simp) fun o6 G7 g7 q7 t7=>?_
  have J7:=((J6.cons (Same.refl _) (v:=.non) (.inl rfl)).cons (Same.refl _) (v:=.int 0) (.inl rfl)).cons t7 (itT_tup q7 rfl)
  ext
  exists new_i (by simp) fun od G8 g8 q8 t8=>?_
  have J8:=J7.same t8
  have u8:=((u5.trans t6).trans t7).trans t8
  nofun
  refine new_i (by simp) fun o9 G9 g9 q9 t9=>?_
  have J9:=J8.cons t9 (itT_tup q9 rfl)
  ext
  refine new_i (by simp) fun o10 G10 g10 q10 t10=>?_
  have J10:=J9.cons t10 (itT_tup q10 rfl)
  ext
  refine new_i (by simp) fun o11 G11 g11 q11 t11=>?_
  have J11:=J10.cons t11 (itT_tup q11 rfl)
  ext
  refine new_i (by simp) fun o12 G12 g12 q12 t12=>?_
  have J12:=J11.cons t12 (itT_tup q12 rfl)
  ext
  refine new_i (by simp) fun o13 G13 g13 q13 t13=>?_
  have J13:=J12.cons t13 (itT_tup q13 rfl)
  ext
  exists (show qStrI [.int i] G13 _ from⟨by omega,fun y=>?_⟩)
  refine new_i (by simp) fun o14 G14 g14 q14 t14=>?_
  have J14:=J13.cons t14 (itT_tup q14 rfl)
  ext
  exists new_i (by simp) fun m15 G15 g15 q15 t15=>?_
  have t9_15:=(((((t9.trans t10).trans t11).trans t12).trans t13).trans t14).trans t15
  refine q_addL (t9_15 _ _ q8) q15 ?_
  exists new_i (by simp) fun od2 G16 g16 q16 t16=>?_
  have J16:=(J14.same t15).same t16
  have u16:=(u8.trans t9_15).trans t16
  have B16:=B5.same u16
  have nod:od2≠b:=(B5.nb ((u8.trans t9_15).free g16)).1
  ext
  exists q_slL (u16 _ _ P5.h) fun p1 H6 h6 e6 s6=>?_
  have B6:=B16.same s6
  have n1:p1≠b:=(B16.nb h6).1
  exists take_ok B6 (by decide) (by decide) fun n7 H7 f0 f1 B7 k7=>?_
  obtain⟨v,v1,v2⟩:=atI_of (xs:=[V.ref o1,.ref o2,.ref o3,.ref o4,.ref o5,.non,.int 0,.ref o6]++[V.ref o9,.ref o10,.ref o11,.ref o12,.ref o13,.ref o14]) f0 f1
  refine q_ixL (k7.1 _ _ (s6 _ _ q16) nod) v1 ?_
  have iv:ItT H7 v:=((J16 v (List.mem_reverse.mp (mI v2))).same s6).kept B6 k7
  ext
  refine new_i (by simp) fun p2 H8 h8 e8 s8=>?_
  have c1:=cutV_length (ps.map V.ref) none (some at_)
  refine q_addL (s8 _ _ (k7.1 _ _ e6 n1)) e8 ?_
  exists new_i (by simp only[List.length_singleton];omega) fun p3 H9 h9 e9 s9=>?_
  have P7:=(P5.same (u16.trans s6)).kept B6 k7
  have s79:=s8.trans s9
  refine q_slL (s79 _ _ P7.h) fun p4 H10 h10 e10 s10=>?_
  have c2:=cutV_length (ps.map V.ref) (some (at_+1)) none
  refine q_addL (s10 _ _ e9) e10 ?_
  refine new_i (by simp only[List.length_append,List.length_singleton];omega) fun p5 H11 h11 e11 s11=>?_
  have s711:=(s79.trans s10).trans s11
  exact k _ _ (WT.three e11 ((P7.same s711).its) (iv.same s711) lm) (B7.same s711) (((k05.trans (Kept.of_same (u16.trans s6))).trans k7).trans (Kept.of_same s711))
 ext
 refine q_slL P5.h fun p4 H9 h9 e9 s9=>?_
 have c2:=cutV_length (ps.map V.ref) (some (-1)) none
 refine q_addL (s9 _ _ P5.h) e9 ?_
 refine new_i (by omega) fun p5 H10 h10 e10 s10=>?_
 have s510:=s9.trans s10
 have I10:=I5.same s510
 exact k _ _ (.lst e10 (I10.app (I10.cut _ _)) (by rw[List.length_append];omega)) (B5.same s510) (k05.trans (Kept.of_same s510))
end RD
namespace RD
open PySem PySem.Spec L2
theorem make_plan{K:Fg}{c:Cn}{H:Hp}{ra na:Addr}{N:Nt}{σ:St}{i j:Nat}{Q:VK}(ck:CnOk K c)(hr:RowsAt H ra N)(hn:NetAt H na N)(hv:Valid N)(hi:σ[i]? = some (some (.ref ra)))(hj:σ[j]? = some (some (.ref na)))
  (k:∀x H',PlanAt K c H' x N->Same H H'->Q (.ref x) H'):tMake c.C_Plan (sp_Plan_init K c) [] E0 (tCons (tVar i) (tCons (tVar j) tNil)) σ H Q:=by
 with_reducible refine s_make ?_
 with_reducible refine s_cons ?_
 with_reducible refine s_var hi ?_
 with_reducible refine s_cons ?_
 with_reducible refine s_var hj ?_
 with_reducible refine s_nil ?_
 intro x dx hx hdx hne
 have sm:Same H (upd (upd H dx (.own x)) x (.ins c.C_Plan dx [])):=fun b o e=>by
  rw[upd_ne (ne_of_none e hx),upd_ne (ne_of_none e hdx)];exact e
 obtain⟨rs,hrs,_⟩:=id hr.ex
 refine plan_init_ok ck (sm _ _ hrs) (hr.same sm) (hn.same sm) hv upd_same fun H' hp old=>⟨rfl,k x H' hp.at fun b o e=>old b o (sm b o e) (ne_of_none e hx)⟩
end RD
namespace RD
open PySem PySem.Spec L2
theorem law_reading(K:Fg){H:Hp}{a:Addr}{ns:List Int}(hl:ns.length<=63)(hO:Only H)(hS:SqL K H a (ns.map V.int)):sp_law K [.ref a] H (fun v _=>v=.bl true) (fun _ _ _=>False):=by
 refine⟨rfl,fun c ck=>?_⟩
 unfold t_law
 nofun
 exists bag_ok hS hl fun b d H1 B1 s1 _=>?_
 nofun
 refine drawn_ok B1 fun p1 r1 n1 N H2 e2 R2 T2 hv _ B2 k2=>?_
 refine s_gpair (SqT.of e2) ?_
 have h400:=hv.le
 have pos:=hv.pos
 nofun
 exists make_plan ck R2 T2 hv rfl rfl fun x H3 X3 s3=>?_
 nofun
 exists new_i (by simp) fun z H4 hz e4 s4=>?_
 exists places_any (S:=[]) ck (X3.same s4) e4 ⟨rfl,(fun i v s e=>by cases e),fun i u w e=>by cases e⟩ (by simp) fun D H5 hD e5 s5=>?_
 nofun
 exists q_isi (s := "list") (by simp only[tyName,e5]) (by decide) ?_
 exists iteF' (by decide) ?_
 refine new_i (by simp) fun z6 H6 hz6 e6 s6=>?_
 refine⟨_,eqO_lst (s6 _ _ e5) e6 rfl rfl,?_⟩
 rw[flatEq_nil]
 ext
 exists iteF' rfl ?_
 have s26:=((s3.trans s4).trans s5).trans s6
 have B6:=B2.same s26
 have X6:PlanAt K c H6 x N:=((X3.same s4).same s5).same s6
 have T6:=T2.same s26
 with_reducible refine s_seq ?_
 specialize s_for (s_rng1 ?_)
 refine⟨4,rfl,by decide,by decide,?_⟩
 refine for_range (n:=4) (fun i σ H7=>∃y6 y7,σ=[some (.ref a),some (.ref b),some (.ref r1),some (.ref n1),some (.ref x),some (.ref D),y6,y7]/\Bag H7 b d/\Kept b H6 H7) ⟨_,_,rfl,B6,Kept.refl _ _⟩ ?_ ?_
 ·rintro i _ H7 hi ⟨y6,y7,rfl,B7,k7⟩
  rw[Int.zero_add]
  ext
  have X7:=X6.kept B6 hv.two k7
  have T7:=T6.kept B6 hv.two k7
  nofun
  refine walk_ok B7 T7 hv fun w ps H8 P8 l8 B8 k8=>?_
  have k68:=k7.trans k8
  have X8:=X6.kept B6 hv.two k68
  have T8:=T6.kept B6 hv.two k68
  ext
  exists asked_ok ck X8 T8 hv (.lst P8.h P8.its (by rw[List.length_map];omega)) fun H9 s9=>?_
  exists iteF' rfl ?_
  have k69:=k68.trans (Kept.of_same s9)
  obtain⟨as,hna,las,_⟩:=id (T8.same s9).ex
  refine q_lenL hna ?_
  rw[List.length_map,las]
  ext
  exists spoilt_ok (B8.same s9) (P8.same s9) l8 (by omega) (by omega) fun v H10 w10 B10 k10=>?_
  have k610:=k69.trans k10
  exists asked_ok ck (X6.kept B6 hv.two k610) (T6.kept B6 hv.two k610) hv w10 fun H11 s11=>?_
  exists iteF' rfl ?_
  exact⟨_,_,rfl,B10.same s11,k610.trans (Kept.of_same s11)⟩
 ·rintro _ H7 ⟨y6,y7,rfl,B7,k7⟩
  ext
  rfl
end RD
set_option maxHeartbeats 0
namespace PR
open PySem L2 RD
section
def top(i:Nat):Stmt:=PySem.Challenge.pw_oncedone_k24_ways_known.main.body.getD i (.Pass ⟨0,0,0,0⟩)
abbrev s_bag:Stmt:=top 40
abbrev s_take:Stmt:=top 41
abbrev s_net:Stmt:=top 49
abbrev s_mended:Stmt:=top 50
abbrev s_name:Stmt:=top 43
abbrev s_names:Stmt:=top 44
abbrev s_value:Stmt:=top 45
abbrev s_operand:Stmt:=top 46
abbrev s_deed:Stmt:=top 47
abbrev s_row:Stmt:=top 48
abbrev s_drawn:Stmt:=top 51
abbrev s_Plan_leads_to:Stmt:=inClass (top 33) 2
abbrev s_places_of:Stmt:=top 38
abbrev s_shortest:Stmt:=top 54
abbrev s_walk:Stmt:=top 55
abbrev s_whole:Stmt:=top 42
abbrev s_step:Stmt:=top 52
abbrev s_places:Stmt:=top 53
abbrev s_is_whole:Stmt:=top 13
abbrev s_is_below:Stmt:=top 21
abbrev s_is_step:Stmt:=top 35
abbrev s_is_way:Stmt:=top 36
abbrev s_is_whole_way:Stmt:=top 37
abbrev s_asked:Stmt:=top 57
abbrev s_spoilt:Stmt:=top 56
abbrev s_check_length:Stmt:=top 22
abbrev s_is_name:Stmt:=top 15
abbrev s_is_value:Stmt:=top 14
abbrev s_is_operand:Stmt:=top 16
abbrev s_is_deed:Stmt:=top 17
abbrev s_is_row:Stmt:=top 18
abbrev s_check_each:Stmt:=top 23
abbrev s_are_nexts:Stmt:=top 26
abbrev s_check_nexts:Stmt:=top 27
abbrev s_reached:Stmt:=top 30
abbrev s_turned:Stmt:=top 29
abbrev s_stops_of:Stmt:=top 28
abbrev s_check_ways:Stmt:=top 31
abbrev s_steps_of:Stmt:=top 32
abbrev s_Plan_init:Stmt:=inClass (top 33) 0
abbrev s_law:Stmt:=top 58
structure Txt(K:Fg)(mg:Str->Option Value)(c:Cn):Prop where
 b_abs:mg "abs" = none
 b_all:mg "all" = none
 b_any:mg "any" = none
 b_bool:mg "bool" = none
 b_enumerate:mg "enumerate" = none
 b_int:mg "int" = none
 b_isinstance:mg "isinstance" = none
 b_len:mg "len" = none
 b_list:mg "list" = none
 b_min:mg "min" = none
 b_range:mg "range" = none
 b_sorted:mg "sorted" = none
 b_str:mg "str" = none
 b_tuple:mg "tuple" = none
 b_zip:mg "zip" = none
 g_BOUND:∃u,mg "BOUND" = some u/\RelV (.int 1000000000000) u
 g_DEED_KINDS:∃u,mg "DEED_KINDS" = some u/\RelV (.ref c.k_DEED_KINDS) u
 g_FIGURES:∃u,mg "FIGURES" = some u/\RelV (.str "0123456789") u
 g_FIRST_STEP:∃u,mg "FIRST_STEP" = some u/\RelV (.ref c.k_FIRST_STEP) u
 g_LETTERS:∃u,mg "LETTERS" = some u/\RelV (.str "abcdefghijklmnopqrstuvwxyz") u
 g_LONGEST_NAME:∃u,mg "LONGEST_NAME" = some u/\RelV (.int 8) u
 g_MOST:∃u,mg "MOST" = some u/\RelV (.int 400) u
section
variable {P:Program}{w:World}{K:Fg}{mg:Str->Option Value}{base:Heap}{c:Cn}
theorem sc_bag:FnScope ["_law_script"] ["_law_script"] (defScope s_bag):=by walk_at "sc"
theorem cc_bag_0:CompOk ["_law_script"] (defScope s_bag) ({ kind:=.function,names:=[ (".0", .local),("_law_cell", .local),("abs", .globalImplicit)],isGenerator:=false,isCoroutine:=false,more:=[]:PySem.Scope }) "_law_cell" := ⟨rfl,by decide +kernel,by decide +kernel,rfl,by decide +kernel,by decide +kernel,rfl,by decide +kernel⟩
theorem ok_bag{f:Addr}{fd:FuncData}(F:Fun K "_law_bag" "_law_bag" s_bag f fd)(T:Txt K mg c)    : FnOk P w K mg base CX0 1 f fd ["_law_script"] (sp_bag K):=by
 refine Y.fun_ok F sc_bag (fun vs H Q E h=>h.1) (fun cdv A outer s H vs Q E hr h=>⟨t_bag K,?_,h.2⟩)
 have nd:=sc_bag.nd
 exact Y.pss_one (Y.ps_ret (Y.pe_lst (Y.pa4 (Y.pe_int) (Y.pe_int) (Y.pe_int) (Y.pe_comp cc_bag_0 rfl (Y.pi_list (Y.pe_slice Y.sl_list (Y.pv 0) (Y.po_none) (Y.po_some (Y.pe_int)))) (fun _ _ _ _ _=>Y.pts_nil) (fun _ _ _ _ _=>Y.pe_callB Y.call_qabs rfl T.b_abs PyProof.Rows.boot_abs (Y.pa1 (Y.pv 0)))))))
theorem sc_take:FnScope ["_law_bag_here", "_law_many", "_law_more", "_law_cell", "_law_value_here", "_law_first", "_law_second"] ["_law_bag_here", "_law_many"] (defScope s_take):=by walk_at "sc"
theorem ok_take{f:Addr}{fd:FuncData}(F:Fun K "_law_take" "_law_take" s_take f fd)(T:Txt K mg c)    : FnOk P w K mg base CX0 1 f fd ["_law_bag_here", "_law_many"] (sp_take K):=by
 refine Y.fun_ok F sc_take (fun vs H Q E h=>h.1) (fun cdv A outer s H vs Q E hr h=>⟨t_take K,?_,h.2⟩)
 have nd:=sc_take.nd
 exact Y.pss_cons (Y.ps_if (Y.pt_c (Y.op_qeq hr) (Y.pe_x (Y.pv 0) (Y.pe_int)) (Y.pe_int)) (Y.pss_cons (Y.ps_s 2 nd (Y.pe_int)) (Y.pss_cons (Y.ps_if (Y.pt_c Y.op_qlt (Y.pe_x (Y.pv 0) (Y.pe_int)) (Y.pe_callB Y.call_qlen rfl T.b_len PySem.boot_len (Y.pa1 (Y.pe_x (Y.pv 0) (Y.pe_int))))) (Y.pss_cons (Y.ps_s 3 nd (Y.pe_x (Y.pe_x (Y.pv 0) (Y.pe_int)) (Y.pe_x (Y.pv 0) (Y.pe_int)))) (Y.pss_cons (Y.ps_augS (Y.pv 0) (Y.pe_int) Y.get_q (Y.pe_int) Y.ip_add Y.set_q) (Y.pss_cons (Y.ps_if (Y.pt_c Y.op_qge (Y.pv 3) (Y.pe_int)) (Y.pss_one (Y.ps_asg (Y.pv 3) (Y.pg_sub (Y.pv 0) (Y.pe_int) Y.set_q))) (Y.pss_nil)) (Y.pss_one (Y.ps_s 2 nd (Y.pe_op Y.op_qadd (Y.pe_op Y.op_qmod (Y.pv 3) (Y.pe_int)) (Y.pe_int))))))) (Y.pss_nil)) (Y.pss_one (Y.ps_asg (Y.pe_op Y.op_qmod (Y.pe_op Y.op_qadd (Y.pe_op Y.op_qmul (Y.pe_x (Y.pv 0) (Y.pe_int)) (Y.pe_int)) (Y.pv 2)) (Y.pe_int)) (Y.pg_sub (Y.pv 0) (Y.pe_int) Y.set_q))))) (Y.pss_nil)) (Y.pss_cons (Y.ps_if (Y.pt_c Y.op_qgt (Y.pe_x (Y.pv 0) (Y.pe_int)) (Y.pe_int)) (Y.pss_cons (Y.ps_s 4 nd (Y.pe_op Y.op_qmod (Y.pe_x (Y.pv 0) (Y.pe_int)) (Y.pv 1))) (Y.pss_cons (Y.ps_asg (Y.pe_op Y.op_qdiv (Y.pe_x (Y.pv 0) (Y.pe_int)) (Y.pv 1)) (Y.pg_sub (Y.pv 0) (Y.pe_int) Y.set_q)) (Y.pss_one (Y.ps_ret (Y.pv 4))))) (Y.pss_nil)) (Y.pss_cons (Y.ps_s 5 nd (Y.pe_op Y.op_qmod (Y.pe_op Y.op_qmul (Y.pe_x (Y.pv 0) (Y.pe_int)) (Y.pe_int)) (Y.pe_int))) (Y.pss_cons (Y.ps_s 6 nd (Y.pe_op Y.op_qmod (Y.pe_op Y.op_qmul (Y.pv 5) (Y.pe_int)) (Y.pe_int))) (Y.pss_cons (Y.ps_if (Y.pt_c Y.op_qgt (Y.pv 1) (Y.pe_int)) (Y.pss_one (Y.ps_ret (Y.pe_op Y.op_qmod (Y.pe_op Y.op_qadd (Y.pe_op Y.op_qmul (Y.pv 6) (Y.pe_int)) (Y.pv 5)) (Y.pv 1)))) (Y.pss_nil)) (Y.pss_one (Y.ps_ret (Y.pe_op Y.op_qmod (Y.pe_op Y.op_qdiv (Y.pv 6) (Y.pe_int)) (Y.pv 1))))))))
theorem sc_net:FnScope ["_law_bag_here", "_law_many", "_law_nexts", "_law_k", "_law_near", "_law_some", "_law_way"] ["_law_bag_here", "_law_many"] (defScope s_net):=by walk_at "sc"
theorem ok_net{f:Addr}{fd:FuncData}(F:Fun K "_law_net" "_law_net" s_net f fd)(T:Txt K mg c)(c_take:Callee P w K mg base 1 "_law_take" ["_law_bag_here", "_law_many"] (sp_take K))   : FnOk P w K mg base CX0 2 f fd ["_law_bag_here", "_law_many"] (sp_net K):=by
 refine Y.fun_ok F sc_net (fun vs H Q E h=>h.1) (fun cdv A outer s H vs Q E hr h=>⟨t_net K,?_,h.2⟩)
 have nd:=sc_net.nd
 exact Y.pss_cons (Y.ps_s 2 nd (Y.pe_lst (Y.pa_nil))) (Y.pss_cons (Y.ps_for PassesOwn.never rfl (Y.pi_range1 rfl T.b_range (Y.pa1 (Y.pv 1))) (Y.pg_n 3 nd) (Y.pss_cons (Y.ps_s 4 nd (Y.pe_callB (Y.call_qmin rfl) rfl T.b_min PyProof.Rows.boot_min (Y.pa2 (Y.pe_op Y.op_qadd (Y.pv 3) (Y.pe_int)) (Y.pe_op Y.op_qsub (Y.pv 1) (Y.pe_int))))) (Y.pss_cons (Y.ps_s 5 nd (Y.pe_lst (Y.pa2 (Y.pv 4) (Y.pe_w c_take hr (Y.pa2 (Y.pv 0) (Y.pv 1)))))) (Y.pss_cons (Y.ps_s 6 nd (Y.pe_w c_take hr (Y.pa2 (Y.pv 0) (Y.pe_int)))) (Y.pss_cons (Y.ps_if (Y.pt_c Y.op_qlt (Y.pv 6) (Y.pe_int)) (Y.pss_one (Y.ps_s 5 nd (Y.pe_lst (Y.pa2 (Y.pe_x (Y.pv 5) (Y.pe_int)) (Y.pv 4))))) (Y.pss_nil)) (Y.pss_cons (Y.ps_if (Y.pt_c (Y.op_qeq hr) (Y.pv 6) (Y.pe_int)) (Y.pss_one (Y.ps_s 5 nd (Y.pe_lst (Y.pa2 (Y.pe_x (Y.pv 5) (Y.pe_int)) (Y.pe_w c_take hr (Y.pa2 (Y.pv 0) (Y.pv 1))))))) (Y.pss_nil)) (Y.pss_cons (Y.ps_if (Y.pw_pt (Y.pw_or (Y.pw_pt (Y.pw_and (Y.pt_c Y.op_qgt (Y.pv 6) (Y.pe_int)) (Y.pw_and1 (Y.pt_c Y.op_qlt (Y.pv 6) (Y.pe_int))))) (Y.pw_or1 (Y.pt_c (Y.op_qeq hr) (Y.pv 1) (Y.pe_int))))) (Y.pss_one (Y.ps_s 5 nd (Y.pe_lst (Y.pa1 (Y.pv 4))))) (Y.pss_nil)) (Y.pss_cons (Y.ps_if (Y.pw_pt (Y.pw_and (Y.pt_c (Y.op_qeq hr) (Y.pv 6) (Y.pe_int)) (Y.pw_and1 (Y.pt_c Y.op_qgt (Y.pv 1) (Y.pe_int))))) (Y.pss_one (Y.ps_s 5 nd (Y.pe_lst (Y.pa1 (Y.pe_x (Y.pv 5) (Y.pe_int)))))) (Y.pss_nil)) (Y.pss_cons (Y.ps_if (Y.pw_pt (Y.pw_or (Y.pt_c (Y.op_qeq hr) (Y.pv 3) (Y.pe_op Y.op_qsub (Y.pv 1) (Y.pe_int))) (Y.pw_or1 (Y.pw_pt (Y.pw_and (Y.pt_c (Y.op_qeq hr) (Y.pv 6) (Y.pe_int)) (Y.pw_and1 (Y.pt_c (Y.op_qeq hr) (Y.pe_w c_take hr (Y.pa2 (Y.pv 0) (Y.pe_int))) (Y.pe_int)))))))) (Y.pss_one (Y.ps_s 5 nd (Y.pe_lst (Y.pa_nil)))) (Y.pss_nil)) (Y.pss_one (Y.ps_expr (Y.pe_bm PySem.F.plainAttrs_list PySem.F.slot_list_append PySem.F.type_list_append Y.mt_qappend (Y.pv 2) (Y.pa1 (Y.pv 5)))))))))))))) (Y.pss_one (Y.ps_ret (Y.pv 2))))
theorem sc_mended:FnScope ["_law_nexts", "_law_good", "_law_turn", "_law_k", "_law_reached", "_law_one", "_law_order"] ["_law_nexts"] (defScope s_mended):=by walk_at "sc"
theorem cc_mended_0:CompOk ["_law_nexts", "_law_good", "_law_turn", "_law_k", "_law_reached", "_law_one", "_law_order"] (defScope s_mended) ({ kind:=.function,names:=[ (".0", .local),("_law_one", .local),("_law_good", .free)],isGenerator:=false,isCoroutine:=false,more:=[]:PySem.Scope }) "_law_one" := ⟨rfl,by decide +kernel,by decide +kernel,rfl,by decide +kernel,by decide +kernel,rfl,by decide +kernel⟩
theorem cc_mended_1:CompOk ["_law_nexts", "_law_good", "_law_turn", "_law_k", "_law_reached", "_law_one", "_law_order"] (defScope s_mended) ({ kind:=.function,names:=[ (".0", .local),("_law_k", .local),("len", .globalImplicit),("_law_good", .free),("_law_nexts", .free)],isGenerator:=false,isCoroutine:=false,more:=[]:PySem.Scope }) "_law_k" := ⟨rfl,by decide +kernel,by decide +kernel,rfl,by decide +kernel,by decide +kernel,rfl,by decide +kernel⟩
theorem cc_mended_2:CompOk ["_law_nexts", "_law_good", "_law_turn", "_law_k", "_law_reached", "_law_one", "_law_order"] (defScope s_mended) ({ kind:=.function,names:=[ (".0", .local),("_law_k", .local),("_law_nexts", .free),("_law_order", .free)],isGenerator:=false,isCoroutine:=false,more:=[]:PySem.Scope }) "_law_k" := ⟨rfl,by decide +kernel,by decide +kernel,rfl,by decide +kernel,by decide +kernel,rfl,by decide +kernel⟩
theorem cc_mended_3(env:Env):CompOk ["_law_k", "_law_nexts", "_law_good", "_law_turn", "._law_k", "_law_reached", "_law_one", "_law_order"] (relabel ({ kind:=.function,names:=[ (".0", .local),("_law_k", .local),("_law_nexts", .free),("_law_order", .free)],isGenerator:=false,isCoroutine:=false,more:=[]:PySem.Scope }) env) ({ kind:=.function,names:=[ (".0", .local),("_law_one", .local),("_law_order", .free)],isGenerator:=false,isCoroutine:=false,more:=[]:PySem.Scope }) "_law_one" := ⟨rfl,by decide +kernel,by decide +kernel,rfl,fr_nest (by decide +kernel),by decide +kernel,rfl,by decide +kernel⟩
theorem ok_mended{f:Addr}{fd:FuncData}(F:Fun K "_law_mended" "_law_mended" s_mended f fd)(T:Txt K mg c)    : FnOk P w K mg base CX0 1 f fd ["_law_nexts"] (sp_mended K):=by
 refine Y.fun_ok F sc_mended (fun vs H Q E h=>h.1) (fun cdv A outer s H vs Q E hr h=>⟨t_mended K,?_,h.2⟩)
 have nd:=sc_mended.nd
 exact Y.pss_cons (Y.ps_s 1 nd (Y.pe_dnewK)) (Y.pss_cons (Y.ps_for PassesOwn.never rfl (Y.pi_range1 rfl T.b_range (Y.pa1 (Y.pe_callB Y.call_qlen rfl T.b_len PySem.boot_len (Y.pa1 (Y.pv 0))))) (Y.pg_n 2 nd) (Y.pss_one (Y.ps_for PassesOwn.never rfl (Y.pi_range1 rfl T.b_range (Y.pa1 (Y.pe_callB Y.call_qlen rfl T.b_len PySem.boot_len (Y.pa1 (Y.pv 0))))) (Y.pg_n 3 nd) (Y.pss_one (Y.ps_if (Y.pw_pt (Y.pw_or (Y.pt_c (Y.op_qeq hr) (Y.pe_x (Y.pv 0) (Y.pv 3)) (Y.pe_lst (Y.pa_nil))) (Y.pw_or1 (Y.pt_val (Y.pe_callB (Y.call_qany rfl) rfl T.b_any PyProof.Rows.boot_any (Y.pa1 (Y.pe_comp cc_mended_0 rfl (Y.pi_list (Y.pe_x (Y.pv 0) (Y.pv 3))) (fun _ _ _ _ _=>Y.pts_nil) (fun _ _ _ _ _=>Y.pe_din hr (Y.pv 0) (Y.pv 2) rfl)))))))) (Y.pss_one (Y.ps_dput hr (Y.pv 1) (Y.pv 3) (Y.pe_bl))) (Y.pss_nil)))))) (Y.pss_cons (Y.ps_s 0 nd (Y.pe_comp cc_mended_1 rfl (Y.pi_range1 rfl T.b_range (Y.pa1 (Y.pe_callB Y.call_qlen rfl T.b_len PySem.boot_len (Y.pa1 (Y.pv 0))))) (fun _ _ _ _ _=>Y.pts_nil) (fun _ _ _ _ _=>Y.pe_ifExp (Y.pt_din hr (Y.pv 0) (Y.pv 2) rfl) (Y.pe_x (Y.pv 1) (Y.pv 0)) (Y.pe_op Y.op_qadd (Y.pe_lst (Y.pa1 (Y.pe_op Y.op_qsub (Y.pe_callB Y.call_qlen rfl T.b_len PySem.boot_len (Y.pa1 (Y.pv 1))) (Y.pe_int)))) (Y.pe_slice Y.sl_q (Y.pe_x (Y.pv 1) (Y.pv 0)) (Y.po_some (Y.pe_int)) (Y.po_none)))))) (Y.pss_cons (Y.ps_s 4 nd (Y.pe_disp (Y.pps_cons (Y.pe_int) (Y.pe_bl) (Y.pps_nil)))) (Y.pss_cons (Y.ps_for PassesOwn.never rfl (Y.pi_range1 rfl T.b_range (Y.pa1 (Y.pe_callB Y.call_qlen rfl T.b_len PySem.boot_len (Y.pa1 (Y.pv 0))))) (Y.pg_n 2 nd) (Y.pss_one (Y.ps_for PassesOwn.never rfl (Y.pi_range1 rfl T.b_range (Y.pa1 (Y.pe_callB Y.call_qlen rfl T.b_len PySem.boot_len (Y.pa1 (Y.pv 0))))) (Y.pg_n 3 nd) (Y.pss_one (Y.ps_if (Y.pt_din hr (Y.pv 3) (Y.pv 4) rfl) (Y.pss_one (Y.ps_for PassesOwn.never rfl (Y.pi_list (Y.pe_x (Y.pv 0) (Y.pv 3))) (Y.pg_n 5 nd) (Y.pss_one (Y.ps_dput hr (Y.pv 4) (Y.pv 5) (Y.pe_bl))))) (Y.pss_nil)))))) (Y.pss_cons (Y.ps_s 6 nd (Y.pe_callB Y.call_qsorted rfl T.b_sorted PyProof.Rows.boot_sorted (Y.pa1 (Y.pe_callTy (Y.call_qlistd rfl) rfl T.b_list PyProof.Rows.boot_list (Y.pa1 (Y.pv 4)))))) (Y.pss_one (Y.ps_ret (Y.pe_comp cc_mended_2 rfl (Y.pi_list (Y.pv 6)) (fun _ _ _ _ _=>Y.pts_nil) (fun _ _ _ _ _=>Y.pe_comp (cc_mended_3 _) rfl (Y.pi_list (Y.pe_x (Y.pv 1) (Y.pv 0))) (fun _ _ _ _ _=>Y.pts_nil) (fun _ _ _ _ _=>Y.pe_bm PySem.F.plainAttrs_list PySem.F.slot_list_index PySem.F.type_list_index Y.mt_qindex (Y.pv 8) (Y.pa1 (Y.pv 0))))))))))))
theorem sc_name:FnScope ["_law_bag_here", "_law_letters", "_law_signs"] ["_law_bag_here"] (defScope s_name):=by walk_at "sc"
theorem cc_name_0:CompOk ["_law_bag_here", "_law_letters", "_law_signs"] (defScope s_name) ({ kind:=.function,names:=[ (".0", .local),("_law_k", .local),("_law_take", .globalImplicit),("_law_bag_here", .free),("_law_signs", .free)],isGenerator:=false,isCoroutine:=false,more:=[]:PySem.Scope }) "_law_k" := ⟨rfl,by decide +kernel,by decide +kernel,rfl,by decide +kernel,by decide +kernel,rfl,by decide +kernel⟩
theorem ok_name{f:Addr}{fd:FuncData}(F:Fun K "_law_name" "_law_name" s_name f fd)(T:Txt K mg c)(c_take:Callee P w K mg base 1 "_law_take" ["_law_bag_here", "_law_many"] (sp_take K))   : FnOk P w K mg base CX0 2 f fd ["_law_bag_here"] (sp_name K):=by
 refine Y.fun_ok F sc_name (fun vs H Q E h=>h.1) (fun cdv A outer s H vs Q E hr h=>⟨t_name K,?_,h.2⟩)
 have nd:=sc_name.nd
 exact Y.pss_cons (Y.ps_s 1 nd (Y.pe_str)) (Y.pss_cons (Y.ps_s 2 nd (Y.pe_op Y.op_qadd (Y.pv 1) (Y.pe_str))) (Y.pss_one (Y.ps_ret (Y.pe_op Y.op_qadd (Y.pe_x (Y.pv 1) (Y.pe_w c_take hr (Y.pa2 (Y.pv 0) (Y.pe_int)))) (Y.pe_bm PySem.F.plainAttrs_str PySem.F.slot_str_join PySem.F.type_str_join Y.mt_qjoin (Y.pe_str) (Y.pa1 (Y.pe_comp cc_name_0 rfl (Y.pi_range1 rfl T.b_range (Y.pa1 (Y.pe_w c_take hr (Y.pa2 (Y.pv 0) (Y.pe_int))))) (fun _ _ _ _ _=>Y.pts_nil) (fun _ _ _ _ _=>Y.pe_x (Y.pv 3) (Y.pe_w c_take hr (Y.pa2 (Y.pv 1) (Y.pe_int)))))))))))
theorem sc_names:FnScope ["_law_bag_here", "_law_menu", "_law_first", "_law_by", "_law_names_here", "_law_k", "_law_name_here"] ["_law_bag_here"] (defScope s_names):=by walk_at "sc"
theorem ok_names{f:Addr}{fd:FuncData}(F:Fun K "_law_names" "_law_names" s_names f fd)(T:Txt K mg c)(c_take:Callee P w K mg base 1 "_law_take" ["_law_bag_here", "_law_many"] (sp_take K))(c_name:Callee P w K mg base 2 "_law_name" ["_law_bag_here"] (sp_name K))   : FnOk P w K mg base CX0 3 f fd ["_law_bag_here"] (sp_names K):=by
 refine Y.fun_ok F sc_names (fun vs H Q E h=>h.1) (fun cdv A outer s H vs Q E hr h=>⟨t_names K,?_,h.2⟩)
 have nd:=sc_names.nd
 exact Y.pss_cons (Y.ps_s 1 nd (Y.pe_lst (Y.pa_cons (Y.pe_str) (Y.pa_cons (Y.pe_str) (Y.pa_cons (Y.pe_str) (Y.pa5 (Y.pe_str) (Y.pe_str) (Y.pe_str) (Y.pe_str) (Y.pe_str))))))) (Y.pss_cons (Y.ps_s 1 nd (Y.pe_op Y.op_qadd (Y.pv 1) (Y.pe_lst (Y.pa_cons (Y.pe_str) (Y.pa_cons (Y.pe_str) (Y.pa_cons (Y.pe_str) (Y.pa5 (Y.pe_str) (Y.pe_str) (Y.pe_str) (Y.pe_str) (Y.pe_str)))))))) (Y.pss_cons (Y.ps_s 2 nd (Y.pe_w c_take hr (Y.pa2 (Y.pv 0) (Y.pe_int)))) (Y.pss_cons (Y.ps_s 3 nd (Y.pe_op Y.op_qadd (Y.pe_int) (Y.pe_op Y.op_qmul (Y.pe_int) (Y.pe_w c_take hr (Y.pa2 (Y.pv 0) (Y.pe_int)))))) (Y.pss_cons (Y.ps_s 4 nd (Y.pe_lst (Y.pa_nil))) (Y.pss_cons (Y.ps_for PassesOwn.never rfl (Y.pi_range1 rfl T.b_range (Y.pa1 (Y.pe_op Y.op_qadd (Y.pe_int) (Y.pe_w c_take hr (Y.pa2 (Y.pv 0) (Y.pe_int)))))) (Y.pg_n 5 nd) (Y.pss_cons (Y.ps_s 6 nd (Y.pe_x (Y.pv 1) (Y.pe_op Y.op_qmod (Y.pe_op Y.op_qadd (Y.pv 2) (Y.pe_op Y.op_qmul (Y.pv 5) (Y.pv 3))) (Y.pe_int)))) (Y.pss_cons (Y.ps_if (Y.pt_c (Y.op_qeq hr) (Y.pe_w c_take hr (Y.pa2 (Y.pv 0) (Y.pe_int))) (Y.pe_int)) (Y.pss_one (Y.ps_s 6 nd (Y.pe_w c_name hr (Y.pa1 (Y.pv 0))))) (Y.pss_nil)) (Y.pss_one (Y.ps_if (Y.pt_cmpR Y.op_qnotin (Y.pv 6) (Y.pv 4) rfl) (Y.pss_one (Y.ps_expr (Y.pe_bm PySem.F.plainAttrs_list PySem.F.slot_list_append PySem.F.type_list_append Y.mt_qappend (Y.pv 4) (Y.pa1 (Y.pv 6))))) (Y.pss_nil)))))) (Y.pss_one (Y.ps_ret (Y.pv 4))))))))
theorem sc_value:FnScope ["_law_bag_here"] ["_law_bag_here"] (defScope s_value):=by walk_at "sc"
theorem ok_value{f:Addr}{fd:FuncData}(F:Fun K "_law_value" "_law_value" s_value f fd)(T:Txt K mg c)(c_take:Callee P w K mg base 1 "_law_take" ["_law_bag_here", "_law_many"] (sp_take K))   : FnOk P w K mg base CX0 2 f fd ["_law_bag_here"] (sp_value K):=by
 refine Y.fun_ok F sc_value (fun vs H Q E h=>h.1) (fun cdv A outer s H vs Q E hr h=>⟨t_value K,?_,h.2⟩)
 have nd:=sc_value.nd
 exact Y.pss_one (Y.ps_ret (Y.pe_x (Y.pe_lst (Y.pa4 (Y.pe_int) (Y.pe_int) (Y.pe_op Y.op_qsub (Y.pe_op Y.op_qsub (Y.pe_op Y.op_qpow (Y.pe_int) (Y.pe_int)) (Y.pe_int)) (Y.pe_w c_take hr (Y.pa2 (Y.pv 0) (Y.pe_int)))) (Y.pe_w c_take hr (Y.pa2 (Y.pv 0) (Y.pe_int))))) (Y.pe_w c_take hr (Y.pa2 (Y.pv 0) (Y.pe_int)))))
theorem sc_operand:FnScope ["_law_bag_here", "_law_names_here"] ["_law_bag_here", "_law_names_here"] (defScope s_operand):=by walk_at "sc"
theorem ok_operand{f:Addr}{fd:FuncData}(F:Fun K "_law_operand" "_law_operand" s_operand f fd)(T:Txt K mg c)(c_take:Callee P w K mg base 1 "_law_take" ["_law_bag_here", "_law_many"] (sp_take K))(c_value:Callee P w K mg base 2 "_law_value" ["_law_bag_here"] (sp_value K))   : FnOk P w K mg base CX0 3 f fd ["_law_bag_here", "_law_names_here"] (sp_operand K):=by
 refine Y.fun_ok F sc_operand (fun vs H Q E h=>h.1) (fun cdv A outer s H vs Q E hr h=>⟨t_operand K,?_,h.2⟩)
 have nd:=sc_operand.nd
 exact Y.pss_cons (Y.ps_if (Y.pt_c (Y.op_qeq hr) (Y.pe_w c_take hr (Y.pa2 (Y.pv 0) (Y.pe_int))) (Y.pe_int)) (Y.pss_one (Y.ps_ret (Y.pe_w c_value hr (Y.pa1 (Y.pv 0))))) (Y.pss_nil)) (Y.pss_one (Y.ps_ret (Y.pe_x (Y.pv 1) (Y.pe_w c_take hr (Y.pa2 (Y.pv 0) (Y.pe_callB Y.call_qlen rfl T.b_len PySem.boot_len (Y.pa1 (Y.pv 1))))))))
theorem sc_deed:FnScope ["_law_bag_here", "_law_names_here", "_law_kind", "_law_one", "_law_other"] ["_law_bag_here", "_law_names_here"] (defScope s_deed):=by walk_at "sc"
theorem ok_deed{f:Addr}{fd:FuncData}(F:Fun K "_law_deed" "_law_deed" s_deed f fd)(T:Txt K mg c)(c_take:Callee P w K mg base 1 "_law_take" ["_law_bag_here", "_law_many"] (sp_take K))(c_operand:Callee P w K mg base 3 "_law_operand" ["_law_bag_here", "_law_names_here"] (sp_operand K))   : FnOk P w K mg base CX0 4 f fd ["_law_bag_here", "_law_names_here"] (sp_deed K):=by
 refine Y.fun_ok F sc_deed (fun vs H Q E h=>h.1) (fun cdv A outer s H vs Q E hr h=>⟨t_deed K,?_,h.2⟩)
 have nd:=sc_deed.nd
 exact Y.pss_cons (Y.ps_s 2 nd (Y.pe_x (Y.pe_lst (Y.pa5 (Y.pe_str) (Y.pe_str) (Y.pe_str) (Y.pe_str) (Y.pe_str))) (Y.pe_w c_take hr (Y.pa2 (Y.pv 0) (Y.pe_int))))) (Y.pss_cons (Y.ps_s 3 nd (Y.pe_w c_operand hr (Y.pa2 (Y.pv 0) (Y.pv 1)))) (Y.pss_cons (Y.ps_s 4 nd (Y.pe_w c_operand hr (Y.pa2 (Y.pv 0) (Y.pv 1)))) (Y.pss_cons (Y.ps_if (Y.pt_c (Y.op_qeq hr) (Y.pe_w c_take hr (Y.pa2 (Y.pv 0) (Y.pe_int))) (Y.pe_int)) (Y.pss_one (Y.ps_s 4 nd (Y.pv 3))) (Y.pss_nil)) (Y.pss_one (Y.ps_ret (Y.pe_tup (Y.pa3 (Y.pv 2) (Y.pv 3) (Y.pv 4))))))))
theorem sc_row:FnScope ["_law_bag_here", "_law_names_here", "_law_pool", "_law_many", "_law_way", "_law_name_here"] ["_law_bag_here", "_law_names_here", "_law_pool", "_law_many"] (defScope s_row):=by walk_at "sc"
theorem ok_row{f:Addr}{fd:FuncData}(F:Fun K "_law_row" "_law_row" s_row f fd)(T:Txt K mg c)(c_operand:Callee P w K mg base 3 "_law_operand" ["_law_bag_here", "_law_names_here"] (sp_operand K))(c_take:Callee P w K mg base 1 "_law_take" ["_law_bag_here", "_law_many"] (sp_take K))   : FnOk P w K mg base CX0 4 f fd ["_law_bag_here", "_law_names_here", "_law_pool", "_law_many"] (sp_row K):=by
 refine Y.fun_ok F sc_row (fun vs H Q E h=>h.1) (fun cdv A outer s H vs Q E hr h=>⟨t_row K,?_,h.2⟩)
 have nd:=sc_row.nd
 exact Y.pss_cons (Y.ps_if (Y.pt_c (Y.op_qeq hr) (Y.pv 3) (Y.pe_int)) (Y.pss_one (Y.ps_ret (Y.pe_tup (Y.pa2 (Y.pe_str) (Y.pe_w c_operand hr (Y.pa2 (Y.pv 0) (Y.pv 1))))))) (Y.pss_nil)) (Y.pss_cons (Y.ps_s 4 nd (Y.pe_w c_take hr (Y.pa2 (Y.pv 0) (Y.pe_int)))) (Y.pss_cons (Y.ps_s 5 nd (Y.pe_x (Y.pv 1) (Y.pe_w c_take hr (Y.pa2 (Y.pv 0) (Y.pe_callB Y.call_qlen rfl T.b_len PySem.boot_len (Y.pa1 (Y.pv 1))))))) (Y.pss_cons (Y.ps_if (Y.pt_c Y.op_qlt (Y.pv 4) (Y.pe_int)) (Y.pss_one (Y.ps_ret (Y.pe_tup (Y.pa3 (Y.pe_str) (Y.pv 5) (Y.pe_x (Y.pv 2) (Y.pe_w c_take hr (Y.pa2 (Y.pv 0) (Y.pe_callB Y.call_qlen rfl T.b_len PySem.boot_len (Y.pa1 (Y.pv 2)))))))))) (Y.pss_nil)) (Y.pss_cons (Y.ps_if (Y.pt_c (Y.op_qeq hr) (Y.pv 4) (Y.pe_int)) (Y.pss_one (Y.ps_ret (Y.pe_tup (Y.pa3 (Y.pe_str) (Y.pv 5) (Y.pe_w c_operand hr (Y.pa2 (Y.pv 0) (Y.pv 1))))))) (Y.pss_nil)) (Y.pss_cons (Y.ps_if (Y.pt_c (Y.op_qeq hr) (Y.pv 4) (Y.pe_int)) (Y.pss_one (Y.ps_ret (Y.pe_tup (Y.pa2 (Y.pe_str) (Y.pv 5))))) (Y.pss_nil)) (Y.pss_one (Y.ps_ret (Y.pe_x (Y.pe_lst (Y.pa2 (Y.pe_tup (Y.pa2 (Y.pe_str) (Y.pe_w c_operand hr (Y.pa2 (Y.pv 0) (Y.pv 1))))) (Y.pe_tup (Y.pa1 (Y.pe_str))))) (Y.pe_w c_take hr (Y.pa2 (Y.pv 0) (Y.pe_int)))))))))))
theorem sc_drawn:FnScope ["_law_bag_here", "_law_many", "_law_nexts", "_law_names_here", "_law_pool"] ["_law_bag_here"] (defScope s_drawn):=by walk_at "sc"
theorem cc_drawn_0:CompOk ["_law_bag_here", "_law_many", "_law_nexts", "_law_names_here", "_law_pool"] (defScope s_drawn) ({ kind:=.function,names:=[ (".0", .local),("_law_k", .local),("_law_deed", .globalImplicit),("_law_bag_here", .free),("_law_names_here", .free)],isGenerator:=false,isCoroutine:=false,more:=[]:PySem.Scope }) "_law_k" := ⟨rfl,by decide +kernel,by decide +kernel,rfl,by decide +kernel,by decide +kernel,rfl,by decide +kernel⟩
theorem cc_drawn_1:CompOk ["_law_bag_here", "_law_many", "_law_nexts", "_law_names_here", "_law_pool"] (defScope s_drawn) ({ kind:=.function,names:=[ (".0", .local),("_law_some", .local),("_law_row", .globalImplicit),("len", .globalImplicit),("_law_bag_here", .free),("_law_names_here", .free),("_law_pool", .free)],isGenerator:=false,isCoroutine:=false,more:=[]:PySem.Scope }) "_law_some" := ⟨rfl,by decide +kernel,by decide +kernel,rfl,by decide +kernel,by decide +kernel,rfl,by decide +kernel⟩
theorem ok_drawn{f:Addr}{fd:FuncData}(F:Fun K "_law_drawn" "_law_drawn" s_drawn f fd)(T:Txt K mg c)(c_take:Callee P w K mg base 1 "_law_take" ["_law_bag_here", "_law_many"] (sp_take K))(c_net:Callee P w K mg base 2 "_law_net" ["_law_bag_here", "_law_many"] (sp_net K))(c_mended:Callee P w K mg base 1 "_law_mended" ["_law_nexts"] (sp_mended K))(c_names:Callee P w K mg base 3 "_law_names" ["_law_bag_here"] (sp_names K))(c_deed:Callee P w K mg base 4 "_law_deed" ["_law_bag_here", "_law_names_here"] (sp_deed K))(c_row:Callee P w K mg base 4 "_law_row" ["_law_bag_here", "_law_names_here", "_law_pool", "_law_many"] (sp_row K))   : FnOk P w K mg base CX0 5 f fd ["_law_bag_here"] (sp_drawn K):=by
 refine Y.fun_ok F sc_drawn (fun vs H Q E h=>h.1) (fun cdv A outer s H vs Q E hr h=>⟨t_drawn K,?_,h.2⟩)
 have nd:=sc_drawn.nd
 exact Y.pss_cons (Y.ps_s 1 nd (Y.pe_op Y.op_qadd (Y.pe_int) (Y.pe_w c_take hr (Y.pa2 (Y.pv 0) (Y.pe_int))))) (Y.pss_cons (Y.ps_if (Y.pt_c (Y.op_qeq hr) (Y.pe_w c_take hr (Y.pa2 (Y.pv 0) (Y.pe_int))) (Y.pe_int)) (Y.pss_one (Y.ps_s 1 nd (Y.pe_op Y.op_qadd (Y.pe_int) (Y.pe_w c_take hr (Y.pa2 (Y.pv 0) (Y.pe_int)))))) (Y.pss_nil)) (Y.pss_cons (Y.ps_s 2 nd (Y.pe_w c_mended hr (Y.pa1 (Y.pe_w c_net hr (Y.pa2 (Y.pv 0) (Y.pv 1)))))) (Y.pss_cons (Y.ps_s 3 nd (Y.pe_w c_names hr (Y.pa1 (Y.pv 0)))) (Y.pss_cons (Y.ps_s 4 nd (Y.pe_comp cc_drawn_0 rfl (Y.pi_range1 rfl T.b_range (Y.pa1 (Y.pe_op Y.op_qadd (Y.pe_int) (Y.pe_w c_take hr (Y.pa2 (Y.pv 0) (Y.pe_int)))))) (fun _ _ _ _ _=>Y.pts_nil) (fun _ _ _ _ _=>Y.pe_w c_deed hr (Y.pa2 (Y.pv 1) (Y.pv 4))))) (Y.pss_one (Y.ps_ret (Y.pe_tup (Y.pa2 (Y.pe_comp cc_drawn_1 rfl (Y.pi_list (Y.pv 2)) (fun _ _ _ _ _=>Y.pts_nil) (fun _ _ _ _ _=>Y.pe_w c_row hr (Y.pa4 (Y.pv 1) (Y.pv 4) (Y.pv 5) (Y.pe_callB Y.call_qlen rfl T.b_len PySem.boot_len (Y.pa1 (Y.pv 0)))))) (Y.pv 2)))))))))
theorem sc_Plan_leads_to:FnScope ["self", "step"] ["self", "step"] (defScope s_Plan_leads_to):=by walk_at "sc"
theorem ok_Plan_leads_to{f:Addr}{fd:FuncData}(F:Fun K "leads_to" "Plan.leads_to" s_Plan_leads_to f fd)(T:Txt K mg c)    : FnOk P w K mg base CX0 1 f fd ["self", "step"] (sp_Plan_leads_to K c):=by
 refine Y.fun_ok F sc_Plan_leads_to (fun vs H Q E h=>h.1) (fun cdv A outer s H vs Q E hr h=>⟨t_Plan_leads_to K c,?_,h.2⟩)
 have nd:=sc_Plan_leads_to.nd
 exact Y.pss_cons (Y.ps_if (Y.pt_cmpR (Y.op_qeqk hr) (Y.pv 1) (Y.pe_globT T.g_FIRST_STEP rfl) (nomark _)) (Y.pss_one (Y.ps_ret (Y.pe_int))) (Y.pss_nil)) (Y.pss_one (Y.ps_ret (Y.pe_x (Y.pe_x (Y.pe_fld (Y.pv 0)) (Y.pe_x (Y.pv 1) (Y.pe_int))) (Y.pe_x (Y.pv 1) (Y.pe_int)))))
theorem sc_places_of:FnScope ["plan", "way"] ["plan", "way"] (defScope s_places_of):=by walk_at "sc"
theorem cc_places_of_0:CompOk ["plan", "way"] (defScope s_places_of) ({ kind:=.function,names:=[ (".0", .local),("step", .local),("plan", .free)],isGenerator:=false,isCoroutine:=false,more:=[]:PySem.Scope }) "step" := ⟨rfl,by decide +kernel,by decide +kernel,rfl,by decide +kernel,by decide +kernel,rfl,by decide +kernel⟩
theorem ok_places_of{f:Addr}{fd:FuncData}(F:Fun K "places_of" "places_of" s_places_of f fd)(T:Txt K mg c)  (c_Plan_leads_to:MCallee P w K mg base 1 "leads_to" c.C_Plan ["self", "step"] (sp_Plan_leads_to K c)):FnOk P w K mg base CX0 2 f fd ["plan", "way"] (sp_places_of K c):=by
 refine Y.fun_ok F sc_places_of (fun vs H Q E h=>h.1) (fun cdv A outer s H vs Q E hr h=>⟨t_places_of K c,?_,h.2⟩)
 have nd:=sc_places_of.nd
 exact Y.pss_one (Y.ps_ret (Y.pe_comp cc_places_of_0 rfl (Y.pi_list (Y.pv 1)) (fun _ _ _ _ _=>Y.pts_nil) (fun _ _ _ _ _=>Y.pe_mth c_Plan_leads_to hr (by decide) (Y.pv 1) (Y.pa1 (Y.pv 0)))))
theorem sc_shortest:FnScope ["_law_nexts", "_law_place", "_law_ways", "_law_turn", "_law_k", "_law_at"] ["_law_nexts", "_law_place"] (defScope s_shortest):=by walk_at "sc"
theorem ok_shortest{f:Addr}{fd:FuncData}(F:Fun K "_law_shortest" "_law_shortest" s_shortest f fd)(T:Txt K mg c)    : FnOk P w K mg base CX0 1 f fd ["_law_nexts", "_law_place"] (sp_shortest K):=by
 refine Y.fun_ok F sc_shortest (fun vs H Q E h=>h.1) (fun cdv A outer s H vs Q E hr h=>⟨t_shortest K,?_,h.2⟩)
 have nd:=sc_shortest.nd
 exact Y.pss_cons (Y.ps_s 2 nd (Y.pe_dnewK)) (Y.pss_cons (Y.ps_for PassesOwn.never rfl (Y.pi_range1 rfl T.b_range (Y.pa1 (Y.pe_callB Y.call_qlen rfl T.b_len PySem.boot_len (Y.pa1 (Y.pv 0))))) (Y.pg_n 3 nd) (Y.pss_one (Y.ps_for PassesOwn.never rfl (Y.pi_range1 rfl T.b_range (Y.pa1 (Y.pe_callB Y.call_qlen rfl T.b_len PySem.boot_len (Y.pa1 (Y.pv 0))))) (Y.pg_n 4 nd) (Y.pss_cons (Y.ps_if (Y.pw_pt (Y.pw_and (Y.pt_c (Y.op_qeq hr) (Y.pe_x (Y.pv 0) (Y.pv 4)) (Y.pe_lst (Y.pa_nil))) (Y.pw_and1 (Y.pt_dnotin hr (Y.pv 4) (Y.pv 2) rfl)))) (Y.pss_one (Y.ps_dput hr (Y.pv 2) (Y.pv 4) (Y.pe_lst (Y.pa_nil)))) (Y.pss_nil)) (Y.pss_one (Y.ps_for PassesOwn.never rfl (Y.pi_range1 rfl T.b_range (Y.pa1 (Y.pe_callB Y.call_qlen rfl T.b_len PySem.boot_len (Y.pa1 (Y.pe_x (Y.pv 0) (Y.pv 4)))))) (Y.pg_n 5 nd) (Y.pss_one (Y.ps_if (Y.pw_pt (Y.pw_and (Y.pt_dnotin hr (Y.pv 4) (Y.pv 2) rfl) (Y.pw_and1 (Y.pt_din hr (Y.pe_x (Y.pe_x (Y.pv 0) (Y.pv 4)) (Y.pv 5)) (Y.pv 2) rfl)))) (Y.pss_one (Y.ps_dput hr (Y.pv 2) (Y.pv 4) (Y.pe_op Y.op_qadd (Y.pe_lst (Y.pa1 (Y.pe_tup (Y.pa2 (Y.pv 4) (Y.pv 5))))) (Y.pe_dget hr (Y.pv 2) (Y.pe_x (Y.pe_x (Y.pv 0) (Y.pv 4)) (Y.pv 5)) (fun _ _=>rfl))))) (Y.pss_nil))))))))) (Y.pss_one (Y.ps_ret (Y.pe_dget hr (Y.pv 2) (Y.pv 1) (fun _ _=>rfl)))))
theorem sc_walk:FnScope ["_law_bag_here", "_law_nexts", "_law_way", "_law_place", "_law_k", "_law_at"] ["_law_bag_here", "_law_nexts"] (defScope s_walk):=by walk_at "sc"
theorem ok_walk{f:Addr}{fd:FuncData}(F:Fun K "_law_walk" "_law_walk" s_walk f fd)(T:Txt K mg c)(c_take:Callee P w K mg base 1 "_law_take" ["_law_bag_here", "_law_many"] (sp_take K))(c_shortest:Callee P w K mg base 1 "_law_shortest" ["_law_nexts", "_law_place"] (sp_shortest K))   : FnOk P w K mg base CX0 2 f fd ["_law_bag_here", "_law_nexts"] (sp_walk K):=by
 refine Y.fun_ok F sc_walk (fun vs H Q E h=>h.1) (fun cdv A outer s H vs Q E hr h=>⟨t_walk K,?_,h.2⟩)
 have nd:=sc_walk.nd
 exact Y.pss_cons (Y.ps_s 2 nd (Y.pe_lst (Y.pa1 (Y.pe_tup (Y.pa2 (Y.pe_un Y.un_neg (Y.pe_int)) (Y.pe_int)))))) (Y.pss_cons (Y.ps_s 3 nd (Y.pe_int)) (Y.pss_cons (Y.ps_if (Y.pt_c (Y.op_qeq hr) (Y.pe_w c_take hr (Y.pa2 (Y.pv 0) (Y.pe_int))) (Y.pe_int)) (Y.pss_cons (Y.ps_s 3 nd (Y.pe_w c_take hr (Y.pa2 (Y.pv 0) (Y.pe_callB Y.call_qlen rfl T.b_len PySem.boot_len (Y.pa1 (Y.pv 1)))))) (Y.pss_one (Y.ps_s 2 nd (Y.pe_lst (Y.pa_nil))))) (Y.pss_nil)) (Y.pss_cons (Y.ps_for PassesOwn.never rfl (Y.pi_range1 rfl T.b_range (Y.pa1 (Y.pe_w c_take hr (Y.pa2 (Y.pv 0) (Y.pe_int))))) (Y.pg_n 4 nd) (Y.pss_one (Y.ps_if (Y.pt_c (Y.op_qne hr) (Y.pe_x (Y.pv 1) (Y.pv 3)) (Y.pe_lst (Y.pa_nil))) (Y.pss_cons (Y.ps_s 5 nd (Y.pe_w c_take hr (Y.pa2 (Y.pv 0) (Y.pe_callB Y.call_qlen rfl T.b_len PySem.boot_len (Y.pa1 (Y.pe_x (Y.pv 1) (Y.pv 3))))))) (Y.pss_cons (Y.ps_expr (Y.pe_bm PySem.F.plainAttrs_list PySem.F.slot_list_append PySem.F.type_list_append Y.mt_qappend (Y.pv 2) (Y.pa1 (Y.pe_tup (Y.pa2 (Y.pv 3) (Y.pv 5)))))) (Y.pss_one (Y.ps_s 3 nd (Y.pe_x (Y.pe_x (Y.pv 1) (Y.pv 3)) (Y.pv 5)))))) (Y.pss_nil)))) (Y.pss_cons (Y.ps_if (Y.pt_c (Y.op_qeq hr) (Y.pe_w c_take hr (Y.pa2 (Y.pv 0) (Y.pe_int))) (Y.pe_int)) (Y.pss_one (Y.ps_s 2 nd (Y.pe_op Y.op_qadd (Y.pv 2) (Y.pe_w c_shortest hr (Y.pa2 (Y.pv 1) (Y.pv 3)))))) (Y.pss_nil)) (Y.pss_one (Y.ps_ret (Y.pv 2)))))))
theorem sc_whole:FnScope ["_law_thing"] ["_law_thing"] (defScope s_whole):=by walk_at "sc"
theorem ok_whole{f:Addr}{fd:FuncData}(F:Fun K "_law_whole" "_law_whole" s_whole f fd)(T:Txt K mg c)    : FnOk P w K mg base CX0 1 f fd ["_law_thing"] (sp_whole K):=by
 refine Y.fun_ok F sc_whole (fun vs H Q E h=>h.1) (fun cdv A outer s H vs Q E hr h=>⟨t_whole K,?_,h.2⟩)
 have nd:=sc_whole.nd
 exact Y.pss_one (Y.ps_ret (Y.pe_and (Y.pe_callB Y.call_qisi rfl T.b_isinstance PyProof.Rows.boot_isinstance (Y.pa2 (Y.pv 0) (Y.pe_bltn rfl T.b_int PyProof.Rows.boot_int rfl))) (Y.pe_one (Y.pe_not (Y.pe_callB Y.call_qisi rfl T.b_isinstance PyProof.Rows.boot_isinstance (Y.pa2 (Y.pv 0) (Y.pe_bltn rfl T.b_bool PyProof.Rows.boot_bool rfl)))))))
theorem sc_step:FnScope ["_law_nexts", "_law_thing"] ["_law_nexts", "_law_thing"] (defScope s_step):=by walk_at "sc"
theorem ok_step{f:Addr}{fd:FuncData}(F:Fun K "_law_step" "_law_step" s_step f fd)(T:Txt K mg c)(c_whole:Callee P w K mg base 1 "_law_whole" ["_law_thing"] (sp_whole K))   : FnOk P w K mg base CX0 2 f fd ["_law_nexts", "_law_thing"] (sp_step K):=by
 refine Y.fun_ok F sc_step (fun vs H Q E h=>h.1) (fun cdv A outer s H vs Q E hr h=>⟨t_step K,?_,h.2⟩)
 have nd:=sc_step.nd
 exact Y.pss_cons (Y.ps_if (Y.pw_pt (Y.pw_or (Y.pt_not (Y.pt_val (Y.pe_callB Y.call_qisi rfl T.b_isinstance PyProof.Rows.boot_isinstance (Y.pa2 (Y.pv 1) (Y.pe_bltn rfl T.b_tuple PyProof.Rows.boot_tuple rfl))))) (Y.pw_or (Y.pt_c (Y.op_qne hr) (Y.pe_callB Y.call_qlen rfl T.b_len PySem.boot_len (Y.pa1 (Y.pv 1))) (Y.pe_int)) (Y.pw_or (Y.pt_not (Y.pt_val (Y.pe_w c_whole hr (Y.pa1 (Y.pe_x (Y.pv 1) (Y.pe_int)))))) (Y.pw_or1 (Y.pt_not (Y.pt_val (Y.pe_w c_whole hr (Y.pa1 (Y.pe_x (Y.pv 1) (Y.pe_int))))))))))) (Y.pss_one (Y.ps_ret (Y.pe_non))) (Y.pss_nil)) (Y.pss_cons (Y.ps_if (Y.pt_c (Y.op_qeq hr) (Y.pv 1) (Y.pe_tup (Y.pa2 (Y.pe_un Y.un_neg (Y.pe_int)) (Y.pe_int)))) (Y.pss_one (Y.ps_ret (Y.pe_int))) (Y.pss_nil)) (Y.pss_cons (Y.ps_if (Y.pw_pt (Y.pw_and (Y.pt_chain Y.op_qle Y.op_qlt (Y.pe_int) (Y.pe_x (Y.pv 1) (Y.pe_int)) (Y.pe_callB Y.call_qlen rfl T.b_len PySem.boot_len (Y.pa1 (Y.pv 0)))) (Y.pw_and1 (Y.pt_chain Y.op_qle Y.op_qlt (Y.pe_int) (Y.pe_x (Y.pv 1) (Y.pe_int)) (Y.pe_callB Y.call_qlen rfl T.b_len PySem.boot_len (Y.pa1 (Y.pe_x (Y.pv 0) (Y.pe_x (Y.pv 1) (Y.pe_int))))))))) (Y.pss_one (Y.ps_ret (Y.pe_x (Y.pe_x (Y.pv 0) (Y.pe_x (Y.pv 1) (Y.pe_int))) (Y.pe_x (Y.pv 1) (Y.pe_int))))) (Y.pss_nil)) (Y.pss_one (Y.ps_ret (Y.pe_non)))))
theorem sc_places:FnScope ["_law_nexts", "_law_way", "_law_found", "_law_thing", "_law_to"] ["_law_nexts", "_law_way"] (defScope s_places):=by walk_at "sc"
theorem ok_places{f:Addr}{fd:FuncData}(F:Fun K "_law_places" "_law_places" s_places f fd)(T:Txt K mg c)(c_step:Callee P w K mg base 2 "_law_step" ["_law_nexts", "_law_thing"] (sp_step K))   : FnOk P w K mg base CX0 3 f fd ["_law_nexts", "_law_way"] (sp_places K):=by
 refine Y.fun_ok F sc_places (fun vs H Q E h=>h.1) (fun cdv A outer s H vs Q E hr h=>⟨t_places K,?_,h.2⟩)
 have nd:=sc_places.nd
 exact Y.pss_cons (Y.ps_if (Y.pw_pt (Y.pw_or (Y.pt_not (Y.pt_val (Y.pe_callB Y.call_qisi rfl T.b_isinstance PyProof.Rows.boot_isinstance (Y.pa2 (Y.pv 1) (Y.pe_bltn rfl T.b_list PyProof.Rows.boot_list rfl))))) (Y.pw_or1 (Y.pt_cmpR (Y.op_qeqe hr) (Y.pv 1) (Y.pe_lst (Y.pa_nil)) (nomark _))))) (Y.pss_one (Y.ps_ret (Y.pe_non))) (Y.pss_nil)) (Y.pss_cons (Y.ps_s 2 nd (Y.pe_lst (Y.pa_nil))) (Y.pss_cons (Y.ps_for PassesOwn.never rfl (Y.pi_list (Y.pv 1)) (Y.pg_n 3 nd) (Y.pss_cons (Y.ps_s 4 nd (Y.pe_w c_step hr (Y.pa2 (Y.pv 0) (Y.pv 3)))) (Y.pss_cons (Y.ps_if (Y.pw_pt (Y.pw_or (Y.pt_c Y.op_qis (Y.pv 4) (Y.pe_non)) (Y.pw_or1 (Y.pw_pt (Y.pw_and (Y.pt_c (Y.op_qne hr) (Y.pv 2) (Y.pe_lst (Y.pa_nil))) (Y.pw_and1 (Y.pt_c (Y.op_qne hr) (Y.pe_x (Y.pv 3) (Y.pe_int)) (Y.pe_x (Y.pv 2) (Y.pe_un Y.un_neg (Y.pe_int)))))))))) (Y.pss_one (Y.ps_ret (Y.pe_non))) (Y.pss_nil)) (Y.pss_one (Y.ps_expr (Y.pe_bm PySem.F.plainAttrs_list PySem.F.slot_list_append PySem.F.type_list_append Y.mt_qappend (Y.pv 2) (Y.pa1 (Y.pv 4)))))))) (Y.pss_one (Y.ps_ret (Y.pv 2)))))
theorem sc_is_whole:FnScope ["thing"] ["thing"] (defScope s_is_whole):=by walk_at "sc"
theorem ok_is_whole{f:Addr}{fd:FuncData}(F:Fun K "is_whole" "is_whole" s_is_whole f fd)(T:Txt K mg c)    : FnOk P w K mg base CX0 1 f fd ["thing"] (sp_is_whole K):=by
 refine Y.fun_ok F sc_is_whole (fun vs H Q E h=>h.1) (fun cdv A outer s H vs Q E hr h=>⟨t_is_whole K,?_,h.2⟩)
 have nd:=sc_is_whole.nd
 exact Y.pss_one (Y.ps_ret (Y.pe_and (Y.pe_callB Y.call_qisi rfl T.b_isinstance PyProof.Rows.boot_isinstance (Y.pa2 (Y.pv 0) (Y.pe_bltn rfl T.b_int PyProof.Rows.boot_int rfl))) (Y.pe_one (Y.pe_not (Y.pe_callB Y.call_qisi rfl T.b_isinstance PyProof.Rows.boot_isinstance (Y.pa2 (Y.pv 0) (Y.pe_bltn rfl T.b_bool PyProof.Rows.boot_bool rfl)))))))
theorem sc_is_below:FnScope ["thing", "many"] ["thing", "many"] (defScope s_is_below):=by walk_at "sc"
theorem ok_is_below{f:Addr}{fd:FuncData}(F:Fun K "is_below" "is_below" s_is_below f fd)(T:Txt K mg c)(c_is_whole:Callee P w K mg base 1 "is_whole" ["thing"] (sp_is_whole K))   : FnOk P w K mg base CX0 2 f fd ["thing", "many"] (sp_is_below K):=by
 refine Y.fun_ok F sc_is_below (fun vs H Q E h=>h.1) (fun cdv A outer s H vs Q E hr h=>⟨t_is_below K,?_,h.2⟩)
 have nd:=sc_is_below.nd
 exact Y.pss_one (Y.ps_ret (Y.pe_and (Y.pe_w c_is_whole hr (Y.pa1 (Y.pv 0))) (Y.pe_one (Y.pe_chain Y.op_qle Y.op_qlt (Y.pe_int) (Y.pv 0) (Y.pv 1)))))
theorem sc_is_step:FnScope ["plan", "thing"] ["plan", "thing"] (defScope s_is_step):=by walk_at "sc"
theorem ok_is_step{f:Addr}{fd:FuncData}(F:Fun K "is_step" "is_step" s_is_step f fd)(T:Txt K mg c)(c_is_whole:Callee P w K mg base 1 "is_whole" ["thing"] (sp_is_whole K))(c_is_below:Callee P w K mg base 2 "is_below" ["thing", "many"] (sp_is_below K))   : FnOk P w K mg base CX0 3 f fd ["plan", "thing"] (sp_is_step K c):=by
 refine Y.fun_ok F sc_is_step (fun vs H Q E h=>h.1) (fun cdv A outer s H vs Q E hr h=>⟨t_is_step K c,?_,h.2⟩)
 have nd:=sc_is_step.nd
 exact Y.pss_cons (Y.ps_if (Y.pw_pt (Y.pw_or (Y.pt_not (Y.pt_val (Y.pe_callB Y.call_qisi rfl T.b_isinstance PyProof.Rows.boot_isinstance (Y.pa2 (Y.pv 1) (Y.pe_bltn rfl T.b_tuple PyProof.Rows.boot_tuple rfl))))) (Y.pw_or1 (Y.pt_c (Y.op_qne hr) (Y.pe_callB Y.call_qlen rfl T.b_len PySem.boot_len (Y.pa1 (Y.pv 1))) (Y.pe_int))))) (Y.pss_one (Y.ps_ret (Y.pe_bl))) (Y.pss_nil)) (Y.pss_cons (Y.ps_if (Y.pw_pt (Y.pw_or (Y.pt_not (Y.pt_val (Y.pe_w c_is_whole hr (Y.pa1 (Y.pe_x (Y.pv 1) (Y.pe_int)))))) (Y.pw_or1 (Y.pt_not (Y.pt_val (Y.pe_w c_is_whole hr (Y.pa1 (Y.pe_x (Y.pv 1) (Y.pe_int))))))))) (Y.pss_one (Y.ps_ret (Y.pe_bl))) (Y.pss_nil)) (Y.pss_cons (Y.ps_if (Y.pt_cmpR (Y.op_qeqk hr) (Y.pv 1) (Y.pe_globT T.g_FIRST_STEP rfl) (nomark _)) (Y.pss_one (Y.ps_ret (Y.pe_bl))) (Y.pss_nil)) (Y.pss_one (Y.ps_ret (Y.pe_and (Y.pe_w c_is_below hr (Y.pa2 (Y.pe_x (Y.pv 1) (Y.pe_int)) (Y.pe_callB Y.call_qlen rfl T.b_len PySem.boot_len (Y.pa1 (Y.pe_fld (Y.pv 0)))))) (Y.pe_one (Y.pe_w c_is_below hr (Y.pa2 (Y.pe_x (Y.pv 1) (Y.pe_int)) (Y.pe_callB Y.call_qlen rfl T.b_len PySem.boot_len (Y.pa1 (Y.pe_x (Y.pe_fld (Y.pv 0)) (Y.pe_x (Y.pv 1) (Y.pe_int)))))))))))))
theorem sc_is_way:FnScope ["plan", "way"] ["plan", "way"] (defScope s_is_way):=by walk_at "sc"
theorem cc_is_way_0:CompOk ["plan", "way"] (defScope s_is_way) ({ kind:=.function,names:=[ (".0", .local),("step", .local),("is_step", .globalImplicit),("plan", .free)],isGenerator:=false,isCoroutine:=false,more:=[]:PySem.Scope }) "step" := ⟨rfl,by decide +kernel,by decide +kernel,rfl,by decide +kernel,by decide +kernel,rfl,by decide +kernel⟩
theorem cc_is_way_1:CompOk ["plan", "way"] (defScope s_is_way) ({ kind:=.function,names:=[ (".0", .local),("k", .local),("plan", .free),("way", .free)],isGenerator:=false,isCoroutine:=false,more:=[]:PySem.Scope }) "k" := ⟨rfl,by decide +kernel,by decide +kernel,rfl,by decide +kernel,by decide +kernel,rfl,by decide +kernel⟩
theorem ok_is_way{f:Addr}{fd:FuncData}(F:Fun K "is_way" "is_way" s_is_way f fd)(T:Txt K mg c)(c_is_step:Callee P w K mg base 3 "is_step" ["plan", "thing"] (sp_is_step K c)) (c_Plan_leads_to:MCallee P w K mg base 1 "leads_to" c.C_Plan ["self", "step"] (sp_Plan_leads_to K c)):FnOk P w K mg base CX0 4 f fd ["plan", "way"] (sp_is_way K c):=by
 refine Y.fun_ok F sc_is_way (fun vs H Q E h=>h.1) (fun cdv A outer s H vs Q E hr h=>⟨t_is_way K c,?_,h.2⟩)
 have nd:=sc_is_way.nd
 exact Y.pss_cons (Y.ps_if (Y.pw_pt (Y.pw_or (Y.pt_not (Y.pt_val (Y.pe_callB Y.call_qisi rfl T.b_isinstance PyProof.Rows.boot_isinstance (Y.pa2 (Y.pv 1) (Y.pe_bltn rfl T.b_list PyProof.Rows.boot_list rfl))))) (Y.pw_or1 (Y.pt_c (Y.op_qeq hr) (Y.pe_callB Y.call_qlen rfl T.b_len PySem.boot_len (Y.pa1 (Y.pv 1))) (Y.pe_int))))) (Y.pss_one (Y.ps_ret (Y.pe_bl))) (Y.pss_nil)) (Y.pss_cons (Y.ps_if (Y.pt_not (Y.pt_val (Y.pe_callB (Y.call_qall rfl) rfl T.b_all PyProof.Rows.boot_all (Y.pa1 (Y.pe_comp cc_is_way_0 rfl (Y.pi_list (Y.pv 1)) (fun _ _ _ _ _=>Y.pts_nil) (fun _ _ _ _ _=>Y.pe_w c_is_step hr (Y.pa2 (Y.pv 1) (Y.pv 0)))))))) (Y.pss_one (Y.ps_ret (Y.pe_bl))) (Y.pss_nil)) (Y.pss_one (Y.ps_ret (Y.pe_callB (Y.call_qall rfl) rfl T.b_all PyProof.Rows.boot_all (Y.pa1 (Y.pe_comp cc_is_way_1 rfl (Y.pi_range2 rfl T.b_range (Y.pa2 (Y.pe_int) (Y.pe_callB Y.call_qlen rfl T.b_len PySem.boot_len (Y.pa1 (Y.pv 1))))) (fun _ _ _ _ _=>Y.pts_nil) (fun _ _ _ _ _=>Y.pe_c (Y.op_qeq hr) (Y.pe_mth c_Plan_leads_to hr (by decide) (Y.pv 1) (Y.pa1 (Y.pe_x (Y.pv 2) (Y.pe_op Y.op_qsub (Y.pv 0) (Y.pe_int))))) (Y.pe_x (Y.pe_x (Y.pv 2) (Y.pv 0)) (Y.pe_int)))))))))
theorem sc_is_whole_way:FnScope ["plan", "way"] ["plan", "way"] (defScope s_is_whole_way):=by walk_at "sc"
theorem ok_is_whole_way{f:Addr}{fd:FuncData}(F:Fun K "is_whole_way" "is_whole_way" s_is_whole_way f fd)(T:Txt K mg c)(c_is_way:Callee P w K mg base 4 "is_way" ["plan", "way"] (sp_is_way K c)) (c_Plan_leads_to:MCallee P w K mg base 1 "leads_to" c.C_Plan ["self", "step"] (sp_Plan_leads_to K c)):FnOk P w K mg base CX0 5 f fd ["plan", "way"] (sp_is_whole_way K c):=by
 refine Y.fun_ok F sc_is_whole_way (fun vs H Q E h=>h.1) (fun cdv A outer s H vs Q E hr h=>⟨t_is_whole_way K c,?_,h.2⟩)
 have nd:=sc_is_whole_way.nd
 exact Y.pss_cons (Y.ps_if (Y.pw_pt (Y.pw_or (Y.pt_not (Y.pt_val (Y.pe_w c_is_way hr (Y.pa2 (Y.pv 0) (Y.pv 1))))) (Y.pw_or1 (Y.pt_cmpR (Y.op_qnek hr) (Y.pe_x (Y.pv 1) (Y.pe_int)) (Y.pe_globT T.g_FIRST_STEP rfl) (nomark _))))) (Y.pss_one (Y.ps_ret (Y.pe_bl))) (Y.pss_nil)) (Y.pss_one (Y.ps_ret (Y.pe_c (Y.op_qeq hr) (Y.pe_callB Y.call_qlen rfl T.b_len PySem.boot_len (Y.pa1 (Y.pe_x (Y.pe_fld (Y.pv 0)) (Y.pe_mth c_Plan_leads_to hr (by decide) (Y.pv 0) (Y.pa1 (Y.pe_x (Y.pv 1) (Y.pe_un Y.un_neg (Y.pe_int)))))))) (Y.pe_int))))
theorem sc_asked:FnScope ["_law_plan", "_law_nexts", "_law_way", "_law_kept", "_law_places_here", "_law_found", "_law_whole_here", "_law_told"] ["_law_plan", "_law_nexts", "_law_way"] (defScope s_asked):=by walk_at "sc"
theorem ok_asked{f:Addr}{fd:FuncData}(F:Fun K "_law_asked" "_law_asked" s_asked f fd)(T:Txt K mg c)(c_places:Callee P w K mg base 3 "_law_places" ["_law_nexts", "_law_way"] (sp_places K))(c_is_way:Callee P w K mg base 4 "is_way" ["plan", "way"] (sp_is_way K c))(c_is_whole_way:Callee P w K mg base 5 "is_whole_way" ["plan", "way"] (sp_is_whole_way K c))(c_places_of:Callee P w K mg base 2 "places_of" ["plan", "way"] (sp_places_of K c))(c_whole:Callee P w K mg base 1 "_law_whole" ["_law_thing"] (sp_whole K))   : FnOk P w K mg base CX0 6 f fd ["_law_plan", "_law_nexts", "_law_way"] (sp_asked K c):=by
 refine Y.fun_ok F sc_asked (fun vs H Q E h=>h.1) (fun cdv A outer s H vs Q E hr h=>⟨t_asked K c,?_,h.2⟩)
 have nd:=sc_asked.nd
 exact Y.pss_cons (Y.ps_s 3 nd (Y.pv 2)) (Y.pss_cons (Y.ps_if (Y.pt_val (Y.pe_callB Y.call_qisi rfl T.b_isinstance PyProof.Rows.boot_isinstance (Y.pa2 (Y.pv 2) (Y.pe_bltn rfl T.b_list PyProof.Rows.boot_list rfl)))) (Y.pss_one (Y.ps_s 3 nd (Y.pe_callTy Y.call_qlist rfl T.b_list PyProof.Rows.boot_list (Y.pa1 (Y.pv 2))))) (Y.pss_nil)) (Y.pss_cons (Y.ps_s 4 nd (Y.pe_w c_places hr (Y.pa2 (Y.pv 1) (Y.pv 2)))) (Y.pss_cons (Y.ps_s 5 nd (Y.pe_w c_is_way hr (Y.pa2 (Y.pv 0) (Y.pv 2)))) (Y.pss_cons (Y.ps_if (Y.pw_pt (Y.pw_or (Y.pt_not (Y.pt_val (Y.pe_callB Y.call_qisi rfl T.b_isinstance PyProof.Rows.boot_isinstance (Y.pa2 (Y.pv 5) (Y.pe_bltn rfl T.b_bool PyProof.Rows.boot_bool rfl))))) (Y.pw_or1 (Y.pt_c (Y.op_qne hr) (Y.pv 5) (Y.pe_c Y.op_qisnot (Y.pv 4) (Y.pe_non)))))) (Y.pss_one (Y.ps_ret (Y.pe_bl))) (Y.pss_nil)) (Y.pss_cons (Y.ps_s 5 nd (Y.pe_w c_is_whole_way hr (Y.pa2 (Y.pv 0) (Y.pv 2)))) (Y.pss_cons (Y.ps_s 6 nd (Y.pe_and (Y.pe_c Y.op_qisnot (Y.pv 4) (Y.pe_non)) (Y.pe_and (Y.pe_c (Y.op_qeq hr) (Y.pe_x (Y.pv 2) (Y.pe_int)) (Y.pe_tup (Y.pa2 (Y.pe_un Y.un_neg (Y.pe_int)) (Y.pe_int)))) (Y.pe_one (Y.pe_c (Y.op_qeq hr) (Y.pe_x (Y.pv 1) (Y.pe_x (Y.pv 4) (Y.pe_un Y.un_neg (Y.pe_int)))) (Y.pe_lst (Y.pa_nil))))))) (Y.pss_cons (Y.ps_if (Y.pw_pt (Y.pw_or (Y.pt_not (Y.pt_val (Y.pe_callB Y.call_qisi rfl T.b_isinstance PyProof.Rows.boot_isinstance (Y.pa2 (Y.pv 5) (Y.pe_bltn rfl T.b_bool PyProof.Rows.boot_bool rfl))))) (Y.pw_or (Y.pt_c (Y.op_qne hr) (Y.pv 5) (Y.pv 6)) (Y.pw_or1 (Y.pt_cmpR (Y.op_qnex hr) (Y.pv 3) (Y.pv 2) (nomark _)))))) (Y.pss_one (Y.ps_ret (Y.pe_bl))) (Y.pss_nil)) (Y.pss_cons (Y.ps_if (Y.pt_c Y.op_qis (Y.pv 4) (Y.pe_non)) (Y.pss_one (Y.ps_ret (Y.pe_bl))) (Y.pss_nil)) (Y.pss_cons (Y.ps_s 7 nd (Y.pe_w c_places_of hr (Y.pa2 (Y.pv 0) (Y.pv 2)))) (Y.pss_cons (Y.ps_if (Y.pw_pt (Y.pw_or (Y.pt_not (Y.pt_val (Y.pe_callB Y.call_qisi rfl T.b_isinstance PyProof.Rows.boot_isinstance (Y.pa2 (Y.pv 7) (Y.pe_bltn rfl T.b_list PyProof.Rows.boot_list rfl))))) (Y.pw_or (Y.pt_c (Y.op_qne hr) (Y.pv 7) (Y.pv 4)) (Y.pw_or1 (Y.pt_not (Y.pt_val (Y.pe_w c_whole hr (Y.pa1 (Y.pe_x (Y.pv 7) (Y.pe_int)))))))))) (Y.pss_one (Y.ps_ret (Y.pe_bl))) (Y.pss_nil)) (Y.pss_cons (Y.ps_expr (Y.pe_bm0 PySem.F.plainAttrs_list PySem.F.slot_list_clear PySem.F.type_list_clear Y.mt_qclear (Y.pv 7))) (Y.pss_one (Y.ps_ret (Y.pe_and (Y.pe_c (Y.op_qeq hr) (Y.pe_w c_places_of hr (Y.pa2 (Y.pv 0) (Y.pv 2))) (Y.pv 4)) (Y.pe_one (Y.pe_cmpR (Y.op_qeqt hr) (Y.pv 3) (Y.pv 2) (nomark _)))))))))))))))))
theorem sc_spoilt:FnScope ["_law_bag_here", "_law_way", "_law_many", "_law_at", "_law_kind", "_law_step_here", "_law_place", "_law_k", "_law_odd"] ["_law_bag_here", "_law_way", "_law_many"] (defScope s_spoilt):=by walk_at "sc"
theorem ok_spoilt{f:Addr}{fd:FuncData}(F:Fun K "_law_spoilt" "_law_spoilt" s_spoilt f fd)(T:Txt K mg c)(c_take:Callee P w K mg base 1 "_law_take" ["_law_bag_here", "_law_many"] (sp_take K))   : FnOk P w K mg base CX0 2 f fd ["_law_bag_here", "_law_way", "_law_many"] (sp_spoilt K):=by
 refine Y.fun_ok F sc_spoilt (fun vs H Q E h=>h.1) (fun cdv A outer s H vs Q E hr h=>⟨t_spoilt K,?_,h.2⟩)
 have nd:=sc_spoilt.nd
 exact Y.pss_cons (Y.ps_s 3 nd (Y.pe_w c_take hr (Y.pa2 (Y.pv 0) (Y.pe_op Y.op_qadd (Y.pe_callB Y.call_qlen rfl T.b_len PySem.boot_len (Y.pa1 (Y.pv 1))) (Y.pe_int))))) (Y.pss_cons (Y.ps_s 4 nd (Y.pe_w c_take hr (Y.pa2 (Y.pv 0) (Y.pe_int)))) (Y.pss_cons (Y.ps_s 5 nd (Y.pe_tup (Y.pa2 (Y.pe_op Y.op_qsub (Y.pe_w c_take hr (Y.pa2 (Y.pv 0) (Y.pe_op Y.op_qadd (Y.pv 2) (Y.pe_int)))) (Y.pe_int)) (Y.pe_w c_take hr (Y.pa2 (Y.pv 0) (Y.pe_int)))))) (Y.pss_cons (Y.ps_if (Y.pt_c (Y.op_qeq hr) (Y.pv 4) (Y.pe_int)) (Y.pss_one (Y.ps_ret (Y.pe_op Y.op_qadd (Y.pe_op Y.op_qadd (Y.pe_slice Y.sl_q (Y.pv 1) (Y.po_none) (Y.po_some (Y.pv 3))) (Y.pe_lst (Y.pa1 (Y.pv 5)))) (Y.pe_slice Y.sl_q (Y.pv 1) (Y.po_some (Y.pv 3)) (Y.po_none))))) (Y.pss_nil)) (Y.pss_cons (Y.ps_if (Y.pt_c (Y.op_qeq hr) (Y.pv 4) (Y.pe_int)) (Y.pss_one (Y.ps_ret (Y.pe_op Y.op_qadd (Y.pe_slice Y.sl_q (Y.pv 1) (Y.po_none) (Y.po_some (Y.pv 3))) (Y.pe_slice Y.sl_q (Y.pv 1) (Y.po_some (Y.pe_op Y.op_qadd (Y.pv 3) (Y.pe_int))) (Y.po_none))))) (Y.pss_nil)) (Y.pss_cons (Y.ps_if (Y.pt_c (Y.op_qeq hr) (Y.pv 4) (Y.pe_int)) (Y.pss_one (Y.ps_ret (Y.pe_op Y.op_qadd (Y.pe_op Y.op_qadd (Y.pe_slice Y.sl_q (Y.pv 1) (Y.po_none) (Y.po_some (Y.pv 3))) (Y.pe_lst (Y.pa1 (Y.pv 5)))) (Y.pe_slice Y.sl_q (Y.pv 1) (Y.po_some (Y.pe_op Y.op_qadd (Y.pv 3) (Y.pe_int))) (Y.po_none))))) (Y.pss_nil)) (Y.pss_cons (Y.ps_if (Y.pt_c (Y.op_qeq hr) (Y.pv 4) (Y.pe_int)) (Y.pss_one (Y.ps_ret (Y.pe_op Y.op_qadd (Y.pe_lst (Y.pa1 (Y.pe_tup (Y.pa2 (Y.pe_un Y.un_neg (Y.pe_int)) (Y.pe_int))))) (Y.pv 1)))) (Y.pss_nil)) (Y.pss_cons (Y.ps_if (Y.pt_c (Y.op_qeq hr) (Y.pv 4) (Y.pe_int)) (Y.pss_one (Y.ps_ret (Y.pe_x (Y.pe_lst (Y.pa_cons (Y.pe_non) (Y.pa5 (Y.pe_callTy Y.call_qtuple rfl T.b_tuple PyProof.Rows.boot_tuple (Y.pa1 (Y.pv 1))) (Y.pe_str) (Y.pe_dnewK) (Y.pe_int) (Y.pe_lst (Y.pa_nil))))) (Y.pe_w c_take hr (Y.pa2 (Y.pv 0) (Y.pe_int)))))) (Y.pss_nil)) (Y.pss_cons (Y.ps_if (Y.pt_c Y.op_qlt (Y.pv 3) (Y.pe_callB Y.call_qlen rfl T.b_len PySem.boot_len (Y.pa1 (Y.pv 1)))) (Y.pss_cons (Y.ps_asg (Y.pe_x (Y.pv 1) (Y.pv 3)) (Y.pg_tup rfl (Y.pgs_cons (Y.pg_n 6 nd) (Y.pgs_cons (Y.pg_n 7 nd) (Y.pgs_nil))))) (Y.pss_cons (Y.ps_s 8 nd (Y.pe_lst (Y.pa_cons (Y.pe_callTy Y.call_qlist rfl T.b_list PyProof.Rows.boot_list (Y.pa1 (Y.pe_x (Y.pv 1) (Y.pv 3)))) (Y.pa_cons (Y.pe_op Y.op_catT (Y.pe_x (Y.pv 1) (Y.pv 3)) (Y.pe_tup (Y.pa1 (Y.pe_int)))) (Y.pa_cons (Y.pe_tup (Y.pa2 (Y.pv 6) (Y.pe_bl))) (Y.pa5 (Y.pe_tup (Y.pa2 (Y.pv 6) (Y.pe_non))) (Y.pe_slice Y.sl_q (Y.pe_x (Y.pv 1) (Y.pv 3)) (Y.po_none) (Y.po_some (Y.pe_int))) (Y.pe_non) (Y.pe_int) (Y.pe_tup (Y.pa2 (Y.pe_int) (Y.pe_un Y.un_neg (Y.pe_int)))))))))) (Y.pss_cons (Y.ps_s 8 nd (Y.pe_op Y.op_qadd (Y.pv 8) (Y.pe_lst (Y.pa_cons (Y.pe_tup (Y.pa2 (Y.pe_un Y.un_neg (Y.pe_int)) (Y.pe_int))) (Y.pa5 (Y.pe_tup (Y.pa2 (Y.pe_un Y.un_neg (Y.pe_int)) (Y.pv 7))) (Y.pe_tup (Y.pa2 (Y.pe_bl) (Y.pv 7))) (Y.pe_tup (Y.pa2 (Y.pe_bl) (Y.pv 7))) (Y.pe_tup (Y.pa2 (Y.pe_non) (Y.pv 7))) (Y.pe_tup (Y.pa2 (Y.pe_callTy Y.call_qstri rfl T.b_str PyProof.Rows.boot_str (Y.pa1 (Y.pv 6))) (Y.pv 7)))))))) (Y.pss_one (Y.ps_ret (Y.pe_op Y.op_qadd (Y.pe_op Y.op_qadd (Y.pe_slice Y.sl_q (Y.pv 1) (Y.po_none) (Y.po_some (Y.pv 3))) (Y.pe_lst (Y.pa1 (Y.pe_x (Y.pv 8) (Y.pe_w c_take hr (Y.pa2 (Y.pv 0) (Y.pe_int))))))) (Y.pe_slice Y.sl_q (Y.pv 1) (Y.po_some (Y.pe_op Y.op_qadd (Y.pv 3) (Y.pe_int))) (Y.po_none)))))))) (Y.pss_nil)) (Y.pss_one (Y.ps_ret (Y.pe_op Y.op_qadd (Y.pv 1) (Y.pe_slice Y.sl_q (Y.pv 1) (Y.po_some (Y.pe_un Y.un_neg (Y.pe_int))) (Y.po_none)))))))))))))
theorem sc_check_length:FnScope ["things", "at", "least"] ["things", "at", "least"] (defScope s_check_length):=by walk_at "sc"
theorem ok_check_length{f:Addr}{fd:FuncData}(F:Fun K "check_length" "check_length" s_check_length f fd)(T:Txt K mg c)    : FnOk P w K mg base CX0 1 f fd ["things", "at", "least"] (sp_check_length K):=by
 refine Y.fun_ok F sc_check_length (fun vs H Q E h=>h.1) (fun cdv A outer s H vs Q E hr h=>⟨t_check_length K,?_,h.2⟩)
 have nd:=sc_check_length.nd
 exact Y.pss_cons (Y.ps_if (Y.pw_pt (Y.pw_or (Y.pt_not (Y.pt_val (Y.pe_callB Y.call_qisi rfl T.b_isinstance PyProof.Rows.boot_isinstance (Y.pa2 (Y.pv 0) (Y.pe_bltn rfl T.b_list PyProof.Rows.boot_list rfl))))) (Y.pw_or1 (Y.pt_c Y.op_qlt (Y.pe_callB Y.call_qlen rfl T.b_len PySem.boot_len (Y.pa1 (Y.pv 0))) (Y.pv 2))))) (Y.pss_one (Y.ps_raise)) (Y.pss_nil)) (Y.pss_one (Y.ps_if (Y.pt_c Y.op_qgt (Y.pe_callB Y.call_qlen rfl T.b_len PySem.boot_len (Y.pa1 (Y.pv 0))) (Y.pe_globT T.g_MOST rfl)) (Y.pss_one (Y.ps_raise)) (Y.pss_nil)))
theorem sc_is_name:FnScope ["thing"] ["thing"] (defScope s_is_name):=by walk_at "sc"
theorem cc_is_name_0:CompOk ["thing"] (defScope s_is_name) ({ kind:=.function,names:=[ (".0", .local),("sign", .local),("LETTERS", .globalImplicit),("FIGURES", .globalImplicit)],isGenerator:=false,isCoroutine:=false,more:=[]:PySem.Scope }) "sign" := ⟨rfl,by decide +kernel,by decide +kernel,rfl,by decide +kernel,by decide +kernel,rfl,by decide +kernel⟩
theorem ok_is_name{f:Addr}{fd:FuncData}(F:Fun K "is_name" "is_name" s_is_name f fd)(T:Txt K mg c)    : FnOk P w K mg base CX0 1 f fd ["thing"] (sp_is_name K):=by
 refine Y.fun_ok F sc_is_name (fun vs H Q E h=>h.1) (fun cdv A outer s H vs Q E hr h=>⟨t_is_name K,?_,h.2⟩)
 have nd:=sc_is_name.nd
 exact Y.pss_cons (Y.ps_if (Y.pw_pt (Y.pw_or (Y.pt_not (Y.pt_val (Y.pe_callB Y.call_qisi rfl T.b_isinstance PyProof.Rows.boot_isinstance (Y.pa2 (Y.pv 0) (Y.pe_bltn rfl T.b_str PyProof.Rows.boot_str rfl))))) (Y.pw_or1 (Y.pt_not (Y.pt_chain Y.op_qle Y.op_qle (Y.pe_int) (Y.pe_callB Y.call_qlen rfl T.b_len PySem.boot_len (Y.pa1 (Y.pv 0))) (Y.pe_globT T.g_LONGEST_NAME rfl)))))) (Y.pss_one (Y.ps_ret (Y.pe_bl))) (Y.pss_nil)) (Y.pss_one (Y.ps_ret (Y.pe_and (Y.pe_cmpR Y.op_qin (Y.pe_x (Y.pv 0) (Y.pe_int)) (Y.pe_globT T.g_LETTERS rfl) rfl) (Y.pe_one (Y.pe_callB (Y.call_qall rfl) rfl T.b_all PyProof.Rows.boot_all (Y.pa1 (Y.pe_comp cc_is_name_0 rfl (Y.pi_str (Y.pv 0)) (fun _ _ _ _ _=>Y.pts_nil) (fun _ _ _ _ _=>Y.pe_cmpR Y.op_qin (Y.pv 0) (Y.pe_op Y.op_qadd (Y.pe_globT T.g_LETTERS rfl) (Y.pe_globT T.g_FIGURES rfl)) rfl))))))))
theorem sc_is_value:FnScope ["thing"] ["thing"] (defScope s_is_value):=by walk_at "sc"
theorem ok_is_value{f:Addr}{fd:FuncData}(F:Fun K "is_value" "is_value" s_is_value f fd)(T:Txt K mg c)(c_is_whole:Callee P w K mg base 1 "is_whole" ["thing"] (sp_is_whole K))   : FnOk P w K mg base CX0 2 f fd ["thing"] (sp_is_value K):=by
 refine Y.fun_ok F sc_is_value (fun vs H Q E h=>h.1) (fun cdv A outer s H vs Q E hr h=>⟨t_is_value K,?_,h.2⟩)
 have nd:=sc_is_value.nd
 exact Y.pss_one (Y.ps_ret (Y.pe_and (Y.pe_w c_is_whole hr (Y.pa1 (Y.pv 0))) (Y.pe_one (Y.pe_chain Y.op_qle Y.op_qlt (Y.pe_int) (Y.pv 0) (Y.pe_globT T.g_BOUND rfl)))))
theorem sc_is_operand:FnScope ["thing"] ["thing"] (defScope s_is_operand):=by walk_at "sc"
theorem ok_is_operand{f:Addr}{fd:FuncData}(F:Fun K "is_operand" "is_operand" s_is_operand f fd)(T:Txt K mg c)(c_is_name:Callee P w K mg base 1 "is_name" ["thing"] (sp_is_name K))(c_is_value:Callee P w K mg base 2 "is_value" ["thing"] (sp_is_value K))   : FnOk P w K mg base CX0 3 f fd ["thing"] (sp_is_operand K):=by
 refine Y.fun_ok F sc_is_operand (fun vs H Q E h=>h.1) (fun cdv A outer s H vs Q E hr h=>⟨t_is_operand K,?_,h.2⟩)
 have nd:=sc_is_operand.nd
 exact Y.pss_one (Y.ps_ret (Y.pe_or (Y.pe_w c_is_name hr (Y.pa1 (Y.pv 0))) (Y.pe_one (Y.pe_w c_is_value hr (Y.pa1 (Y.pv 0))))))
theorem sc_is_deed:FnScope ["thing"] ["thing"] (defScope s_is_deed):=by walk_at "sc"
theorem ok_is_deed{f:Addr}{fd:FuncData}(F:Fun K "is_deed" "is_deed" s_is_deed f fd)(T:Txt K mg c)(c_is_operand:Callee P w K mg base 3 "is_operand" ["thing"] (sp_is_operand K))   : FnOk P w K mg base CX0 4 f fd ["thing"] (sp_is_deed K c):=by
 refine Y.fun_ok F sc_is_deed (fun vs H Q E h=>h.1) (fun cdv A outer s H vs Q E hr h=>⟨t_is_deed K c,?_,h.2⟩)
 have nd:=sc_is_deed.nd
 exact Y.pss_cons (Y.ps_if (Y.pw_pt (Y.pw_or (Y.pt_not (Y.pt_val (Y.pe_callB Y.call_qisi rfl T.b_isinstance PyProof.Rows.boot_isinstance (Y.pa2 (Y.pv 0) (Y.pe_bltn rfl T.b_tuple PyProof.Rows.boot_tuple rfl))))) (Y.pw_or1 (Y.pt_c (Y.op_qne hr) (Y.pe_callB Y.call_qlen rfl T.b_len PySem.boot_len (Y.pa1 (Y.pv 0))) (Y.pe_int))))) (Y.pss_one (Y.ps_ret (Y.pe_bl))) (Y.pss_nil)) (Y.pss_one (Y.ps_ret (Y.pe_and (Y.pe_cmpR Y.op_qink (Y.pe_x (Y.pv 0) (Y.pe_int)) (Y.pe_globT T.g_DEED_KINDS rfl) rfl) (Y.pe_and (Y.pe_w c_is_operand hr (Y.pa1 (Y.pe_x (Y.pv 0) (Y.pe_int)))) (Y.pe_one (Y.pe_w c_is_operand hr (Y.pa1 (Y.pe_x (Y.pv 0) (Y.pe_int)))))))))
theorem sc_is_row:FnScope ["thing", "kind", "rest"] ["thing"] (defScope s_is_row):=by walk_at "sc"
theorem ok_is_row{f:Addr}{fd:FuncData}(F:Fun K "is_row" "is_row" s_is_row f fd)(T:Txt K mg c)(c_is_name:Callee P w K mg base 1 "is_name" ["thing"] (sp_is_name K))(c_is_deed:Callee P w K mg base 4 "is_deed" ["thing"] (sp_is_deed K c))(c_is_operand:Callee P w K mg base 3 "is_operand" ["thing"] (sp_is_operand K))   : FnOk P w K mg base CX0 5 f fd ["thing"] (sp_is_row K c):=by
 refine Y.fun_ok F sc_is_row (fun vs H Q E h=>h.1) (fun cdv A outer s H vs Q E hr h=>⟨t_is_row K c,?_,h.2⟩)
 have nd:=sc_is_row.nd
 exact Y.pss_cons (Y.ps_if (Y.pw_pt (Y.pw_or (Y.pt_not (Y.pt_val (Y.pe_callB Y.call_qisi rfl T.b_isinstance PyProof.Rows.boot_isinstance (Y.pa2 (Y.pv 0) (Y.pe_bltn rfl T.b_tuple PyProof.Rows.boot_tuple rfl))))) (Y.pw_or1 (Y.pt_c (Y.op_qeq hr) (Y.pe_callB Y.call_qlen rfl T.b_len PySem.boot_len (Y.pa1 (Y.pv 0))) (Y.pe_int))))) (Y.pss_one (Y.ps_ret (Y.pe_bl))) (Y.pss_nil)) (Y.pss_cons (Y.ps_s 1 nd (Y.pe_x (Y.pv 0) (Y.pe_int))) (Y.pss_cons (Y.ps_s 2 nd (Y.pe_slice Y.sl_q (Y.pv 0) (Y.po_some (Y.pe_int)) (Y.po_none))) (Y.pss_cons (Y.ps_if (Y.pt_c (Y.op_qeq hr) (Y.pv 1) (Y.pe_str)) (Y.pss_one (Y.ps_ret (Y.pe_and (Y.pe_c (Y.op_qeq hr) (Y.pe_callB Y.call_qlen rfl T.b_len PySem.boot_len (Y.pa1 (Y.pv 2))) (Y.pe_int)) (Y.pe_and (Y.pe_w c_is_name hr (Y.pa1 (Y.pe_x (Y.pv 2) (Y.pe_int)))) (Y.pe_one (Y.pe_w c_is_deed hr (Y.pa1 (Y.pe_x (Y.pv 2) (Y.pe_int))))))))) (Y.pss_nil)) (Y.pss_cons (Y.ps_if (Y.pt_c (Y.op_qeq hr) (Y.pv 1) (Y.pe_str)) (Y.pss_one (Y.ps_ret (Y.pe_and (Y.pe_c (Y.op_qeq hr) (Y.pe_callB Y.call_qlen rfl T.b_len PySem.boot_len (Y.pa1 (Y.pv 2))) (Y.pe_int)) (Y.pe_and (Y.pe_w c_is_name hr (Y.pa1 (Y.pe_x (Y.pv 2) (Y.pe_int)))) (Y.pe_one (Y.pe_w c_is_operand hr (Y.pa1 (Y.pe_x (Y.pv 2) (Y.pe_int))))))))) (Y.pss_nil)) (Y.pss_cons (Y.ps_if (Y.pt_c (Y.op_qeq hr) (Y.pv 1) (Y.pe_str)) (Y.pss_one (Y.ps_ret (Y.pe_and (Y.pe_c (Y.op_qeq hr) (Y.pe_callB Y.call_qlen rfl T.b_len PySem.boot_len (Y.pa1 (Y.pv 2))) (Y.pe_int)) (Y.pe_one (Y.pe_w c_is_name hr (Y.pa1 (Y.pe_x (Y.pv 2) (Y.pe_int)))))))) (Y.pss_nil)) (Y.pss_cons (Y.ps_if (Y.pt_cmpR Y.op_qin (Y.pv 1) (Y.pe_tup (Y.pa2 (Y.pe_str) (Y.pe_str))) rfl) (Y.pss_one (Y.ps_ret (Y.pe_and (Y.pe_c (Y.op_qeq hr) (Y.pe_callB Y.call_qlen rfl T.b_len PySem.boot_len (Y.pa1 (Y.pv 2))) (Y.pe_int)) (Y.pe_one (Y.pe_w c_is_operand hr (Y.pa1 (Y.pe_x (Y.pv 2) (Y.pe_int)))))))) (Y.pss_nil)) (Y.pss_one (Y.ps_ret (Y.pe_and (Y.pe_c (Y.op_qeq hr) (Y.pv 1) (Y.pe_str)) (Y.pe_one (Y.pe_c (Y.op_qeq hr) (Y.pe_callB Y.call_qlen rfl T.b_len PySem.boot_len (Y.pa1 (Y.pv 2))) (Y.pe_int))))))))))))
theorem sc_check_each:FnScope ["rights", "k", "right"] ["rights"] (defScope s_check_each):=by walk_at "sc"
theorem ok_check_each{f:Addr}{fd:FuncData}(F:Fun K "check_each" "check_each" s_check_each f fd)(T:Txt K mg c)    : FnOk P w K mg base CX0 1 f fd ["rights"] (sp_check_each K):=by
 refine Y.fun_ok F sc_check_each (fun vs H Q E h=>h.1) (fun cdv A outer s H vs Q E hr h=>⟨t_check_each K,?_,h.2⟩)
 have nd:=sc_check_each.nd
 exact Y.pss_one (Y.ps_for PassesOwn.never rfl (Y.pi_enum rfl T.b_enumerate (Y.pa1 (Y.pv 0))) (Y.pg_tup rfl (Y.pgs_cons (Y.pg_n 1 nd) (Y.pgs_cons (Y.pg_n 2 nd) (Y.pgs_nil)))) (Y.pss_one (Y.ps_if (Y.pt_not (Y.pt_val (Y.pv 2))) (Y.pss_one (Y.ps_raise)) (Y.pss_nil))))
theorem sc_are_nexts:FnScope ["row", "following", "many", "wanted"] ["row", "following", "many"] (defScope s_are_nexts):=by walk_at "sc"
theorem cc_are_nexts_0:CompOk ["row", "following", "many", "wanted"] (defScope s_are_nexts) ({ kind:=.function,names:=[ (".0", .local),("place", .local),("is_below", .globalImplicit),("many", .free)],isGenerator:=false,isCoroutine:=false,more:=[]:PySem.Scope }) "place" := ⟨rfl,by decide +kernel,by decide +kernel,rfl,by decide +kernel,by decide +kernel,rfl,by decide +kernel⟩
theorem ok_are_nexts{f:Addr}{fd:FuncData}(F:Fun K "are_nexts" "are_nexts" s_are_nexts f fd)(T:Txt K mg c)(c_is_below:Callee P w K mg base 2 "is_below" ["thing", "many"] (sp_is_below K))   : FnOk P w K mg base CX0 3 f fd ["row", "following", "many"] (sp_are_nexts K):=by
 refine Y.fun_ok F sc_are_nexts (fun vs H Q E h=>h.1) (fun cdv A outer s H vs Q E hr h=>⟨t_are_nexts K,?_,h.2⟩)
 have nd:=sc_are_nexts.nd
 exact Y.pss_cons (Y.ps_if (Y.pt_not (Y.pt_val (Y.pe_callB Y.call_qisi rfl T.b_isinstance PyProof.Rows.boot_isinstance (Y.pa2 (Y.pv 1) (Y.pe_bltn rfl T.b_list PyProof.Rows.boot_list rfl))))) (Y.pss_one (Y.ps_ret (Y.pe_bl))) (Y.pss_nil)) (Y.pss_cons (Y.ps_s 3 nd (Y.pe_ifExp (Y.pt_c (Y.op_qeq hr) (Y.pe_x (Y.pv 0) (Y.pe_int)) (Y.pe_str)) (Y.pe_tup (Y.pa1 (Y.pe_int))) (Y.pe_tup (Y.pa2 (Y.pe_int) (Y.pe_int))))) (Y.pss_one (Y.ps_ret (Y.pe_and (Y.pe_cmpR Y.op_qin (Y.pe_callB Y.call_qlen rfl T.b_len PySem.boot_len (Y.pa1 (Y.pv 1))) (Y.pv 3) rfl) (Y.pe_one (Y.pe_callB (Y.call_qall rfl) rfl T.b_all PyProof.Rows.boot_all (Y.pa1 (Y.pe_comp cc_are_nexts_0 rfl (Y.pi_list (Y.pv 1)) (fun _ _ _ _ _=>Y.pts_nil) (fun _ _ _ _ _=>Y.pe_w c_is_below hr (Y.pa2 (Y.pv 0) (Y.pv 3)))))))))))
theorem sc_check_nexts:FnScope ["rows", "nexts"] ["rows", "nexts"] (defScope s_check_nexts):=by walk_at "sc"
theorem cc_check_nexts_0:CompOkP ["rows", "nexts"] (defScope s_check_nexts) ({ kind:=.function,names:=[ (".0", .local),("row", .local),("following", .local),("are_nexts", .globalImplicit),("len", .globalImplicit),("rows", .free)],isGenerator:=false,isCoroutine:=false,more:=[]:PySem.Scope }) "row" "following" := ⟨rfl,by decide +kernel,by decide +kernel,rfl,rfl,by decide +kernel,by decide +kernel,rfl,rfl,by decide +kernel⟩
theorem ok_check_nexts{f:Addr}{fd:FuncData}(F:Fun K "check_nexts" "check_nexts" s_check_nexts f fd)(T:Txt K mg c)(c_are_nexts:Callee P w K mg base 3 "are_nexts" ["row", "following", "many"] (sp_are_nexts K))(c_check_each:Callee P w K mg base 1 "check_each" ["rights"] (sp_check_each K))   : FnOk P w K mg base CX0 4 f fd ["rows", "nexts"] (sp_check_nexts K):=by
 refine Y.fun_ok F sc_check_nexts (fun vs H Q E h=>h.1) (fun cdv A outer s H vs Q E hr h=>⟨t_check_nexts K,?_,h.2⟩)
 have nd:=sc_check_nexts.nd
 exact Y.pss_cons (Y.ps_if (Y.pw_pt (Y.pw_or (Y.pt_not (Y.pt_val (Y.pe_callB Y.call_qisi rfl T.b_isinstance PyProof.Rows.boot_isinstance (Y.pa2 (Y.pv 1) (Y.pe_bltn rfl T.b_list PyProof.Rows.boot_list rfl))))) (Y.pw_or1 (Y.pt_c (Y.op_qne hr) (Y.pe_callB Y.call_qlen rfl T.b_len PySem.boot_len (Y.pa1 (Y.pv 1))) (Y.pe_callB Y.call_qlen rfl T.b_len PySem.boot_len (Y.pa1 (Y.pv 0))))))) (Y.pss_one (Y.ps_raise)) (Y.pss_nil)) (Y.pss_one (Y.ps_expr (Y.pe_w c_check_each hr (Y.pa1 (Y.pe_compP cc_check_nexts_0 rfl (Y.pi_zip rfl T.b_zip (Y.pa2 (Y.pv 0) (Y.pv 1))) (fun _ _ _ _ _=>Y.pts_nil) (fun _ _ _ _ _=>Y.pe_w c_are_nexts hr (Y.pa3 (Y.pv 0) (Y.pv 1) (Y.pe_callB Y.call_qlen rfl T.b_len PySem.boot_len (Y.pa1 (Y.pv 2))))))))))
theorem sc_reached:FnScope ["begins", "leads", "seen", "waiting", "place"] ["begins", "leads"] (defScope s_reached):=by walk_at "sc"
theorem ok_reached{f:Addr}{fd:FuncData}(F:Fun K "reached" "reached" s_reached f fd)(T:Txt K mg c)    : FnOk P w K mg base CX0 1 f fd ["begins", "leads"] (sp_reached K):=by
 refine Y.fun_ok F sc_reached (fun vs H Q E h=>h.1) (fun cdv A outer s H vs Q E hr h=>⟨t_reached K,?_,h.2⟩)
 have nd:=sc_reached.nd
 exact Y.pss_cons (Y.ps_s 2 nd (Y.pe_dnewK)) (Y.pss_cons (Y.ps_s 3 nd (Y.pe_callTy Y.call_qlist rfl T.b_list PyProof.Rows.boot_list (Y.pa1 (Y.pv 0)))) (Y.pss_cons (Y.ps_while PassesOwn.never (Y.pt_c Y.op_qgt (Y.pe_callB Y.call_qlen rfl T.b_len PySem.boot_len (Y.pa1 (Y.pv 3))) (Y.pe_int)) (Y.pss_cons (Y.ps_s 4 nd (Y.pe_bm0 PySem.F.plainAttrs_list PySem.F.slot_list_pop PySem.F.type_list_pop Y.mt_qpop (Y.pv 3))) (Y.pss_one (Y.ps_if (Y.pt_dnotin hr (Y.pv 4) (Y.pv 2) rfl) (Y.pss_cons (Y.ps_dput hr (Y.pv 2) (Y.pv 4) (Y.pe_bl)) (Y.pss_one (Y.ps_expr (Y.pe_bm PySem.F.plainAttrs_list PySem.F.slot_list_extend PySem.F.type_list_extend Y.mt_qextend (Y.pv 3) (Y.pa1 (Y.pe_x (Y.pv 1) (Y.pv 4))))))) (Y.pss_nil))))) (Y.pss_one (Y.ps_ret (Y.pv 2)))))
theorem sc_turned:FnScope ["nexts", "sources", "place", "following", "target"] ["nexts"] (defScope s_turned):=by walk_at "sc"
theorem cc_turned_0:CompOk ["nexts", "sources", "place", "following", "target"] (defScope s_turned) ({ kind:=.function,names:=[(".0", .local),("following", .local)],isGenerator:=false,isCoroutine:=false,more:=[]:PySem.Scope }) "following" := ⟨rfl,by decide +kernel,by decide +kernel,rfl,by decide +kernel,by decide +kernel,rfl,by decide +kernel⟩
theorem ok_turned{f:Addr}{fd:FuncData}(F:Fun K "turned" "turned" s_turned f fd)(T:Txt K mg c)    : FnOk P w K mg base CX0 1 f fd ["nexts"] (sp_turned K):=by
 refine Y.fun_ok F sc_turned (fun vs H Q E h=>h.1) (fun cdv A outer s H vs Q E hr h=>⟨t_turned K,?_,h.2⟩)
 have nd:=sc_turned.nd
 exact Y.pss_cons (Y.ps_setcomp (n:=1) nd rfl rfl cc_turned_0 rfl (Y.pi_list (Y.pv 0)) (fun _ _ _ _ _=>Y.pts_nil) (fun _ _ _ _ _=>Y.pe_lst (Y.pa_nil))) (Y.pss_cons (Y.ps_for PassesOwn.never rfl (Y.pi_enum rfl T.b_enumerate (Y.pa1 (Y.pv 0))) (Y.pg_tup rfl (Y.pgs_cons (Y.pg_n 2 nd) (Y.pgs_cons (Y.pg_n 3 nd) (Y.pgs_nil)))) (Y.pss_one (Y.ps_for PassesOwn.never rfl (Y.pi_list (Y.pv 3)) (Y.pg_n 4 nd) (Y.pss_one (Y.ps_expr (Y.pe_bm PySem.F.plainAttrs_list PySem.F.slot_list_append PySem.F.type_list_append Y.mt_qappend (Y.pe_x (Y.pv 1) (Y.pv 4)) (Y.pa1 (Y.pv 2)))))))) (Y.pss_one (Y.ps_ret (Y.pv 1))))
theorem sc_stops_of:FnScope ["nexts"] ["nexts"] (defScope s_stops_of):=by walk_at "sc"
theorem cc_stops_of_0:CompOkP ["nexts"] (defScope s_stops_of) ({ kind:=.function,names:=[ (".0", .local),("place", .local),("following", .local),("len", .globalImplicit)],isGenerator:=false,isCoroutine:=false,more:=[]:PySem.Scope }) "place" "following" := ⟨rfl,by decide +kernel,by decide +kernel,rfl,rfl,by decide +kernel,by decide +kernel,rfl,rfl,by decide +kernel⟩
theorem ok_stops_of{f:Addr}{fd:FuncData}(F:Fun K "stops_of" "stops_of" s_stops_of f fd)(T:Txt K mg c)    : FnOk P w K mg base CX0 1 f fd ["nexts"] (sp_stops_of K):=by
 refine Y.fun_ok F sc_stops_of (fun vs H Q E h=>h.1) (fun cdv A outer s H vs Q E hr h=>⟨t_stops_of K,?_,h.2⟩)
 have nd:=sc_stops_of.nd
 exact Y.pss_one (Y.ps_ret (Y.pe_compP cc_stops_of_0 rfl (Y.pi_enum rfl T.b_enumerate (Y.pa1 (Y.pv 0))) (fun _ _ _ _ _=>Y.pts_one (Y.pt_c (Y.op_qeq hr) (Y.pe_callB Y.call_qlen rfl T.b_len PySem.boot_len (Y.pa1 (Y.pv 1))) (Y.pe_int))) (fun _ _ _ _ _=>Y.pv 0)))
theorem sc_check_ways:FnScope ["nexts", "begun", "ending", "place"] ["nexts"] (defScope s_check_ways):=by walk_at "sc"
theorem ok_check_ways{f:Addr}{fd:FuncData}(F:Fun K "check_ways" "check_ways" s_check_ways f fd)(T:Txt K mg c)(c_reached:Callee P w K mg base 1 "reached" ["begins", "leads"] (sp_reached K))(c_turned:Callee P w K mg base 1 "turned" ["nexts"] (sp_turned K))(c_stops_of:Callee P w K mg base 1 "stops_of" ["nexts"] (sp_stops_of K))   : FnOk P w K mg base CX0 2 f fd ["nexts"] (sp_check_ways K):=by
 refine Y.fun_ok F sc_check_ways (fun vs H Q E h=>h.1) (fun cdv A outer s H vs Q E hr h=>⟨t_check_ways K,?_,h.2⟩)
 have nd:=sc_check_ways.nd
 exact Y.pss_cons (Y.ps_s 1 nd (Y.pe_w c_reached hr (Y.pa2 (Y.pe_lst (Y.pa1 (Y.pe_int))) (Y.pv 0)))) (Y.pss_cons (Y.ps_s 2 nd (Y.pe_w c_reached hr (Y.pa2 (Y.pe_w c_stops_of hr (Y.pa1 (Y.pv 0))) (Y.pe_w c_turned hr (Y.pa1 (Y.pv 0)))))) (Y.pss_one (Y.ps_for PassesOwn.never rfl (Y.pi_range1 rfl T.b_range (Y.pa1 (Y.pe_callB Y.call_qlen rfl T.b_len PySem.boot_len (Y.pa1 (Y.pv 0))))) (Y.pg_n 3 nd) (Y.pss_one (Y.ps_if (Y.pw_pt (Y.pw_or (Y.pt_dnotin hr (Y.pv 3) (Y.pv 1) rfl) (Y.pw_or1 (Y.pt_dnotin hr (Y.pv 3) (Y.pv 2) rfl)))) (Y.pss_one (Y.ps_raise)) (Y.pss_nil))))))
theorem sc_steps_of:FnScope ["nexts", "steps", "place", "following"] ["nexts"] (defScope s_steps_of):=by walk_at "sc"
theorem cc_steps_of_0:CompOk ["nexts", "steps", "place", "following"] (defScope s_steps_of) ({ kind:=.function,names:=[ (".0", .local),("at", .local),("place", .free)],isGenerator:=false,isCoroutine:=false,more:=[]:PySem.Scope }) "at" := ⟨rfl,by decide +kernel,by decide +kernel,rfl,by decide +kernel,by decide +kernel,rfl,by decide +kernel⟩
theorem ok_steps_of{f:Addr}{fd:FuncData}(F:Fun K "steps_of" "steps_of" s_steps_of f fd)(T:Txt K mg c)    : FnOk P w K mg base CX0 1 f fd ["nexts"] (sp_steps_of K c):=by
 refine Y.fun_ok F sc_steps_of (fun vs H Q E h=>h.1) (fun cdv A outer s H vs Q E hr h=>⟨t_steps_of K c,?_,h.2⟩)
 have nd:=sc_steps_of.nd
 exact Y.pss_cons (Y.ps_s 1 nd (Y.pe_lst (Y.pa1 (Y.pe_globT T.g_FIRST_STEP rfl)))) (Y.pss_cons (Y.ps_for PassesOwn.never rfl (Y.pi_enum rfl T.b_enumerate (Y.pa1 (Y.pv 0))) (Y.pg_tup rfl (Y.pgs_cons (Y.pg_n 2 nd) (Y.pgs_cons (Y.pg_n 3 nd) (Y.pgs_nil)))) (Y.pss_one (Y.ps_expr (Y.pe_bm PySem.F.plainAttrs_list PySem.F.slot_list_extend PySem.F.type_list_extend Y.mt_qextend (Y.pv 1) (Y.pa1 (Y.pe_comp cc_steps_of_0 rfl (Y.pi_range1 rfl T.b_range (Y.pa1 (Y.pe_callB Y.call_qlen rfl T.b_len PySem.boot_len (Y.pa1 (Y.pv 3))))) (fun _ _ _ _ _=>Y.pts_nil) (fun _ _ _ _ _=>Y.pe_tup (Y.pa2 (Y.pv 3) (Y.pv 0))))))))) (Y.pss_one (Y.ps_ret (Y.pv 1))))
theorem sc_Plan_init:FnScope ["self", "rows", "nexts", "step"] ["self", "rows", "nexts"] (defScope s_Plan_init):=by walk_at "sc"
theorem cc_Plan_init_0:CompOk ["self", "rows", "nexts", "step"] (defScope s_Plan_init) ({ kind:=.function,names:=[ (".0", .local),("row", .local),("is_row", .globalImplicit)],isGenerator:=false,isCoroutine:=false,more:=[]:PySem.Scope }) "row" := ⟨rfl,by decide +kernel,by decide +kernel,rfl,by decide +kernel,by decide +kernel,rfl,by decide +kernel⟩
theorem cc_Plan_init_1:CompOk ["self", "rows", "nexts", "step"] (defScope s_Plan_init) ({ kind:=.function,names:=[ (".0", .local),("following", .local),("list", .globalImplicit)],isGenerator:=false,isCoroutine:=false,more:=[]:PySem.Scope }) "following" := ⟨rfl,by decide +kernel,by decide +kernel,rfl,by decide +kernel,by decide +kernel,rfl,by decide +kernel⟩
theorem cc_Plan_init_2:CompOk ["self", "rows", "nexts", "step"] (defScope s_Plan_init) ({ kind:=.function,names:=[(".0", .local),("row", .local)],isGenerator:=false,isCoroutine:=false,more:=[]:PySem.Scope }) "row" := ⟨rfl,by decide +kernel,by decide +kernel,rfl,by decide +kernel,by decide +kernel,rfl,by decide +kernel⟩
theorem ok_Plan_init{f:Addr}{fd:FuncData}(F:Fun K "__init__" "Plan.__init__" s_Plan_init f fd)(T:Txt K mg c)(c_check_length:Callee P w K mg base 1 "check_length" ["things", "at", "least"] (sp_check_length K))(c_is_row:Callee P w K mg base 5 "is_row" ["thing"] (sp_is_row K c))(c_check_each:Callee P w K mg base 1 "check_each" ["rights"] (sp_check_each K))(c_check_nexts:Callee P w K mg base 4 "check_nexts" ["rows", "nexts"] (sp_check_nexts K))(c_check_ways:Callee P w K mg base 2 "check_ways" ["nexts"] (sp_check_ways K))(c_steps_of:Callee P w K mg base 1 "steps_of" ["nexts"] (sp_steps_of K c)) (c_Plan_leads_to:MCallee P w K mg base 1 "leads_to" c.C_Plan ["self", "step"] (sp_Plan_leads_to K c)):FnOk P w K mg base CX0 6 f fd ["self", "rows", "nexts"] (sp_Plan_init K c):=by
 refine Y.fun_ok F sc_Plan_init (fun vs H Q E h=>h.1) (fun cdv A outer s H vs Q E hr h=>⟨t_Plan_init K c,?_,h.2⟩)
 have nd:=sc_Plan_init.nd
 exact Y.pss_cons (Y.ps_expr (Y.pe_w c_check_length hr (Y.pa3 (Y.pv 1) (Y.pe_int) (Y.pe_int)))) (Y.pss_cons (Y.ps_expr (Y.pe_w c_check_each hr (Y.pa1 (Y.pe_comp cc_Plan_init_0 rfl (Y.pi_list (Y.pv 1)) (fun _ _ _ _ _=>Y.pts_nil) (fun _ _ _ _ _=>Y.pe_w c_is_row hr (Y.pa1 (Y.pv 0))))))) (Y.pss_cons (Y.ps_expr (Y.pe_w c_check_nexts hr (Y.pa2 (Y.pv 1) (Y.pv 2)))) (Y.pss_cons (Y.ps_expr (Y.pe_w c_check_ways hr (Y.pa1 (Y.pv 2)))) (Y.pss_cons (Y.ps_fld (Y.pv 0) (Y.pe_callTy Y.call_qlist rfl T.b_list PyProof.Rows.boot_list (Y.pa1 (Y.pv 1)))) (Y.pss_cons (Y.ps_fld (Y.pv 0) (Y.pe_comp cc_Plan_init_1 rfl (Y.pi_list (Y.pv 2)) (fun _ _ _ _ _=>Y.pts_nil) (fun _ _ _ _ _=>Y.pe_callTy Y.call_qlist rfl T.b_list PyProof.Rows.boot_list (Y.pa1 (Y.pv 0))))) (Y.pss_cons (Y.ps_fld (Y.pv 0) (Y.pe_comp cc_Plan_init_2 rfl (Y.pi_list (Y.pv 1)) (fun _ _ _ _ _=>Y.pts_nil) (fun _ _ _ _ _=>Y.pe_lst (Y.pa_nil)))) (Y.pss_one (Y.ps_for PassesOwn.never rfl (Y.pi_list (Y.pe_w c_steps_of hr (Y.pa1 (Y.pe_fld (Y.pv 0))))) (Y.pg_n 3 nd) (Y.pss_one (Y.ps_expr (Y.pe_bm PySem.F.plainAttrs_list PySem.F.slot_list_append PySem.F.type_list_append Y.mt_qappend (Y.pe_x (Y.pe_fld (Y.pv 0)) (Y.pe_mth c_Plan_leads_to hr (by decide) (Y.pv 0) (Y.pa1 (Y.pv 3)))) (Y.pa1 (Y.pv 3)))))))))))))
theorem sc_law:FnScope ["_law_script", "_law_bag_here", "_law_rows", "_law_nexts", "_law_plan", "_law_none", "_law_k", "_law_way"] ["_law_script"] (defScope s_law):=by walk_at "sc"
theorem ok_law{f:Addr}{fd:FuncData}(F:Fun K "law" "law" s_law f fd)(T:Txt K mg c)(ck:CnOk K c)(c_bag:Callee P w K mg base 1 "_law_bag" ["_law_script"] (sp_bag K))(c_drawn:Callee P w K mg base 5 "_law_drawn" ["_law_bag_here"] (sp_drawn K))(c_places_of:Callee P w K mg base 2 "places_of" ["plan", "way"] (sp_places_of K c))(c_walk:Callee P w K mg base 2 "_law_walk" ["_law_bag_here", "_law_nexts"] (sp_walk K))(c_asked:Callee P w K mg base 6 "_law_asked" ["_law_plan", "_law_nexts", "_law_way"] (sp_asked K c))(c_spoilt:Callee P w K mg base 2 "_law_spoilt" ["_law_bag_here", "_law_way", "_law_many"] (sp_spoilt K))(m_Plan:Maker P w K mg base 6 "Plan" c.C_Plan ["self", "rows", "nexts"] (sp_Plan_init K c))  : FnOk P w K mg base CX0 8 f fd ["_law_script"] (sp_law K):=by
 refine Y.fun_ok F sc_law (fun vs H Q E h=>h.1) (fun cdv A outer s H vs Q E hr h=>⟨t_law K c,?_,h.2 c ck⟩)
 have nd:=sc_law.nd
 exact Y.pss_cons (Y.ps_s 1 nd (Y.pe_w c_bag hr (Y.pa1 (Y.pv 0)))) (Y.pss_cons (Y.ps_asg (Y.pe_w c_drawn hr (Y.pa1 (Y.pv 1))) (Y.pg_tup rfl (Y.pgs_cons (Y.pg_n 2 nd) (Y.pgs_cons (Y.pg_n 3 nd) (Y.pgs_nil))))) (Y.pss_cons (Y.ps_s 4 nd (Y.pe_k m_Plan hr (Y.pa2 (Y.pv 2) (Y.pv 3)))) (Y.pss_cons (Y.ps_s 5 nd (Y.pe_w c_places_of hr (Y.pa2 (Y.pv 4) (Y.pe_lst (Y.pa_nil))))) (Y.pss_cons (Y.ps_if (Y.pw_pt (Y.pw_or (Y.pt_not (Y.pt_val (Y.pe_callB Y.call_qisi rfl T.b_isinstance PyProof.Rows.boot_isinstance (Y.pa2 (Y.pv 5) (Y.pe_bltn rfl T.b_list PyProof.Rows.boot_list rfl))))) (Y.pw_or1 (Y.pt_c (Y.op_qne hr) (Y.pv 5) (Y.pe_lst (Y.pa_nil)))))) (Y.pss_one (Y.ps_ret (Y.pe_bl))) (Y.pss_nil)) (Y.pss_cons (Y.ps_for PassesOwn.never rfl (Y.pi_range1 rfl T.b_range (Y.pa1 (Y.pe_int))) (Y.pg_n 6 nd) (Y.pss_cons (Y.ps_s 7 nd (Y.pe_w c_walk hr (Y.pa2 (Y.pv 1) (Y.pv 3)))) (Y.pss_one (Y.ps_if (Y.pw_pt (Y.pw_or (Y.pt_not (Y.pt_val (Y.pe_w c_asked hr (Y.pa3 (Y.pv 4) (Y.pv 3) (Y.pv 7))))) (Y.pw_or1 (Y.pt_not (Y.pt_val (Y.pe_w c_asked hr (Y.pa3 (Y.pv 4) (Y.pv 3) (Y.pe_w c_spoilt hr (Y.pa3 (Y.pv 1) (Y.pv 7) (Y.pe_callB Y.call_qlen rfl T.b_len PySem.boot_len (Y.pa1 (Y.pv 3)))))))))))) (Y.pss_one (Y.ps_ret (Y.pe_bl))) (Y.pss_nil))))) (Y.pss_one (Y.ps_ret (Y.pe_bl))))))))
end
end
abbrev fdM(x q:Str)(st:Stmt)(pm cd:Value):FuncData:=PySem.W.fnOf x q (defArgs st) (defBody st) (defScope st) .none .none .none pm none cd .none
structure FnI(K:Fg)(x q:Str)(st:Stmt)(f:Addr)(pm cd:Value):Prop where
 l:K.lookup f=some ⟨.type "function", none,.func (fdM x q st pm cd),#[]⟩
 c:PySem.W.codeIn K cd q=true
 k:PySem.W.keepIn K (.ref f)=true
structure FnG(K:Fg)(x:Str)(st:Stmt)(f:Addr)(pm cd:Value):Prop where
 i:FnI K x x st f pm cd
 a:PySem.W.nsIn K mainGlobals x=some (some (.ref f))
structure FnM(K:Fg)(C:Addr)(x q:Str)(st:Stmt)(f:Addr)(pm cd:Value):Prop where
 i:FnI K x q st f pm cd
 a:PySem.W.findIn K (.ref C) x=some (some (.ref f))
 n:PySem.W.isFn K (.ref f)=true
theorem FnI.F{K:Fg}{x q:Str}{st:Stmt}{f:Addr}{pm cd:Value}(h:FnI K x q st f pm cd):Fun K x q st f (fdM x q st pm cd):=fun_mk h.l h.c h.k
abbrev pm0:Value:=(.str "law_oncedone_k24_ways_known" 563)
abbrev pm1:Value:=(.str "oncedone.plans" 403)
abbrev pm2:Value:=(.str "oncedone.ways" 533)
abbrev pm3:Value:=(.str "oncedone.words" 314)
abbrev pm4:Value:=(.str "oncedone.checks" 373)
theorem all_mk{l:PySem.W.OpenLaw}{w:World}{K:Fg}{h:Heap}{mg:Str->Option Value}{fa:Addr}(X:K.In h)(G:h.Ns mainGlobals mg)(hfa:mg "law" = some (.ref fa))
  (y_Plan:PySem.W.nsIn K mainGlobals "Plan" = some (some (.ref 269))) (pg_Plan:PySem.W.plainGet K 269 Str.empty=true) (hd_Plan:PySem.W.hasDictIn K 269=true) (po_Plan:PySem.W.plainOver K 269=true) (sa_Plan:PySem.W.findIn K (.ref 269) "__setattr__" = some (some (.builtin "object.__setattr__"))) (mk_Plan:PySem.W.makesIn K 269=true) (kc_Plan:PySem.W.keepIn K (.ref 269)=true)
  (na_Plan_entries:PySem.W.findIn K (.ref 269) "entries" = some none)
  (na_Plan_nexts:PySem.W.findIn K (.ref 269) "nexts" = some none)
  (na_Plan_rows:PySem.W.findIn K (.ref 269) "rows" = some none)
  (y_DEED_KINDS:PySem.W.nsIn K mainGlobals "DEED_KINDS" = some (some (.ref 111))) (l_DEED_KINDS:K.lookup 111=some ⟨.type "tuple", none,.seq (([(.str "plus" 324),(.str "minus" 325),(.str "times" 326),(.str "less" 327),(.str "same" 328)]:List Value).toArray) 0,#[]⟩)
  (y_FIRST_STEP:PySem.W.nsIn K mainGlobals "FIRST_STEP" = some (some (.ref 173))) (l_FIRST_STEP:K.lookup 173=some ⟨.type "tuple", none,.seq (([(.int (-1) 406),(.int (0) 407)]:List Value).toArray) 0,#[]⟩)
  (x0:FnG K "_law_bag" s_bag 302 pm0 (.ref 301))
  (x1:FnG K "_law_take" s_take 309 pm0 (.ref 308))
  (x2:FnG K "_law_net" s_net 363 pm0 (.ref 362))
  (x3:FnG K "_law_mended" s_mended 368 pm0 (.ref 367))
  (x4:FnG K "_law_name" s_name 321 pm0 (.ref 320))
  (x5:FnG K "_law_names" s_names 328 pm0 (.ref 327))
  (x6:FnG K "_law_value" s_value 335 pm0 (.ref 334))
  (x7:FnG K "_law_operand" s_operand 342 pm0 (.ref 341))
  (x8:FnG K "_law_deed" s_deed 349 pm0 (.ref 348))
  (x9:FnG K "_law_row" s_row 356 pm0 (.ref 355))
  (x10:FnG K "_law_drawn" s_drawn 373 pm0 (.ref 372))
  (x11:FnM K 269 "leads_to" "Plan.leads_to" s_Plan_leads_to 238 pm1 (.ref 237))
  (x12:FnG K "places_of" s_places_of 297 pm2 (.ref 296))
  (x13:FnG K "_law_shortest" s_shortest 394 pm0 (.ref 393))
  (x14:FnG K "_law_walk" s_walk 401 pm0 (.ref 400))
  (x15:FnG K "_law_whole" s_whole 316 pm0 (.ref 315))
  (x16:FnG K "_law_step" s_step 380 pm0 (.ref 379))
  (x17:FnG K "_law_places" s_places 387 pm0 (.ref 386))
  (x18:FnG K "is_whole" s_is_whole 118 pm3 (.ref 117))
  (x19:FnG K "is_below" s_is_below 158 pm4 (.ref 157))
  (x20:FnG K "is_step" s_is_step 280 pm2 (.ref 279))
  (x21:FnG K "is_way" s_is_way 285 pm2 (.ref 284))
  (x22:FnG K "is_whole_way" s_is_whole_way 292 pm2 (.ref 291))
  (x23:FnG K "_law_asked" s_asked 415 pm0 (.ref 414))
  (x24:FnG K "_law_spoilt" s_spoilt 408 pm0 (.ref 407))
  (x25:FnG K "check_length" s_check_length 165 pm4 (.ref 164))
  (x26:FnG K "is_name" s_is_name 130 pm3 (.ref 129))
  (x27:FnG K "is_value" s_is_value 125 pm3 (.ref 124))
  (x28:FnG K "is_operand" s_is_operand 137 pm3 (.ref 136))
  (x29:FnG K "is_deed" s_is_deed 144 pm3 (.ref 143))
  (x30:FnG K "is_row" s_is_row 151 pm3 (.ref 150))
  (x31:FnG K "check_each" s_check_each 172 pm4 (.ref 171))
  (x32:FnG K "are_nexts" s_are_nexts 178 pm1 (.ref 177))
  (x33:FnG K "check_nexts" s_check_nexts 183 pm1 (.ref 182))
  (x34:FnG K "reached" s_reached 200 pm1 (.ref 199))
  (x35:FnG K "turned" s_turned 193 pm1 (.ref 192))
  (x36:FnG K "stops_of" s_stops_of 188 pm1 (.ref 187))
  (x37:FnG K "check_ways" s_check_ways 207 pm1 (.ref 206))
  (x38:FnG K "steps_of" s_steps_of 212 pm1 (.ref 211))
  (x39:FnM K 269 "__init__" "Plan.__init__" s_Plan_init 224 pm1 (.ref 223))
  (x40:FnG K "law" s_law 422 pm0 (.ref 421))
  (z_abs:PySem.W.nsIn K mainGlobals "abs" = some none)
  (z_all:PySem.W.nsIn K mainGlobals "all" = some none)
  (z_any:PySem.W.nsIn K mainGlobals "any" = some none)
  (z_bool:PySem.W.nsIn K mainGlobals "bool" = some none)
  (z_enumerate:PySem.W.nsIn K mainGlobals "enumerate" = some none)
  (z_int:PySem.W.nsIn K mainGlobals "int" = some none)
  (z_isinstance:PySem.W.nsIn K mainGlobals "isinstance" = some none)
  (z_len:PySem.W.nsIn K mainGlobals "len" = some none)
  (z_list:PySem.W.nsIn K mainGlobals "list" = some none)
  (z_min:PySem.W.nsIn K mainGlobals "min" = some none)
  (z_range:PySem.W.nsIn K mainGlobals "range" = some none)
  (z_sorted:PySem.W.nsIn K mainGlobals "sorted" = some none)
  (z_str:PySem.W.nsIn K mainGlobals "str" = some none)
  (z_tuple:PySem.W.nsIn K mainGlobals "tuple" = some none)
  (z_zip:PySem.W.nsIn K mainGlobals "zip" = some none)
  (y_BOUND:PySem.W.nsIn K mainGlobals "BOUND" = some (some (.int (1000000000000) 316)))
  (y_FIGURES:PySem.W.nsIn K mainGlobals "FIGURES" = some (some (.str "0123456789" 320)))
  (y_LETTERS:PySem.W.nsIn K mainGlobals "LETTERS" = some (some (.str "abcdefghijklmnopqrstuvwxyz" 318)))
  (y_LONGEST_NAME:PySem.W.nsIn K mainGlobals "LONGEST_NAME" = some (some (.int (8) 322)))
  (y_MOST:PySem.W.nsIn K mainGlobals "MOST" = some (some (.int (400) 375)))
  : ∃fd:FuncData,(∀(s:Shared) (v:Value),BindsTo s fd ⟨[v],[]⟩ [("_law_script", v)])/\∀base:Heap,K.In base->base.Ns mainGlobals mg->FnOk l.prog w K mg base CX0 8 fa fd ["_law_script"] (sp_law K):=by
 have e:=hfa.symm.trans (PySem.W.mg_of X G x40.a)
 cases e
 let c:Cn:=⟨269,111,173⟩
 have ck:CnOk K c:=⟨⟨pg_Plan,hd_Plan,po_Plan,sa_Plan⟩,na_Plan_entries,na_Plan_nexts,na_Plan_rows,fun H=>.inr ⟨_,([(.str "plus" 324),(.str "minus" 325),(.str "times" 326),(.str "less" 327),(.str "same" 328)]:List Value).toArray,0,l_DEED_KINDS,rfl,rfl,by decide,.cons ⟨_,rfl⟩ ( .cons ⟨_,rfl⟩ ( .cons ⟨_,rfl⟩ ( .cons ⟨_,rfl⟩ ( .cons ⟨_,rfl⟩ ( .nil)))))⟩,fun H=>.inr ⟨_,([(.int (-1) 406),(.int (0) 407)]:List Value).toArray,0,l_FIRST_STEP,rfl,rfl,by decide,.cons ⟨_,rfl⟩ ( .cons ⟨_,rfl⟩ ( .nil))⟩⟩
 have T:Txt K mg c:=⟨PySem.W.mg_none_of X G z_abs,PySem.W.mg_none_of X G z_all,PySem.W.mg_none_of X G z_any,PySem.W.mg_none_of X G z_bool,PySem.W.mg_none_of X G z_enumerate,PySem.W.mg_none_of X G z_int,PySem.W.mg_none_of X G z_isinstance,PySem.W.mg_none_of X G z_len,PySem.W.mg_none_of X G z_list,PySem.W.mg_none_of X G z_min,PySem.W.mg_none_of X G z_range,PySem.W.mg_none_of X G z_sorted,PySem.W.mg_none_of X G z_str,PySem.W.mg_none_of X G z_tuple,PySem.W.mg_none_of X G z_zip,⟨_,PySem.W.mg_of X G y_BOUND,⟨_,rfl⟩⟩,⟨_,PySem.W.mg_of X G y_DEED_KINDS,rfl⟩,⟨_,PySem.W.mg_of X G y_FIGURES,⟨_,rfl⟩⟩,⟨_,PySem.W.mg_of X G y_FIRST_STEP,rfl⟩,⟨_,PySem.W.mg_of X G y_LETTERS,⟨_,rfl⟩⟩,⟨_,PySem.W.mg_of X G y_LONGEST_NAME,⟨_,rfl⟩⟩,⟨_,PySem.W.mg_of X G y_MOST,⟨_,rfl⟩⟩⟩
 have F0:=x0.i.F
 have F1:=x1.i.F
 have F2:=x2.i.F
 have F3:=x3.i.F
 have F4:=x4.i.F
 have F5:=x5.i.F
 have F6:=x6.i.F
 have F7:=x7.i.F
 have F8:=x8.i.F
 have F9:=x9.i.F
 have F10:=x10.i.F
 have F11:=x11.i.F
 have F12:=x12.i.F
 have F13:=x13.i.F
 have F14:=x14.i.F
 have F15:=x15.i.F
 have F16:=x16.i.F
 have F17:=x17.i.F
 have F18:=x18.i.F
 have F19:=x19.i.F
 have F20:=x20.i.F
 have F21:=x21.i.F
 have F22:=x22.i.F
 have F23:=x23.i.F
 have F24:=x24.i.F
 have F25:=x25.i.F
 have F26:=x26.i.F
 have F27:=x27.i.F
 have F28:=x28.i.F
 have F29:=x29.i.F
 have F30:=x30.i.F
 have F31:=x31.i.F
 have F32:=x32.i.F
 have F33:=x33.i.F
 have F34:=x34.i.F
 have F35:=x35.i.F
 have F36:=x36.i.F
 have F37:=x37.i.F
 have F38:=x38.i.F
 have F39:=x39.i.F
 have F40:=x40.i.F
 have b0:=F0.binds (ps:=["_law_script"]) fun _ _ _ _ _ _ us hl=>match us,hl with | [_],_=>rfl
 have b1:=F1.binds (ps:=["_law_bag_here", "_law_many"]) fun _ _ _ _ _ _ us hl=>match us,hl with | [_,_],_=>rfl
 have b2:=F2.binds (ps:=["_law_bag_here", "_law_many"]) fun _ _ _ _ _ _ us hl=>match us,hl with | [_,_],_=>rfl
 have b3:=F3.binds (ps:=["_law_nexts"]) fun _ _ _ _ _ _ us hl=>match us,hl with | [_],_=>rfl
 have b4:=F4.binds (ps:=["_law_bag_here"]) fun _ _ _ _ _ _ us hl=>match us,hl with | [_],_=>rfl
 have b5:=F5.binds (ps:=["_law_bag_here"]) fun _ _ _ _ _ _ us hl=>match us,hl with | [_],_=>rfl
 have b6:=F6.binds (ps:=["_law_bag_here"]) fun _ _ _ _ _ _ us hl=>match us,hl with | [_],_=>rfl
 have b7:=F7.binds (ps:=["_law_bag_here", "_law_names_here"]) fun _ _ _ _ _ _ us hl=>match us,hl with | [_,_],_=>rfl
 have b8:=F8.binds (ps:=["_law_bag_here", "_law_names_here"]) fun _ _ _ _ _ _ us hl=>match us,hl with | [_,_],_=>rfl
 have b9:=F9.binds (ps:=["_law_bag_here", "_law_names_here", "_law_pool", "_law_many"]) fun _ _ _ _ _ _ us hl=>match us,hl with | [_,_,_,_],_=>rfl
 have b10:=F10.binds (ps:=["_law_bag_here"]) fun _ _ _ _ _ _ us hl=>match us,hl with | [_],_=>rfl
 have b11:=F11.binds (ps:=["self", "step"]) fun _ _ _ _ _ _ us hl=>match us,hl with | [_,_],_=>rfl
 have b12:=F12.binds (ps:=["plan", "way"]) fun _ _ _ _ _ _ us hl=>match us,hl with | [_,_],_=>rfl
 have b13:=F13.binds (ps:=["_law_nexts", "_law_place"]) fun _ _ _ _ _ _ us hl=>match us,hl with | [_,_],_=>rfl
 have b14:=F14.binds (ps:=["_law_bag_here", "_law_nexts"]) fun _ _ _ _ _ _ us hl=>match us,hl with | [_,_],_=>rfl
 have b15:=F15.binds (ps:=["_law_thing"]) fun _ _ _ _ _ _ us hl=>match us,hl with | [_],_=>rfl
 have b16:=F16.binds (ps:=["_law_nexts", "_law_thing"]) fun _ _ _ _ _ _ us hl=>match us,hl with | [_,_],_=>rfl
 have b17:=F17.binds (ps:=["_law_nexts", "_law_way"]) fun _ _ _ _ _ _ us hl=>match us,hl with | [_,_],_=>rfl
 have b18:=F18.binds (ps:=["thing"]) fun _ _ _ _ _ _ us hl=>match us,hl with | [_],_=>rfl
 have b19:=F19.binds (ps:=["thing", "many"]) fun _ _ _ _ _ _ us hl=>match us,hl with | [_,_],_=>rfl
 have b20:=F20.binds (ps:=["plan", "thing"]) fun _ _ _ _ _ _ us hl=>match us,hl with | [_,_],_=>rfl
 have b21:=F21.binds (ps:=["plan", "way"]) fun _ _ _ _ _ _ us hl=>match us,hl with | [_,_],_=>rfl
 have b22:=F22.binds (ps:=["plan", "way"]) fun _ _ _ _ _ _ us hl=>match us,hl with | [_,_],_=>rfl
 have b23:=F23.binds (ps:=["_law_plan", "_law_nexts", "_law_way"]) fun _ _ _ _ _ _ us hl=>match us,hl with | [_,_,_],_=>rfl
 have b24:=F24.binds (ps:=["_law_bag_here", "_law_way", "_law_many"]) fun _ _ _ _ _ _ us hl=>match us,hl with | [_,_,_],_=>rfl
 have b25:=F25.binds (ps:=["things", "at", "least"]) fun _ _ _ _ _ _ us hl=>match us,hl with | [_,_,_],_=>rfl
 have b26:=F26.binds (ps:=["thing"]) fun _ _ _ _ _ _ us hl=>match us,hl with | [_],_=>rfl
 have b27:=F27.binds (ps:=["thing"]) fun _ _ _ _ _ _ us hl=>match us,hl with | [_],_=>rfl
 have b28:=F28.binds (ps:=["thing"]) fun _ _ _ _ _ _ us hl=>match us,hl with | [_],_=>rfl
 have b29:=F29.binds (ps:=["thing"]) fun _ _ _ _ _ _ us hl=>match us,hl with | [_],_=>rfl
 have b30:=F30.binds (ps:=["thing"]) fun _ _ _ _ _ _ us hl=>match us,hl with | [_],_=>rfl
 have b31:=F31.binds (ps:=["rights"]) fun _ _ _ _ _ _ us hl=>match us,hl with | [_],_=>rfl
 have b32:=F32.binds (ps:=["row", "following", "many"]) fun _ _ _ _ _ _ us hl=>match us,hl with | [_,_,_],_=>rfl
 have b33:=F33.binds (ps:=["rows", "nexts"]) fun _ _ _ _ _ _ us hl=>match us,hl with | [_,_],_=>rfl
 have b34:=F34.binds (ps:=["begins", "leads"]) fun _ _ _ _ _ _ us hl=>match us,hl with | [_,_],_=>rfl
 have b35:=F35.binds (ps:=["nexts"]) fun _ _ _ _ _ _ us hl=>match us,hl with | [_],_=>rfl
 have b36:=F36.binds (ps:=["nexts"]) fun _ _ _ _ _ _ us hl=>match us,hl with | [_],_=>rfl
 have b37:=F37.binds (ps:=["nexts"]) fun _ _ _ _ _ _ us hl=>match us,hl with | [_],_=>rfl
 have b38:=F38.binds (ps:=["nexts"]) fun _ _ _ _ _ _ us hl=>match us,hl with | [_],_=>rfl
 have b39:=F39.binds (ps:=["self", "rows", "nexts"]) fun _ _ _ _ _ _ us hl=>match us,hl with | [_,_,_],_=>rfl
 refine⟨fdM "law" "law" s_law pm0 (.ref 421),fun s v=>.of_eq rfl,fun base _ _=>?_⟩
 have c_bag:=callee_of F0 (@ok_bag l.prog w K mg base c _ _ F0 T ) (PySem.W.mg_of X G x0.a) b0
 have c_take:=callee_of F1 (@ok_take l.prog w K mg base c _ _ F1 T ) (PySem.W.mg_of X G x1.a) b1
 have c_net:=callee_of F2 (@ok_net l.prog w K mg base c _ _ F2 T c_take) (PySem.W.mg_of X G x2.a) b2
 have c_mended:=callee_of F3 (@ok_mended l.prog w K mg base c _ _ F3 T ) (PySem.W.mg_of X G x3.a) b3
 have c_name:=callee_of F4 (@ok_name l.prog w K mg base c _ _ F4 T c_take) (PySem.W.mg_of X G x4.a) b4
 have c_names:=callee_of F5 (@ok_names l.prog w K mg base c _ _ F5 T c_take c_name) (PySem.W.mg_of X G x5.a) b5
 have c_value:=callee_of F6 (@ok_value l.prog w K mg base c _ _ F6 T c_take) (PySem.W.mg_of X G x6.a) b6
 have c_operand:=callee_of F7 (@ok_operand l.prog w K mg base c _ _ F7 T c_take c_value) (PySem.W.mg_of X G x7.a) b7
 have c_deed:=callee_of F8 (@ok_deed l.prog w K mg base c _ _ F8 T c_take c_operand) (PySem.W.mg_of X G x8.a) b8
 have c_row:=callee_of F9 (@ok_row l.prog w K mg base c _ _ F9 T c_operand c_take) (PySem.W.mg_of X G x9.a) b9
 have c_drawn:=callee_of F10 (@ok_drawn l.prog w K mg base c _ _ F10 T c_take c_net c_mended c_names c_deed c_row) (PySem.W.mg_of X G x10.a) b10
 have c_Plan_leads_to:MCallee l.prog w K mg base 1 "leads_to" c.C_Plan ["self", "step"] (sp_Plan_leads_to K c):=⟨_,_,(@ok_Plan_leads_to l.prog w K mg base c _ _ F11 T ),ck.cls_Plan,⟨x11.a,x11.n,x11.i.k⟩,b11⟩
 have c_places_of:=callee_of F12 (@ok_places_of l.prog w K mg base c _ _ F12 T c_Plan_leads_to) (PySem.W.mg_of X G x12.a) b12
 have c_shortest:=callee_of F13 (@ok_shortest l.prog w K mg base c _ _ F13 T ) (PySem.W.mg_of X G x13.a) b13
 have c_walk:=callee_of F14 (@ok_walk l.prog w K mg base c _ _ F14 T c_take c_shortest) (PySem.W.mg_of X G x14.a) b14
 have c_whole:=callee_of F15 (@ok_whole l.prog w K mg base c _ _ F15 T ) (PySem.W.mg_of X G x15.a) b15
 have c_step:=callee_of F16 (@ok_step l.prog w K mg base c _ _ F16 T c_whole) (PySem.W.mg_of X G x16.a) b16
 have c_places:=callee_of F17 (@ok_places l.prog w K mg base c _ _ F17 T c_step) (PySem.W.mg_of X G x17.a) b17
 have c_is_whole:=callee_of F18 (@ok_is_whole l.prog w K mg base c _ _ F18 T ) (PySem.W.mg_of X G x18.a) b18
 have c_is_below:=callee_of F19 (@ok_is_below l.prog w K mg base c _ _ F19 T c_is_whole) (PySem.W.mg_of X G x19.a) b19
 have c_is_step:=callee_of F20 (@ok_is_step l.prog w K mg base c _ _ F20 T c_is_whole c_is_below) (PySem.W.mg_of X G x20.a) b20
 have c_is_way:=callee_of F21 (@ok_is_way l.prog w K mg base c _ _ F21 T c_is_step c_Plan_leads_to) (PySem.W.mg_of X G x21.a) b21
 have c_is_whole_way:=callee_of F22 (@ok_is_whole_way l.prog w K mg base c _ _ F22 T c_is_way c_Plan_leads_to) (PySem.W.mg_of X G x22.a) b22
 have c_asked:=callee_of F23 (@ok_asked l.prog w K mg base c _ _ F23 T c_places c_is_way c_is_whole_way c_places_of c_whole) (PySem.W.mg_of X G x23.a) b23
 have c_spoilt:=callee_of F24 (@ok_spoilt l.prog w K mg base c _ _ F24 T c_take) (PySem.W.mg_of X G x24.a) b24
 have c_check_length:=callee_of F25 (@ok_check_length l.prog w K mg base c _ _ F25 T ) (PySem.W.mg_of X G x25.a) b25
 have c_is_name:=callee_of F26 (@ok_is_name l.prog w K mg base c _ _ F26 T ) (PySem.W.mg_of X G x26.a) b26
 have c_is_value:=callee_of F27 (@ok_is_value l.prog w K mg base c _ _ F27 T c_is_whole) (PySem.W.mg_of X G x27.a) b27
 have c_is_operand:=callee_of F28 (@ok_is_operand l.prog w K mg base c _ _ F28 T c_is_name c_is_value) (PySem.W.mg_of X G x28.a) b28
 have c_is_deed:=callee_of F29 (@ok_is_deed l.prog w K mg base c _ _ F29 T c_is_operand) (PySem.W.mg_of X G x29.a) b29
 have c_is_row:=callee_of F30 (@ok_is_row l.prog w K mg base c _ _ F30 T c_is_name c_is_deed c_is_operand) (PySem.W.mg_of X G x30.a) b30
 have c_check_each:=callee_of F31 (@ok_check_each l.prog w K mg base c _ _ F31 T ) (PySem.W.mg_of X G x31.a) b31
 have c_are_nexts:=callee_of F32 (@ok_are_nexts l.prog w K mg base c _ _ F32 T c_is_below) (PySem.W.mg_of X G x32.a) b32
 have c_check_nexts:=callee_of F33 (@ok_check_nexts l.prog w K mg base c _ _ F33 T c_are_nexts c_check_each) (PySem.W.mg_of X G x33.a) b33
 have c_reached:=callee_of F34 (@ok_reached l.prog w K mg base c _ _ F34 T ) (PySem.W.mg_of X G x34.a) b34
 have c_turned:=callee_of F35 (@ok_turned l.prog w K mg base c _ _ F35 T ) (PySem.W.mg_of X G x35.a) b35
 have c_stops_of:=callee_of F36 (@ok_stops_of l.prog w K mg base c _ _ F36 T ) (PySem.W.mg_of X G x36.a) b36
 have c_check_ways:=callee_of F37 (@ok_check_ways l.prog w K mg base c _ _ F37 T c_reached c_turned c_stops_of) (PySem.W.mg_of X G x37.a) b37
 have c_steps_of:=callee_of F38 (@ok_steps_of l.prog w K mg base c _ _ F38 T ) (PySem.W.mg_of X G x38.a) b38
 have m_Plan:Maker l.prog w K mg base 6 "Plan" c.C_Plan ["self", "rows", "nexts"] (sp_Plan_init K c):=⟨_,_,(@ok_Plan_init l.prog w K mg base c _ _ F39 T c_check_length c_is_row c_check_each c_check_nexts c_check_ways c_steps_of c_Plan_leads_to),PySem.W.mg_of X G y_Plan,⟨mk_Plan,x39.a,x39.n,kc_Plan⟩,b39⟩
 exact ok_law F40 T ck c_bag c_drawn c_places_of c_walk c_asked c_spoilt m_Plan
theorem walk{l:PySem.W.OpenLaw}{q:Program}{loose:List Str}{XP:(Str->Option Value)->Heap->Prop}{YP:World->Heap->Prop}{d:DefRec}{K:Params->Fg}(hn:l.most=some 63)(hdf:d.params.defaults=[])
  (hY:∀(w:World) (h:Heap),YP w h->(K w.params).In h)
  (F:∀(w:World) (mg:Str->Option Value) (fa:Addr) (h:Heap),(K w.params).In h->h.Ns mainGlobals mg->mg d.name=some (.ref fa) ->
   ∃fd:FuncData,(∀(s:Shared) (u:Value),BindsTo s fd ⟨[u],[]⟩ [("_law_script", u)])/\∀base:Heap,(K w.params).In base->base.Ns mainGlobals mg->FnOk l.prog w (K w.params) mg base CX0 8 fa fd ["_law_script"] (sp_law (K w.params))) :
  PySem.W.WalkO q loose XP YP l.row.toRowW d [] (fun f vs=>PySem.call f vs):=
 L2.walk_of (n:=63) (k:=8) (x := "_law_script") (CX:=fun _=>CX0) (sp:=fun w=>sp_law (K w.params)) hn (by decide) hdf ⟨rfl,by decide,by decide⟩ hY F (fun _ _ a ns hl hO hS=>RD.law_reading _ hl hO hS) fun _ _ _ _ _ z=>z
end PR
open PySem PySem.W PyProof.Rows
set_option maxRecDepth 100000 in
set_option maxHeartbeats 0 in
theorem PySem.Challenge.cw_oncedone_k24_ways_known_holds : PySem.Challenge.rw_oncedone_k24_ways_known.Holds := by
 refine HD.fin fun d hd hdf=>PR.walk (l:=HD.row) (K:=HD.K) rfl hdf (fun w h Y=>PySem.W.kIn_of Y) ?F
 intro w mg fa h KX G hmg
 rw[hd]at hmg
 exact PR.all_mk KX G hmg
  (by kernel_rfl)
  (by kernel_rfl)
  (by kernel_rfl)
  (by kernel_rfl)
  (by kernel_rfl)
  (by kernel_rfl)
  (by kernel_rfl)
  (by kernel_rfl)
  (by kernel_rfl)
  (by kernel_rfl)
  (by kernel_rfl)
  (by kernel_rfl)
  (by kernel_rfl)
  (by kernel_rfl)
  ⟨⟨by kernel_rfl,by kernel_rfl,by kernel_rfl⟩,by kernel_rfl⟩
  ⟨⟨by kernel_rfl,by kernel_rfl,by kernel_rfl⟩,by kernel_rfl⟩
  ⟨⟨by kernel_rfl,by kernel_rfl,by kernel_rfl⟩,by kernel_rfl⟩
  ⟨⟨by kernel_rfl,by kernel_rfl,by kernel_rfl⟩,by kernel_rfl⟩
  ⟨⟨by kernel_rfl,by kernel_rfl,by kernel_rfl⟩,by kernel_rfl⟩
  ⟨⟨by kernel_rfl,by kernel_rfl,by kernel_rfl⟩,by kernel_rfl⟩
  ⟨⟨by kernel_rfl,by kernel_rfl,by kernel_rfl⟩,by kernel_rfl⟩
  ⟨⟨by kernel_rfl,by kernel_rfl,by kernel_rfl⟩,by kernel_rfl⟩
  ⟨⟨by kernel_rfl,by kernel_rfl,by kernel_rfl⟩,by kernel_rfl⟩
  ⟨⟨by kernel_rfl,by kernel_rfl,by kernel_rfl⟩,by kernel_rfl⟩
  ⟨⟨by kernel_rfl,by kernel_rfl,by kernel_rfl⟩,by kernel_rfl⟩
  ⟨⟨by kernel_rfl,by kernel_rfl,by kernel_rfl⟩,by kernel_rfl,by kernel_rfl⟩
  ⟨⟨by kernel_rfl,by kernel_rfl,by kernel_rfl⟩,by kernel_rfl⟩
  ⟨⟨by kernel_rfl,by kernel_rfl,by kernel_rfl⟩,by kernel_rfl⟩
  ⟨⟨by kernel_rfl,by kernel_rfl,by kernel_rfl⟩,by kernel_rfl⟩
  ⟨⟨by kernel_rfl,by kernel_rfl,by kernel_rfl⟩,by kernel_rfl⟩
  ⟨⟨by kernel_rfl,by kernel_rfl,by kernel_rfl⟩,by kernel_rfl⟩
  ⟨⟨by kernel_rfl,by kernel_rfl,by kernel_rfl⟩,by kernel_rfl⟩
  ⟨⟨by kernel_rfl,by kernel_rfl,by kernel_rfl⟩,by kernel_rfl⟩
  ⟨⟨by kernel_rfl,by kernel_rfl,by kernel_rfl⟩,by kernel_rfl⟩
  ⟨⟨by kernel_rfl,by kernel_rfl,by kernel_rfl⟩,by kernel_rfl⟩
  ⟨⟨by kernel_rfl,by kernel_rfl,by kernel_rfl⟩,by kernel_rfl⟩
  ⟨⟨by kernel_rfl,by kernel_rfl,by kernel_rfl⟩,by kernel_rfl⟩
  ⟨⟨by kernel_rfl,by kernel_rfl,by kernel_rfl⟩,by kernel_rfl⟩
  ⟨⟨by kernel_rfl,by kernel_rfl,by kernel_rfl⟩,by kernel_rfl⟩
  ⟨⟨by kernel_rfl,by kernel_rfl,by kernel_rfl⟩,by kernel_rfl⟩
  ⟨⟨by kernel_rfl,by kernel_rfl,by kernel_rfl⟩,by kernel_rfl⟩
  ⟨⟨by kernel_rfl,by kernel_rfl,by kernel_rfl⟩,by kernel_rfl⟩
  ⟨⟨by kernel_rfl,by kernel_rfl,by kernel_rfl⟩,by kernel_rfl⟩
  ⟨⟨by kernel_rfl,by kernel_rfl,by kernel_rfl⟩,by kernel_rfl⟩
  ⟨⟨by kernel_rfl,by kernel_rfl,by kernel_rfl⟩,by kernel_rfl⟩
  ⟨⟨by kernel_rfl,by kernel_rfl,by kernel_rfl⟩,by kernel_rfl⟩
  ⟨⟨by kernel_rfl,by kernel_rfl,by kernel_rfl⟩,by kernel_rfl⟩
  ⟨⟨by kernel_rfl,by kernel_rfl,by kernel_rfl⟩,by kernel_rfl⟩
  ⟨⟨by kernel_rfl,by kernel_rfl,by kernel_rfl⟩,by kernel_rfl⟩
  ⟨⟨by kernel_rfl,by kernel_rfl,by kernel_rfl⟩,by kernel_rfl⟩
  ⟨⟨by kernel_rfl,by kernel_rfl,by kernel_rfl⟩,by kernel_rfl⟩
  ⟨⟨by kernel_rfl,by kernel_rfl,by kernel_rfl⟩,by kernel_rfl⟩
  ⟨⟨by kernel_rfl,by kernel_rfl,by kernel_rfl⟩,by kernel_rfl⟩
  ⟨⟨by kernel_rfl,by kernel_rfl,by kernel_rfl⟩,by kernel_rfl,by kernel_rfl⟩
  ⟨⟨by kernel_rfl,by kernel_rfl,by kernel_rfl⟩,by kernel_rfl⟩
  (by kernel_rfl)
  (by kernel_rfl)
  (by kernel_rfl)
  (by kernel_rfl)
  (by kernel_rfl)
  (by kernel_rfl)
  (by kernel_rfl)
  (by kernel_rfl)
  (by kernel_rfl)
  (by kernel_rfl)
  (by kernel_rfl)
  (by kernel_rfl)
  (by kernel_rfl)
  (by kernel_rfl)
  (by kernel_rfl)
  (by kernel_rfl)
  (by kernel_rfl)
  (by kernel_rfl)
  (by kernel_rfl)
  (by kernel_rfl)
