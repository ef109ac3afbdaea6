import PyProof.Rows.All
import KE.KEqDict
import KE.KDictList
import KE.KIsAll
import KE.KDictOf
import KE.KItem
import Lean
import PyProof.EqAt
import PyProof.EqKinds
import PyProof.TupleCall
import PyProof.NeKinds
import PySem.Challenge.RW_oncedone_k45_two_deeds_by_turns
set_option Elab.async false
set_option linter.all false
set_option maxRecDepth 100000
namespace L2
open PySem PySem.Spec PyProof.Rows
abbrev Key:=Sum Int Str
def keyIs:Key->Value->Bool
 | .inl k,v=>Value.isInt k v
 | .inr x,v=>Value.isStrOf x v
def keyH(w:World):Key->Int
 | .inl k=>hashInt k
 | .inr x=>hashStr w x
theorem keyIs_shape:∀ {k:Key} {v:Value},keyIs k v=true->(∃i t,k=Sum.inl i/\v=Value.int i t)\/(∃x t,k=Sum.inr x/\v=Value.str x t)
 | .inl i,v,h=>by
  obtain⟨t,e⟩:=Value.isInt_shape (k:=i) (v:=v) h;exact .inl ⟨i,t,rfl,e⟩
 | .inr x,v,h=>by
  obtain⟨t,e⟩:=Value.isStrOf_shape (x:=x) (v:=v) h;exact .inr ⟨x,t,rfl,e⟩
theorem keyIs_int(i:Int)(t:Tok):keyIs (.inl i) (.int i t)=true:=by simp[keyIs,Value.isInt]
theorem keyIs_str(x:Str)(t:Tok):keyIs (.inr x) (.str x t)=true:=by simp[keyIs,Value.isStrOf]
theorem key_ll(a b:Int):decide ((Sum.inl a:Key)=Sum.inl b)=(a == b):=by
 by_cases e:a=b
 ·subst e;simp
 ·have h:¬(Sum.inl a:Key)=Sum.inl b:=fun q=>e (Sum.inl.inj q)
  rw[decide_eq_false h];exact(beq_eq_false_iff_ne.mpr e).symm
theorem key_rr(a b:Str):decide ((Sum.inr a:Key)=Sum.inr b)=decide (a=b):=by
 by_cases e:a=b
 ·subst e;simp
 ·have h:¬(Sum.inr a:Key)=Sum.inr b:=fun q=>e (Sum.inr.inj q)
  rw[decide_eq_false h,decide_eq_false e]
theorem key_lr(a:Int)(b:Str):decide ((Sum.inl a:Key)=Sum.inr b)=false:=decide_eq_false (fun q=>nomatch q)
theorem key_rl(a:Str)(b:Int):decide ((Sum.inr a:Key)=Sum.inl b)=false:=decide_eq_false (fun q=>nomatch q)
def mixKind(prog:Program)(w:World):PySem.KeyKind prog w Key where
 is:=keyIs
 hash:=keyH w
 inj:=fun v a b ha hb=>by
  rcases keyIs_shape ha with ⟨i,t,rfl,rfl⟩ | ⟨x,t,rfl,rfl⟩
  ·rcases keyIs_shape hb with ⟨j,u,rfl,e⟩ | ⟨y,u,rfl,e⟩
   ·injection e with e1 _;rw[e1]
   ·exact nomatch e
  ·rcases keyIs_shape hb with ⟨j,u,rfl,e⟩ | ⟨y,u,rfl,e⟩
   ·exact nomatch e
   ·injection e with e1 _;rw[e1]
 byValue:=fun k v h=>by
  rcases keyIs_shape h with ⟨i,t,rfl,rfl⟩ | ⟨x,t,rfl,rfl⟩ <;> rfl
 pyHash:=fun hv h=>by
  rcases keyIs_shape hv with ⟨i,t,rfl,rfl⟩ | ⟨x,t,rfl,rfl⟩
  ·exact wpAny_pyHash_int h
  ·exact wpAny_pyHash_str h
 eqBool:=fun hu hv h=>by
  rcases keyIs_shape hu with ⟨i,t,rfl,rfl⟩ | ⟨x,t,rfl,rfl⟩
  ·rcases keyIs_shape hv with ⟨j,u,rfl,rfl⟩ | ⟨y,u,rfl,rfl⟩
   ·rw[key_ll]at h;exact wpAny_eqBool_int h
   ·rw[key_lr]at h;exact SeqAt.EqAt.int_str i t y u _ _ _ _ h
  ·rcases keyIs_shape hv with ⟨j,u,rfl,rfl⟩ | ⟨y,u,rfl,rfl⟩
   ·rw[key_rl]at h;exact SeqAt.EqAt.str_int x t j u _ _ _ _ h
   ·rw[key_rr]at h;exact wpAny_eqBool_str h
 «strs» := fun k x t v h=>by
  rcases keyIs_shape h with ⟨i,u,rfl,e⟩ | ⟨y,u,rfl,e⟩
  ·exact nomatch e
  ·injection e with e1 _
   subst e1;cases v <;> rfl
theorem mixKind_int(prog:Program)(w:World)(i:Int)(t:Tok):(mixKind prog w).is (.inl i) (.int i t)=true:=keyIs_int i t
theorem mixKind_str(prog:Program)(w:World)(x:Str)(t:Tok):(mixKind prog w).is (.inr x) (.str x t)=true:=keyIs_str x t
end L2
namespace L2
open PySem PySem.Spec PyProof.Rows
inductive V where
 | non | bl (b:Bool) | int (i:Int) | str (x:Str) | byt (b:Array UInt8) | flt (b:UInt64) | ref (a:Addr) | ty (n:String)
 deriving DecidableEq
def RelV:V->Value->Prop
 | .non,u=>u=Value.none
 | .bl b,u=>u=Value.bool b
 | .int i,u=>∃t,u=Value.int i t
 | .str x,u=>∃t,u=Value.str x t
 | .byt b,u=>∃t,u=Value.bytes b t
 | .flt b,u=>∃t,u=Value.float b t
 | .ref a,u=>u=Value.ref a
 | .ty n,u=>u=Value.type n
abbrev Vals:List V->List Value->Prop:=Paired RelV
theorem Vals.length{xs:List V}{us:List Value}(r:Vals xs us):xs.length=us.length:=Paired.length r
theorem Vals.get:∀ {xs:List V} {us:List Value} {i:Nat} {x:V},Vals xs us->xs[i]? = some x->∃u,us[i]? = some u/\RelV x u
 | _,_,_,_,.nil,e=>by simp at e
 | _,_,0,_,.cons r _,e=>by simp at e;subst e;exact⟨_,rfl,r⟩
 | _,_,i+1,x,.cons _ t,e=>by
  obtain⟨u,h1,h2⟩:=Vals.get (i:=i) (x:=x) t (by simpa using e);exact⟨u,by simpa using h1,h2⟩
theorem Vals.set{x:V}{u:Value}(r:RelV x u):∀ {xs:List V} {us:List Value} (i:Nat),Vals xs us->Vals (xs.set i x) (us.set i u)
 | _,_,_,.nil=>.nil
 | _,_,0,.cons _ t=>.cons r t
 | _,_,i+1,.cons q t=>.cons q (Vals.set r i t)
theorem Vals.append:∀ {xs ys:List V} {us ws:List Value},Vals xs us->Vals ys ws->Vals (xs++ys) (us++ws)
 | _,_,_,_,.nil,s=>s
 | _,_,_,_,.cons r t,s=>.cons r (Vals.append t s)
theorem Vals.take:∀ {xs:List V} {us:List Value} (n:Nat),Vals xs us->Vals (xs.take n) (us.take n)
 | _,_,0,_=>.nil
 | _,_,_+1,.nil=>.nil
 | _,_,n+1,.cons r t=>.cons r (Vals.take n t)
theorem Vals.drop:∀ {xs:List V} {us:List Value} (n:Nat),Vals xs us->Vals (xs.drop n) (us.drop n)
 | _,_,0,r=>r
 | _,_,_+1,.nil=>.nil
 | _,_,n+1,.cons _ t=>Vals.drop n t
def RelO:Option V->Option Value->Prop
 | some v,some u=>RelV v u
 | none,none=>True
 | _,_=>False
def KV{κ:Type}:List (κ×V)->List (κ×Value)->Prop:=Paired fun(p:κ×V) (q:κ×Value)=>p.1=q.1/\RelV p.2 q.2
def kV:Key->V
 | .inl i=>.int i
 | .inr x=>.str x
inductive HO where
 /-- a list -/
 | lst (xs:List V)
 /-- a tuple (never changes) -/
 | tup (xs:List V)
 /-- a dict whose keys are ints and texts;one whose keys are tuples of ints and texts (the empty one is both) -/
 | dK (kvs:List (Key×V)) | dT (kvs:List (List Key×V))
 /-- a set of ints: its members,its size -/
 | set (S:Int->Bool) (n:Nat)
 /-- an instance of the class at C,its dict at dx,its attributes -/
 | ins (C dx:Addr) (fs:List (Str×V))
 /-- the dict of the instance at x -/
 | own (x:Addr)
 /-- the dict of an exception -/
 | xd (fs:List (Str×V))
 /-- a bound method,f of x -/
 | met (f x:Addr)
 /-- a range object lo,lo+1,.. below hi -/
 | rng (lo hi:Int)
 /-- a thing that is known to the object (the script;a dict while a loop walks it): read,never written while it is so -/
 | frz (o:Obj) (u:HO)
 /-- a code object's table -/
 | tbl (ps:Array Value)
 /-- any other thing,by what is true of its one object (a def of one's own: SetO a S n:=HO.ext fun h=>..) -/
 | ext (φ:Heap->Prop)
abbrev Hp:=Addr->Option HO
def upd(H:Hp)(a:Addr)(o:HO):Hp:=fun b=>if b=a then some o else H b
theorem upd_same{H:Hp}{a:Addr}{o:HO}:upd H a o a=some o:=by unfold upd;rw[if_pos rfl]
theorem upd_ne{H:Hp}{a b:Addr}{o:HO}(h:b≠a):upd H a o b=H b:=by unfold upd;rw[if_neg h]
theorem upd_upd{H:Hp}{a:Addr}{o u:HO}:upd (upd H a o) a u=upd H a u:=by
 funext b;unfold upd;split <;> rfl
theorem ne_of{H:Hp}{a b:Addr}{o u:HO}(h:H a=some o)(h':H b=some u)(d:o≠u):a≠b:=by
 intro e;subst e;rw[h]at h';exact d (Option.some.inj h')
theorem ne_of_none{H:Hp}{a b:Addr}{o:HO}(h:H a=some o)(h':H b=none):a≠b:=by
 intro e;subst e;rw[h]at h';cases h'
section
variable (P:Program)(w:World)
def ObjOk(H:Hp)(h:Heap)(a:Addr):HO->Prop
 | .lst xs=>xs.length<=sizeLine/\∃(its:List Value) (n:Nat),Vals xs its/\h.get? a=some { cls:=.type "list", data:=.seq its.toArray n }
 | .tup xs=>xs.length<=sizeLine/\∃its:List Value,Vals xs its/\IsTup h a its.toArray
 | .dK kvs=>kvs.length<=sizeLine/\(a == sysModules)=false/\∃vs,KV kvs vs/\h.DictOf (mixKind P w) a vs
 | .dT kvs=>kvs.length<=sizeLine/\(a == sysModules)=false/\∃xs:List (List Key×Addr×Value),
   Paired (fun(p:List Key×V) (q:List Key×Addr×Value)=>p.1=q.1/\H q.2.1=some (.tup (p.1.map kV))/\RelV p.2 q.2.2) kvs xs /\
   ∃o es ep,h.get? a=some o/\o.ExactDict/\o.data=.dict es ep/\es.toList=xs.map (entryOfKey (tupleKind (mixKind P w)))/\(xs.map (·.1)).Nodup
 | .set S n=>h.SetOf (intKind P w) a S n
 | .ins C dx fs=>H dx=some (.own a)/\fs.length<=1000/\dx≠a/\h.get? a=some (PySem.W.instObj C dx) /\
   ∃mA,h.Ns1 dx mA/\(∀f,RelO (fs.lookup f) (mA f))/\PySem.Within mA (fs.map (·.1))
 | .own _=>∃o,h.get? a=some o
 | .xd fs=>∃mA,h.Ns1 a mA/\∀f,RelO (fs.lookup f) (mA f)
 | .rng lo hi=>∃t u v,h.get? a=some { cls:=.type "range", data:=.fields #[.int lo t,.int hi u,.int 1 v] }
 | .frz o u=>h.get? a=some o/\ObjOk H h a u
 | .tbl ps=>h.get? a=some { cls:=.none,data:=.fields ps }
 | .met f x=>h.get? a=some (PySem.W.methodObj (.ref f) (.ref x))
 | .ext φ=>φ h/\(∃o,h.get? a=some o)/\∀h1 h2:Heap,φ h1->(∀o,h1.get? a=some o->h2.get? a=some o)->φ h2
def HOk(H:Hp)(h:Heap):Prop:=∀a o,H a=some o->ObjOk P w H h a o
end
section
variable {P:Program}{w:World}{H H':Hp}{h h':Heap}{a:Addr}{o:HO}
theorem ObjOk.lt(x:ObjOk P w H h a o):a<h.objs.size:=by
 cases o with
 | lst xs=>obtain⟨_,_,_,_,e⟩:=x;exact Heap.lt_size e
 | tup xs=>obtain⟨_,_,_,p⟩:=x;exact p.lt
 | dK kvs=>obtain⟨_,_,_,_,o,_,_,e,_⟩:=x;exact Heap.lt_size e
 | dT kvs=>obtain⟨_,_,_,_,o,_,_,e,_⟩:=x;exact Heap.lt_size e
 | set S n=>obtain⟨o,_,_,_,e,_⟩:=x;exact Heap.lt_size e
 | ins C dx fs=>obtain⟨_,_,_,e,_⟩:=x;exact Heap.lt_size e
 | own y=>obtain⟨_,e⟩:=x;exact Heap.lt_size e
 | xd fs=>obtain⟨_,⟨_,_,_,e,_⟩,_⟩:=x;exact Heap.lt_size e
 | rng lo hi=>obtain⟨_,_,_,e⟩:=x;exact Heap.lt_size e
 | frz ob u=>obtain⟨e,_⟩:=x;exact Heap.lt_size e
 | tbl ps=>exact Heap.lt_size (show h.get? a=some _ from x)
 | met f y=>exact Heap.lt_size (show h.get? a=some _ from x)
 | ext φ=>obtain⟨_,⟨_,e⟩,_⟩:=x;exact Heap.lt_size e
theorem Paired.mapP{α β:Type}{F G:α->β->Prop}:∀ {l₁:List α} {l₂:List β},Paired F l₁ l₂->(∀a b,F a b->G a b)->Paired G l₁ l₂
 | _,_,.nil,_=>.nil
 | _,_,.cons r t,f=>.cons (f _ _ r) (Paired.mapP t f)
theorem ObjOk.stay(x:ObjOk P w H h a o)(k:∀b u,(b=a\/H b=some (.own a))->h.get? b=some u->h'.get? b=some u)
  (ho:∀b,H b=some (.own a)->H' b=some (.own a)) (ht:∀b xs,H b=some (.tup xs)->H' b=some (.tup xs)):ObjOk P w H' h' a o:=by
 induction o with
 | lst xs=>obtain⟨z,its,n,r,e⟩:=x;exact⟨z,its,n,r,k _ _ (.inl rfl) e⟩
 | tup xs=>obtain⟨z,its,r,ob,e,c⟩:=x;exact⟨z,its,r,ob,k _ _ (.inl rfl) e,c⟩
 | dK kvs=>obtain⟨z,y,vs,r,ob,es,ep,e,c⟩:=x;exact⟨z,y,vs,r,ob,es,ep,k _ _ (.inl rfl) e,c⟩
 | dT kvs=>
  obtain⟨z,y,xs,r,ob,es,ep,e,c⟩:=x;exact⟨z,y,xs,Paired.mapP r fun p q z=>⟨z.1,ht _ _ z.2.1,z.2.2⟩,ob,es,ep,k _ _ (.inl rfl) e,c⟩
 | set S n=>obtain⟨ob,es,ep,t,e,c⟩:=x;exact⟨ob,es,ep,t,k _ _ (.inl rfl) e,c⟩
 | ins C dx fs=>
  obtain⟨d,z,ne,e,mA,⟨od,es,ep,e2,c⟩,r⟩:=x;exact⟨ho _ d,z,ne,k _ _ (.inl rfl) e,mA,⟨od,es,ep,k _ _ (.inr d) e2,c⟩,r⟩
 | own y=>obtain⟨ob,e⟩:=x;exact⟨ob,k _ _ (.inl rfl) e⟩
 | xd fs=>obtain⟨mA,⟨od,es,ep,e,c⟩,r⟩:=x;exact⟨mA,⟨od,es,ep,k _ _ (.inl rfl) e,c⟩,r⟩
 | rng lo hi=>obtain⟨t,u,v,e⟩:=x;exact⟨t,u,v,k _ _ (.inl rfl) e⟩
 | frz ob u ih=>obtain⟨e,q⟩:=x;exact⟨k _ _ (.inl rfl) e,ih q⟩
 | tbl ps=>
  have e:h.get? a=some { cls:=.none,data:=.fields ps }:=x;show h'.get? a=some { cls:=.none,data:=.fields ps };exact k a _ (.inl rfl) e
 | met f y=>
  have e:h.get? a=some (PySem.W.methodObj (.ref f) (.ref y)):=x;show h'.get? a=some (PySem.W.methodObj (.ref f) (.ref y));exact k a _ (.inl rfl) e
 | ext φ=>obtain⟨p,⟨o,e⟩,st⟩:=x;exact⟨st _ _ p fun o q=>k _ _ (.inl rfl) q,⟨o,k _ _ (.inl rfl) e⟩,st⟩
theorem HOk.lt(x:HOk P w H h)(e:H a=some o):a<h.objs.size:=(x a o e).lt
theorem HOk.fresh(x:HOk P w H h)(e:h.objs.size<=a):H a=none:=by
 cases q:H a with
 | none=>rfl
 | some u=>exact absurd (Nat.lt_of_lt_of_le (x.lt q) e) (Nat.lt_irrefl _)
theorem HOk.kept(x:HOk P w H h)(k:∀b u,h.get? b=some u->h'.get? b=some u):HOk P w H h':=fun a o e=>
 (x a o e).stay (fun b u _ q=>k b u q) (fun _ q=>q) fun _ _ q=>q
theorem HOk.laid(x:HOk P w H h)(k:∀b u,h.get? b=some u->h'.get? b=some u)(hp:h.objs.size<=a)(new:ObjOk P w (upd H a o) h' a o):HOk P w (upd H a o) h':=fun b u e=>by
 have hn:=x.fresh hp;by_cases hb:b=a
 ·subst hb;rw[upd_same]at e;cases e;exact new
 ·rw[upd_ne hb]at e
  exact(x b u e).stay (fun c v _ q=>k c v q) (fun c q=>by rw[upd_ne (ne_of_none q hn)];exact q) fun c xs q=>by rw[upd_ne (ne_of_none q hn)];exact q
end
def Rd(H:Hp)(a:Addr)(u:HO):Prop:=H a=some u\/∃o,H a=some (.frz o u)
theorem Rd.ok{P:Program}{w:World}{H:Hp}{h:Heap}{a:Addr}{u:HO}(r:Rd H a u)(x:HOk P w H h):ObjOk P w H h a u:=by
 rcases r with r | ⟨o,r⟩
 ·exact x a u r
 ·obtain⟨_,q⟩:=x a _ r
  exact q
def Mut:Option HO->Prop
 | some (.lst _)=>True
 | some (.dK _)=>True
 | some (.dT _)=>True
 | some (.set _ _)=>True
 | some (.ins _ _ _)=>True
 | some (.ext _)=>True
 | _=>False
section
variable {P:Program}{w:World}{H:Hp}{h h':Heap}{x e:Addr}{o':HO}
theorem HOk.write(ok:HOk P w H h)(mu:Mut (H x))(he:e=x\/H e=some (.own x))(k:∀b u,b≠e->h.get? b=some u->h'.get? b=some u)(heo:∃u,h'.get? e=some u)
  (new:ObjOk P w (upd H x o') h' x o'):HOk P w (upd H x o') h':=fun b u q=>by
 have nown:∀c y,H c=some (.own y)->c≠x:=fun c y r z=>by subst z;rw[r]at mu;exact mu
 have ntup:∀c xs,H c=some (.tup xs)->c≠x:=fun c xs r z=>by subst z;rw[r]at mu;exact mu
 by_cases hb:b=x
 ·subst hb;rw[upd_same]at q;cases q;exact new
 ·rw[upd_ne hb]at q
  by_cases hbe:b=e
  ·have q':H b=some (.own x):=by
    rcases he with z | z
    ·exact absurd (hbe.trans z) hb
    ·rw[hbe];exact z
   rw[q]at q';cases q';obtain⟨v,hv⟩:=heo;exact⟨v,by rw[hbe];exact hv⟩
  ·refine(ok b u q).stay (fun c v hc r=>k c v ?_ r) (fun c r=>by rw[upd_ne (nown c b r)];exact r) fun c xs r=>by rw[upd_ne (ntup c xs r)];exact r
   rcases hc with rfl | hc
   ·exact hbe
   ·rintro rfl
    rcases he with z | z
    ·exact nown c b hc z
    ·rw[hc]at z;cases z;exact hb rfl
end
structure Un(fs ex:List Addr)(H H':Hp)(h h':Heap):Prop where
 keep:∀b o,h.get? b=some o->H b=none->b∉fs->b∉ex->h'.get? b=some o
 slot:∀b o,h.get? b=some o->H b=none->b∈fs->b∉ex->∃sl,h'.get? b=some { o with slots:=sl }
 free:∀b o,h.get? b=some o->H b=none->b∉ex->H' b=none
 there:∀b o,h.get? b=some o->b∉ex->∃o',h'.get? b=some o'
 tups:∀b xs,H b=some (.tup xs)->H' b=some (.tup xs)
 frzs:∀b o u,H b=some (.frz o u)->H' b=some (.frz o u)
 tbls:∀b ps,H b=some (.tbl ps)->∃more,H' b=some (.tbl (ps++more))
section
variable {fs fs' ex ex':List Addr}{H H1 H2:Hp}{h h1 h2 h':Heap}{a x e:Addr}{o:HO}
theorem Un.any(u:Un fs ex H H1 h h1){b:Addr}{ob:Obj}(q:h.get? b=some ob)(n:H b=none)(hx:b∉ex):∃sl,h1.get? b=some { ob with slots:=sl }:=by
 by_cases hb:b∈fs
 ·exact u.slot b ob q n hb hx
 ·exact⟨ob.slots,u.keep b ob q n hb hx⟩
theorem Un.kept(k:∀b u,h.get? b=some u->h'.get? b=some u):Un fs ex H H h h':=
 ⟨fun b ob q _ _ _=>k b ob q,fun b ob q _ _ _=>⟨ob.slots,k b ob q⟩,fun _ _ _ n _=>n,fun b ob q _=>⟨ob,k b ob q⟩,fun _ _ q=>q,fun _ _ _ q=>q,fun _ ps q=>⟨#[],by rw[q];simp⟩⟩
theorem Un.refl:Un fs ex H H h h:=Un.kept fun _ _ q=>q
theorem Un.laid(k:∀b u,h.get? b=some u->h'.get? b=some u)(hp:h.objs.size<=a)(hn:H a=none):Un fs ex H (upd H a o) h h' where
 keep:=fun b u q _ _ _=>k b u q
 slot:=fun b u q _ _ _=>⟨u.slots,k b u q⟩
 free:=fun b u q n _=>by rw[upd_ne (Nat.ne_of_lt (Nat.lt_of_lt_of_le (Heap.lt_size q) hp))];exact n
 there:=fun b u q _=>⟨u,k b u q⟩
 tups:=fun b xs q=>by rw[upd_ne (ne_of_none q hn)];exact q
 frzs:=fun b u xs q=>by rw[upd_ne (ne_of_none q hn)];exact q
 tbls:=fun b ps q=>⟨#[],by rw[upd_ne (ne_of_none q hn),q];simp⟩
theorem Un.write(mu:Mut (H x))(he:e=x\/H e=some (.own x))(k:∀b u,b≠e->h.get? b=some u->h'.get? b=some u)(heo:∃u,h'.get? e=some u):Un fs ex H (upd H x o) h h':=by
 have hx:∀b,H b=none->b≠x:=fun b n z=>by subst z;rw[n]at mu;exact mu
 have hb:∀b,H b=none->b≠e:=fun b n z=>by
  subst z;rcases he with r | r
  ·exact hx b n r
  ·rw[n]at r;cases r
 have hm:∀b u,H b=some u->¬Mut (some u)->b≠x:=fun b u q nm z=>by subst z;rw[q]at mu;exact nm mu
 refine⟨fun b u q n _ _=>k b u (hb b n) q,fun b u q n _ _=>⟨u.slots,k b u (hb b n) q⟩,fun b u q n _=>by rw[upd_ne (hx b n)];exact n,fun b u q _=>?_,
  fun b xs q=>by rw[upd_ne (hm b _ q fun z=>z)];exact q,fun b u xs q=>by rw[upd_ne (hm b _ q fun z=>z)];exact q,fun b ps q=>⟨#[],by rw[upd_ne (hm b _ q fun z=>z),q];simp⟩⟩
 by_cases hbe:b=e
 ·subst hbe;exact heo
 ·exact⟨u,k b u hbe q⟩
end
def trk(h:Heap)(H:Hp):List Addr:=(List.range h.objs.size).filter fun a=>(H a).isSome
def hidT(h:Heap)(H:Hp):Heap:=PySem.W.hideAll h (trk h H)
theorem hidT_size(h:Heap)(H:Hp):(hidT h H).objs.size=h.objs.size:=PySem.W.hideAll_size _ _
theorem hidT_get{h:Heap}{H:Hp}{b:Addr}{o:Obj}(e:h.get? b=some o)(n:H b=none):(hidT h H).get? b=some o:=
 PySem.W.hideAll_get _ e fun hm=>by
  have q:(H b).isSome=true:=(List.mem_filter.mp hm).2;rw[n]at q;simp at q
theorem of_hidT{h:Heap}{H:Hp}{b:Addr}{o:Obj}(e:(hidT h H).get? b=some o):h.get? b=some o/\H b=none:=by
 have e':h.get? b=some o:=PySem.W.of_hideAll (trk h H) e;refine⟨e',?_⟩;cases q:H b with
 | none=>rfl
 | some x=>
  have hm:b∈trk h H:=List.mem_filter.mpr ⟨List.mem_range.mpr (Heap.lt_size e'),by simp[q]⟩;have z:(hidT h H).get? b=none:=PySem.W.hideAll_none (trk h H) hm;rw[z]at e;cases e
def allNews(g h:Heap)(L:Addr):List (Addr×Obj):=(List.range h.objs.size).filterMap fun a=>if a=L\/(g.get? a).isSome=true then none else (h.get? a).map fun o=>(a,o)
def rest(g h:Heap)(L d:Addr):List (Addr×Obj):=(allNews g h L).filter fun p=>decide (p.1≠d)
end L2
namespace L2
open PySem PySem.Spec PyProof.Rows
structure Mod(K:PySem.W.Frag)(mg:Str->Option Value)(base:Heap):Prop where
 kin:K.In base
 glob:base.Ns mainGlobals mg
 blt:∃mb,base.Ns builtinsNs mb/\∀x:Str,x ≠ "__name__" -> mb x=bootBuiltins x
 nolimit:base.NoLimit
structure Cx where
 prog:Program
 w:World
 K:PySem.W.Frag
 mg:Str->Option Value
 base:Heap
 A:Around
 N:List Str
 s₀:Shared
 H₀:Hp
 env:Env
 outer:List Env
 stack:List Env
 ex:List Addr
 fn:Str->Bool
 calm:Bool
 pn:List (Addr×Obj)
 xe:Value->Shared->Prop
def frs(l:List Env):List Addr:=l.filterMap (·.frame)
abbrev Cx.fs(X:Cx):List Addr:=frs X.outer
def Vis(sc:Scope)(x:Str):Prop:=sc.names.lookup x=some .local\/sc.names.lookup x=some .cell\/sc.names.lookup x=some .free
def Loc(sc:Scope)(x:Str):Prop:=sc.names.lookup x=some .local\/sc.names.lookup x=some .cell
def Look(env:Env)(h:Heap)(m:Str->Option Value)(x:Str)(u:Value):Prop:=
 (env.kindOf x=some .local/\m x=some u)\/((env.kindOf x=some .cell\/env.kindOf x=some .free)/\∃c,env.cells.lookup x=some c/\h.IsCell c (some u))
structure Cx.Ok(X:Cx):Prop where
 mod:Mod X.K X.mg X.base
 kind:X.env.scope.kind=.function
 glob:X.env.globals=mainGlobals
 blt:X.env.builtins=builtinsNs
 above:X.s₀.heap.objs.size<=X.env.locals
 inj:∀x y c,X.env.cells.lookup x=some c->X.env.cells.lookup y=some c->x=y
 has:∀x,(X.env.kindOf x=some .cell\/X.env.kindOf x=some .free)->∃c,X.env.cells.lookup x=some c
 cab:∀x c,X.fn x=true->X.env.cells.lookup x=some c->X.s₀.heap.objs.size<=c
 hd:X.calm=true->X.A.handled=none
 frames:X.A.frames=some X.stack
 stk:X.stack=X.outer\/(X.stack=X.env::X.outer/\X.env.frame=some X.env.locals)
 exf:∀b∈X.ex,b≠X.env.locals/\∀x c,X.env.cells.lookup x=some c->c≠b
 bs:∀b o,X.base.get? b=some o->X.s₀.heap.get? b=some o/\X.H₀ b=none
 bsz:X.base.objs.size<=X.s₀.heap.objs.size
 noex:∀b o,X.base.get? b=some o->b∉X.ex
 exfs:∀b∈X.ex,b∉X.fs
 funs:X.s₀.heap.FunFrames X.base X.outer
 frf:∀b∈X.fs,X.H₀ b=none
structure Inv(X:Cx)(pins:List (Addr×Obj))(σ:List (Option V))(H:Hp)(s:Shared):Prop where
 ok:X.Ok
 os:s.os=X.s₀.os
 bare:AllBare s.gens
 base:Un X.fs X.ex X.H₀ H X.s₀.heap s.heap
 loc:∃m,s.heap.Ns X.env.locals m/\∀(i:Nat) (x:Str) (v:V),X.N[i]? = some x->σ[i]? = some (some v)->Vis X.env.scope x->∃u,RelV v u/\Look X.env s.heap m x u
 cell:∀x c,X.env.cells.lookup x=some c->∃v,s.heap.IsCell c v
 free:H X.env.locals=none
 freeC:∀x c,X.env.cells.lookup x=some c->H c=none
 pin:∀p∈X.pn++pins,s.heap.get? p.1=some p.2/\H p.1=none/\p.1≠X.env.locals/\p.1∉X.fs/\∀v,p.2.data≠.cell v
 hok:HOk X.prog X.w H s.heap
 len:σ.length=X.N.length
section
variable {X:Cx}{pins:List (Addr×Obj)}{σ:List (Option V)}{H H':Hp}{s:Shared}{h':Heap}
theorem Cx.Ok.nofr(ok:X.Ok){b:Addr}{o:Obj}(e:X.base.get? b=some o):b∉X.fs:=fun hb=>by
 have:=(ok.funs.mem hb).1;rw[e]at this;cases this
theorem Inv.bs(I:Inv X pins σ H s):∀b o,X.base.get? b=some o->s.heap.get? b=some o/\H b=none:=fun b o e=>
 ⟨I.base.keep b o (I.ok.bs b o e).1 (I.ok.bs b o e).2 (I.ok.nofr e) (I.ok.noex b o e),I.base.free b o (I.ok.bs b o e).1 (I.ok.bs b o e).2 (I.ok.noex b o e)⟩
theorem Inv.bk(I:Inv X pins σ H s):∀b o,X.base.get? b=some o->s.heap.get? b=some o:=fun b o e=>(I.bs b o e).1
theorem Inv.mod(I:Inv X pins σ H s):Mod X.K X.mg X.base:=I.ok.mod
theorem Inv.kIn(I:Inv X pins σ H s):X.K.In s.heap:=I.ok.mod.kin.keeps I.bk
theorem Inv.lt(I:Inv X pins σ H s):X.env.locals<s.heap.objs.size:=let⟨_,hn,_⟩:=I.loc;hn.lt
theorem Inv.sz(I:Inv X pins σ H s):X.s₀.heap.objs.size<=s.heap.objs.size:=Nat.le_trans I.ok.above (Nat.le_of_lt I.lt)
theorem Inv.nofs(I:Inv X pins σ H s){a:Addr}(h:s.heap.objs.size<=a):a∉X.fs:=fun hb=>by
 obtain⟨_,o,ho,_⟩:=I.ok.funs.mem hb;exact absurd (Nat.lt_of_lt_of_le (Heap.lt_size ho) (Nat.le_trans I.sz h)) (Nat.lt_irrefl _)
theorem Inv.cne(I:Inv X pins σ H s):∀x c,X.env.cells.lookup x=some c->c≠X.env.locals:=fun x c e z=>by
 obtain⟨v,o,ho,hd⟩:=I.cell x c e;obtain⟨m,⟨o',es,ep,ho',hd',_⟩,_⟩:=I.loc;rw[z,ho']at ho;cases ho;rw[hd']at hd;cases hd
theorem Inv.funs(I:Inv X pins σ H s):s.heap.FunFrames X.base X.outer:=by
 have all:∀(l:List Env),(∀b∈frs l,b∈X.fs)->X.s₀.heap.FunFrames X.base l->s.heap.FunFrames X.base l:=by
  intro l;induction l with
  | nil=>intro _ _;trivial
  | cons env r ih=>
   intro hs hl;obtain⟨hk,⟨L,o,hf,hn,ho,hd⟩,hr⟩:=hl;have hL:L∈X.fs:=hs L (by unfold frs;rw[List.filterMap_cons,hf];exact List.mem_cons_self);obtain⟨sl,e⟩:=I.base.slot L o ho (I.ok.frf L hL) hL fun z=>I.ok.exfs L z hL
   exact⟨hk,⟨L,_,hf,hn,e,hd⟩,ih (fun b hb=>hs b (by unfold frs;rw[List.filterMap_cons,hf];exact List.mem_cons_of_mem _ hb)) hr⟩
 exact all X.outer (fun _ hb=>hb) I.ok.funs
theorem Inv.stack(I:Inv X pins σ H s):s.heap.FunFrames X.base X.stack:=by
 rcases I.ok.stk with e | ⟨e,hf⟩
 ·rw[e];exact I.funs
 ·rw[e]
  obtain⟨m,hn,_⟩:=I.loc;refine .cons (by rw[I.ok.kind];decide) hf hn ?_ I.funs;exact Heap.get?_none_of_le (Nat.le_trans I.ok.bsz I.ok.above)
theorem Inv.stkSub(I:Inv X pins σ H s):∀b∈frs X.stack,b∈X.env.locals::X.fs:=fun b hb=>by
 rcases I.ok.stk with e | ⟨e,hf⟩
 ·rw[e]at hb;exact List.mem_cons_of_mem _ hb
 ·rw[e]at hb
  unfold frs at hb;rw[List.filterMap_cons,hf]at hb;exact hb
theorem Inv.stkFree(I:Inv X pins σ H s):∀b∈frs X.stack,H b=none:=fun b hb=>by
 rcases List.mem_cons.mp (I.stkSub b hb)with e | hb
 ·rw[e];exact I.free
 ·obtain⟨_,o,ho,_⟩:=I.ok.funs.mem hb
  exact I.base.free b o ho (I.ok.frf b hb) fun z=>I.ok.exfs b z hb
theorem Inv.step{g':Array GenState}{t':Nat}{d':Drawn}{ch:List Addr}(I:Inv X pins σ H s)
  (hch:∀b∈ch,(b∈X.ex\/X.s₀.heap.objs.size<=b)/\b≠X.env.locals/\(∀x c,X.env.cells.lookup x=some c->c≠b)/\∀p∈X.pn++pins,p.1≠b)
  (keep:∀b o,b≠X.env.locals->b∉X.fs->b∉ch->s.heap.get? b=some o->H b=none->h'.get? b=some o)
  (slot:∀b o,b≠X.env.locals->b∈X.fs->b∉ch->s.heap.get? b=some o->H b=none->∃sl,h'.get? b=some { o with slots:=sl }) (free:∀b o,b∉ch->s.heap.get? b=some o->H b=none->H' b=none)
  (there:∀b o,b∉ch->s.heap.get? b=some o->∃o',h'.get? b=some o')
  (tups:∀b xs,H b=some (.tup xs)->H' b=some (.tup xs)) (frzs:∀b o u,H b=some (.frz o u)->H' b=some (.frz o u)) (tbls:∀b ps,H b=some (.tbl ps)->∃more,H' b=some (.tbl (ps++more)))
  (ns:∀m,s.heap.Ns X.env.locals m->h'.Ns X.env.locals m) (hok:HOk X.prog X.w H' h') (hg:AllBare g') :
  Inv X pins σ H' { s with heap:=h',gens:=g',drawn:=d',toks:=t' }:=by
 have neL:∀b o,X.s₀.heap.get? b=some o->b≠X.env.locals:=fun b o e=>Nat.ne_of_lt (Nat.lt_of_lt_of_le (Heap.lt_size e) I.ok.above)
 have neC:∀b o,X.s₀.heap.get? b=some o->b∉X.ex->b∉ch:=fun b o e hx hb=>by
  rcases(hch b hb).1 with z | z
  ·exact hx z
  ·exact absurd (Nat.lt_of_lt_of_le (Heap.lt_size e) z) (Nat.lt_irrefl _)
 have cellK:∀x c,X.env.cells.lookup x=some c->∀v,s.heap.IsCell c v->h'.IsCell c v:=fun x c e v ⟨o,ho,hd⟩=>by
  have nch:c∉ch:=fun z=>(hch c z).2.2.1 x c e rfl
  by_cases hc:c∈X.fs
  ·obtain⟨sl,q⟩:=slot c o (I.cne x c e) hc nch ho (I.freeC x c e)
   exact⟨_,q,hd⟩
  ·exact⟨o,keep c o (I.cne x c e) hc nch ho (I.freeC x c e),hd⟩
 refine⟨I.ok,I.os,hg,⟨fun b o e n hb hx=>?_,fun b o e n hb hx=>?_,fun b o e n hx=>?_,fun b o e hx=>?_,fun b xs e=>tups b xs (I.base.tups b xs e),fun b o xs e=>frzs b o xs (I.base.frzs b o xs e),fun b ps e=>?_⟩,?_,fun x c e=>?_,?_,fun x c e=>?_,fun p hp=>?_,hok,I.len⟩
 ·exact keep b o (neL b o e) hb (neC b o e hx) (I.base.keep b o e n hb hx) (I.base.free b o e n hx)
 ·obtain⟨sl,e1⟩:=I.base.slot b o e n hb hx
  obtain⟨sl',e2⟩:=slot b _ (neL b o e) hb (neC b o e hx) e1 (I.base.free b o e n hx);exact⟨sl',e2⟩
 ·obtain⟨o',e1⟩:=I.base.there b o e hx
  exact free b o' (neC b o e hx) e1 (I.base.free b o e n hx)
 ·obtain⟨o',e1⟩:=I.base.there b o e hx
  exact there b o' (neC b o e hx) e1
 ·obtain⟨m1,e1⟩:=I.base.tbls b ps e
  obtain⟨m2,e2⟩:=tbls b _ e1;exact⟨m1++m2,by rw[e2,Array.append_assoc]⟩
 ·obtain⟨m,hn,hl⟩:=I.loc
  refine⟨m,ns m hn,fun i x v e1 e2 e3=>?_⟩;obtain⟨u,r,l⟩:=hl i x v e1 e2 e3;refine⟨u,r,?_⟩;rcases l with l | ⟨k,c,e,z⟩
  ·exact .inl l
  ·exact .inr ⟨k,c,e,cellK x c e _ z⟩
 ·obtain⟨v,z⟩:=I.cell x c e
  exact⟨v,cellK x c e v z⟩
 ·obtain⟨m,⟨o,_,_,ho,_⟩,_⟩:=I.loc
  exact free _ o (fun z=>(hch _ z).2.1 rfl) ho I.free
 ·obtain⟨v,o,ho,hd⟩:=I.cell x c e
  exact free c o (fun z=>(hch c z).2.2.1 x c e rfl) ho (I.freeC x c e)
 ·obtain⟨e,n,ne,nf,d⟩:=I.pin p hp
  have nch:p.1∉ch:=fun z=>(hch p.1 z).2.2.2 p hp rfl
  exact⟨keep p.1 p.2 ne nf nch e n,free p.1 p.2 nch e n,ne,nf,d⟩
theorem Inv.un{t':Nat}(I:Inv X pins σ H s)(u:Un X.fs [] H H' s.heap h')(hok:HOk X.prog X.w H' h'):Inv X pins σ H' { s with heap:=h',toks:=t' }:=by
 obtain⟨m,⟨o,es,ep,ho,r⟩,_⟩:=id I.loc;obtain⟨sl,hL⟩:=u.any ho I.free (by simp)
 exact I.step (g':=s.gens) (d':=s.drawn) (ch:=[]) (fun _ z=>nomatch z) (fun b o _ hb _ e n=>u.keep b o e n hb (by simp)) (fun b o _ hb _ e n=>u.slot b o e n hb (by simp)) (fun b o _ e n=>u.free b o e n (by simp)) (fun b o _ e=>u.there b o e (by simp)) u.tups u.frzs u.tbls (fun m' hm=>by
  obtain⟨o',es',ep',ho',r'⟩:=hm;rw[ho]at ho';cases ho';exact⟨_,es',ep',hL,r'⟩) hok I.bare
theorem Inv.call{g':Array GenState}{t':Nat}{d':Drawn}{ch:List Addr}(I:Inv X pins σ H s)(u:Un (frs X.stack) ch H H' s.heap h')(hok:HOk X.prog X.w H' h')(hg:AllBare g')
  (hch:∀b∈ch,(b∈X.ex\/X.s₀.heap.objs.size<=b)/\b≠X.env.locals/\(∀x c,X.env.cells.lookup x=some c->c≠b)/\∀p∈X.pn++pins,p.1≠b) :
  Inv X pins σ H' { s with heap:=h',gens:=g',drawn:=d',toks:=t' }:=by
 obtain⟨m,⟨o,es,ep,ho,r⟩,_⟩:=id I.loc;obtain⟨sl,hL⟩:=u.any ho I.free fun z=>(hch _ z).2.1 rfl
 exact I.step (ch:=ch) hch (fun b o hL hb hc e n=>u.keep b o e n (fun z=>(List.mem_cons.mp (I.stkSub b z)).elim hL hb) hc) (fun b o _ _ hc e n=>u.any e n hc) (fun b o hc e n=>u.free b o e n hc) (fun b o hc e=>u.there b o e hc) u.tups u.frzs u.tbls (fun m' hm=>by
  obtain⟨o',es',ep',ho',r'⟩:=hm;rw[ho]at ho';cases ho';exact⟨_,es',ep',hL,r'⟩) hok hg
theorem Inv.turned{t':Nat}{it:Addr}(I:Inv X pins σ H s)(k:∀b o,b≠it->s.heap.get? b=some o->h'.get? b=some o)(hn:H it=none)(hL:it≠X.env.locals)
  (h1:it∈X.ex\/X.s₀.heap.objs.size<=it) (h2:∀x c,X.env.cells.lookup x=some c->c≠it) (h3:∀p∈X.pn++pins,p.1≠it):Inv X pins σ H { s with heap:=h',toks:=t' }:=by
 have nit:∀b u,H b=some u->b≠it:=fun b u e z=>by rw[z,hn]at e;cases e
 refine I.step (g':=s.gens) (d':=s.drawn) (ch:=[it]) (fun b hb=>?_) (fun b o _ _ hc e _=>k b o (fun z=>hc (by simp[z])) e) (fun b o _ _ hc e _=>⟨o.slots,k b o (fun z=>hc (by simp[z])) e⟩) (fun _ _ _ _ n=>n)
  (fun b o hc e=>⟨o,k b o (fun z=>hc (by simp[z])) e⟩) (fun _ _ e=>e) (fun _ _ _ e=>e) (fun b ps e=>⟨#[],by rw[e];simp⟩) (fun m hm=>?_) (fun b u e=>?_) I.bare
 ·have e:b=it:=by simpa using hb
  subst e;exact⟨h1,hL,h2,h3⟩
 ·obtain⟨o,es,ep,ho,r⟩:=hm
  exact⟨o,es,ep,k _ o (Ne.symm hL) ho,r⟩
 ·refine(I.hok b u e).stay (fun c v hc q=>k c v ?_ q) (fun _ q=>q) fun _ _ q=>q
  rcases hc with z | z
  ·rw[z];exact nit b u e
  ·exact nit c _ z
theorem Inv.tok(I:Inv X pins σ H s)(t:Nat):Inv X pins σ H { s with toks:=t }:=I.un (h':=s.heap) (t':=t) Un.refl I.hok
theorem Inv.kept{t':Nat}(I:Inv X pins σ H s)(k:∀b u,s.heap.get? b=some u->h'.get? b=some u):Inv X pins σ H { s with heap:=h',toks:=t' }:=I.un (Un.kept k) (I.hok.kept k)
theorem Inv.laid{a:Addr}{o:HO}{t':Nat}(I:Inv X pins σ H s)(k:∀b u,s.heap.get? b=some u->h'.get? b=some u)(hp:s.heap.objs.size<=a)(new:ObjOk X.prog X.w (upd H a o) h' a o) :
  Inv X pins σ (upd H a o) { s with heap:=h',toks:=t' }:=I.un (Un.laid k hp (I.hok.fresh hp)) (I.hok.laid k hp new)
theorem Inv.write{x e:Addr}{o:HO}{t':Nat}(I:Inv X pins σ H s)(mu:Mut (H x))(he:e=x\/H e=some (.own x))(k:∀b u,b≠e->s.heap.get? b=some u->h'.get? b=some u)(heo:∃u,h'.get? e=some u)
  (new:ObjOk X.prog X.w (upd H x o) h' x o):Inv X pins σ (upd H x o) { s with heap:=h',toks:=t' }:=I.un (Un.write mu he k heo) (I.hok.write mu he k heo new)
theorem Inv.weak{σ':List (Option V)}(I:Inv X pins σ H s)(hl:σ'.length=σ.length)(w:∀(i:Nat) v,σ'[i]? = some (some v)->σ[i]? = some (some v)):Inv X pins σ' H s:=
 ⟨I.ok,I.os,I.bare,I.base,let⟨m,hn,hl'⟩:=I.loc; ⟨m,hn,fun i x v e1 e2 e3=>hl' i x v e1 (w i v e2) e3⟩,I.cell,I.free,I.freeC,I.pin,I.hok,hl.trans I.len⟩
theorem Inv.pins_of{pins':List (Addr×Obj)}(I:Inv X pins σ H s)(h:∀p∈pins',s.heap.get? p.1=some p.2/\H p.1=none/\p.1≠X.env.locals/\p.1∉X.fs/\∀v,p.2.data≠.cell v):Inv X pins' σ H s:=
 ⟨I.ok,I.os,I.bare,I.base,I.loc,I.cell,I.free,I.freeC,fun p hp=>(List.mem_append.mp hp).elim (fun z=>I.pin p (List.mem_append_left _ z)) (h p),I.hok,I.len⟩
theorem nodup_ix{N:List Str}(hN:N.Nodup){i j:Nat}{x:Str}(a:N[i]? = some x)(b:N[j]? = some x):i=j:=by
 obtain⟨h1,e1⟩:=List.getElem?_eq_some_iff.mp a;obtain⟨h2,e2⟩:=List.getElem?_eq_some_iff.mp b;exact(List.getElem_inj hN).mp (e1.trans e2.symm)
theorem store_ok2{M:Model}{A:Around}{E:Value->Shared->Prop}{i:Nat}{x:Str}{v:V}{u:Value}{Q:Unit->Shared->Prop}(I:Inv X pins σ H s)(hN:X.N.Nodup)(hi:X.N[i]? = some x)(hx:Loc X.env.scope x)(r:RelV v u)
  (h:∀s',Inv X pins (σ.set i (some v)) H s'->(∃a,Heap.SameBut a s.heap s'.heap/\(a=X.env.locals\/X.env.cells.lookup x=some a))->Q () s') (hf:X.fn x=true\/X.env.scope.names.lookup x=some .local:=by first | exact .inl rfl | exact .inr rfl | assumption):wpAny M A (storeName X.env x u) Q E s:=by
 obtain⟨m,hn,hl⟩:=id I.loc;have hcls:(X.env.scope.kind == .class||(X.env.scope.kind == .module&&X.env.locals != X.env.globals))=false:=by rw[I.ok.kind];rfl
 have hiσ:i<σ.length:=by rw[I.len];exact(List.getElem?_eq_some_iff.mp hi).1
 have cne:=I.cne
 have tracked:∀ {a:Addr} {h':Heap},(∃o,s.heap.get? a=some o/\H a=none)->Heap.SameBut a s.heap h'->HOk X.prog X.w H h':=fun {a h'} ha hs b ob e=>by
  obtain⟨_,_,hfree⟩:=ha;refine(I.hok b ob e).stay (fun c w' hc q=>(hs.2 c ?_).trans q) (fun _ q=>q) fun _ _ q=>q
  rintro rfl;rcases hc with rfl | hc
  ·rw[hfree]at e;cases e
  ·rw[hfree]at hc;cases hc
 rcases hx with hk | hk
 ·refine wpAny_storeName_local hk hn (fun h' hn' hs=>?_) hcls
  obtain⟨oL,_,_,hoL,_⟩:=id hn;refine h _ ⟨I.ok,I.os,I.bare,⟨fun b o e n hb hx=>?_,fun b o e n hb hx=>?_,I.base.free,fun b o e hx=>?_,I.base.tups,I.base.frzs,I.base.tbls⟩,⟨_,hn',fun j y v' e1 e2 e3=>?_⟩,fun y c e=>?_,I.free,I.freeC,fun p hp=>?_,tracked ⟨oL,hoL,I.free⟩ hs,by simpa using I.len⟩ ⟨_,hs,.inl rfl⟩
  ·exact(hs.2 b (Nat.ne_of_lt (Nat.lt_of_lt_of_le (Heap.lt_size e) I.ok.above))).trans (I.base.keep b o e n hb hx)
  ·obtain⟨sl,e1⟩:=I.base.slot b o e n hb hx
   exact⟨sl,(hs.2 b (Nat.ne_of_lt (Nat.lt_of_lt_of_le (Heap.lt_size e) I.ok.above))).trans e1⟩
  ·obtain⟨o',e1⟩:=I.base.there b o e hx
   exact⟨o',(hs.2 b (Nat.ne_of_lt (Nat.lt_of_lt_of_le (Heap.lt_size e) I.ok.above))).trans e1⟩
  ·by_cases hj:j=i
   ·subst hj
    rw[hi]at e1;cases e1;rw[List.getElem?_set_self hiσ]at e2;cases e2;exact⟨u,r,.inl ⟨hk,by simp⟩⟩
   ·rw[List.getElem?_set_ne (Ne.symm hj)]at e2
    obtain⟨u',r',q⟩:=hl j y v' e1 e2 e3;refine⟨u',r',?_⟩;rcases q with ⟨k,e⟩ | ⟨k,c,e,z⟩
    ·refine .inl ⟨k,?_⟩
     have:y≠x:=fun e=>hj (nodup_ix hN e1 (e ▸ hi))
     simp[this,e]
    ·exact .inr ⟨k,c,e,z.sameBut hs (cne y c e)⟩
  ·obtain⟨w',z⟩:=I.cell y c e
   exact⟨w',z.sameBut hs (cne y c e)⟩
  ·obtain⟨e,n,ne,nf,d⟩:=I.pin p hp
   exact⟨(hs.2 p.1 ne).trans e,n,ne,nf,d⟩
 ·have hfn:X.fn x=true:=by
   rcases hf with z | z
   ·exact z
   ·rw[z]at hk;cases hk
  obtain⟨c,hc⟩:=I.ok.has x (.inl hk);obtain⟨w',z⟩:=I.cell x c hc;refine wpAny_storeName_cell I.ok.kind hk hc z (fun h' hc' hs=>?_);obtain⟨oc,hoc,hocd⟩:=id z;refine h { s with heap:=h' } ⟨I.ok,I.os,I.bare,⟨fun b o e n hb hx=>?_,fun b o e n hb hx=>?_,I.base.free,fun b o e hx=>?_,I.base.tups,I.base.frzs,I.base.tbls⟩,⟨m,hn.sameBut hs (Ne.symm (cne x c hc)),fun j y v' e1 e2 e3=>?_⟩,fun y c' e=>?_,I.free,I.freeC,fun p hp=>?_,tracked ⟨oc,hoc,I.freeC x c hc⟩ hs,by simpa using I.len⟩ ⟨c,hs,.inr hc⟩
  ·exact(hs.2 b (Nat.ne_of_lt (Nat.lt_of_lt_of_le (Heap.lt_size e) (I.ok.cab x c hfn hc)))).trans (I.base.keep b o e n hb hx)
  ·obtain⟨sl,e1⟩:=I.base.slot b o e n hb hx
   exact⟨sl,(hs.2 b (Nat.ne_of_lt (Nat.lt_of_lt_of_le (Heap.lt_size e) (I.ok.cab x c hfn hc)))).trans e1⟩
  ·obtain⟨o',e1⟩:=I.base.there b o e hx
   exact⟨o',(hs.2 b (Nat.ne_of_lt (Nat.lt_of_lt_of_le (Heap.lt_size e) (I.ok.cab x c hfn hc)))).trans e1⟩
  ·by_cases hj:j=i
   ·subst hj
    rw[hi]at e1;cases e1;rw[List.getElem?_set_self hiσ]at e2;cases e2;exact⟨u,r,.inr ⟨.inl hk,c,hc,hc'⟩⟩
   ·rw[List.getElem?_set_ne (Ne.symm hj)]at e2
    obtain⟨u',r',q⟩:=hl j y v' e1 e2 e3;refine⟨u',r',?_⟩;rcases q with q | ⟨k,c',e,z'⟩
    ·exact .inl q
    ·refine .inr ⟨k,c',e,z'.sameBut hs ?_⟩
     rintro rfl;exact hj (nodup_ix hN e1 (I.ok.inj _ _ _ e hc ▸ hi))
  ·by_cases hcc:c'=c
   ·subst hcc;exact⟨_,hc'⟩
   ·obtain⟨w2,z2⟩:=I.cell y c' e
    exact⟨w2,z2.sameBut hs hcc⟩
  ·obtain⟨e,n,ne,nf,d⟩:=I.pin p hp
   refine⟨(hs.2 p.1 ?_).trans e,n,ne,nf,d⟩;intro q;rw[q,hoc]at e;have q':oc=p.2:=Option.some.inj e;exact d w' (by rw[<-q'];exact hocd)
theorem store_ok{M:Model}{A:Around}{E:Value->Shared->Prop}{i:Nat}{x:Str}{v:V}{u:Value}{Q:Unit->Shared->Prop}(I:Inv X pins σ H s)(hN:X.N.Nodup)(hi:X.N[i]? = some x)(hx:Loc X.env.scope x)(r:RelV v u)
  (h:∀s',Inv X pins (σ.set i (some v)) H s'->Q () s') (hf:X.fn x=true\/X.env.scope.names.lookup x=some .local:=by first | exact .inl rfl | exact .inr rfl | assumption):wpAny M A (storeName X.env x u) Q E s:=
 store_ok2 I hN hi hx r (fun s' I' _=>h s' I') hf
theorem Inv.call'{s':Shared}{ch:List Addr}(I:Inv X pins σ H s)(ho:s'.os=s.os)(u:Un (frs X.stack) ch H H' s.heap s'.heap)(hok:HOk X.prog X.w H' s'.heap)(hg:AllBare s'.gens)
  (hch:∀b∈ch,(b∈X.ex\/X.s₀.heap.objs.size<=b)/\b≠X.env.locals/\(∀x c,X.env.cells.lookup x=some c->c≠b)/\∀p∈X.pn++pins,p.1≠b):Inv X pins σ H' s':=by
 obtain⟨h',g',d',t',o'⟩:=s';have e:o'=s.os:=ho;subst e;exact I.call (g':=g') (t':=t') (d':=d') u hok hg hch
end
abbrev XK:=Value->Option Addr->Hp->Prop
abbrev St:=List (Option V)
abbrev VK:=V->Hp->Prop
abbrev TE:=St->Hp->VK->Prop
abbrev TT:=St->Hp->(Bool->Hp->Prop)->Prop
abbrev TA:=St->Hp->(List V->Hp->Prop)->Prop
structure Ends where
 nx:St->Hp->Prop
 rt:VK
 bk:St->Hp->Prop:=fun _ _=>False
 ct:St->Hp->Prop:=fun _ _=>False
abbrev TS:=Ends->St->Hp->Prop
def EP(X:Cx)(pins:List (Addr×Obj))(σ:St)(Q:VK)(u:Value)(s':Shared):Prop:=∃v H',Inv X pins σ H' s'/\RelV v u/\Q v H'
def TP(X:Cx)(pins:List (Addr×Obj))(σ:St)(Q:Bool->Hp->Prop)(b:Bool)(s':Shared):Prop:=∃H',Inv X pins σ H' s'/\Q b H'
def AP(X:Cx)(pins:List (Addr×Obj))(σ:St)(Q:List V->Hp->Prop)(us:List Value)(s':Shared):Prop:=∃vs H',Inv X pins σ H' s'/\Vals vs us/\Q vs H'
def SP(X:Cx)(pins:List (Addr×Obj))(D:Ends)(f:Flow)(s':Shared):Prop:=
 match f with
 | .next=>∃σ' H',Inv X pins σ' H' s'/\D.nx σ' H'
 | .brk=>∃σ' H',Inv X pins σ' H' s'/\D.bk σ' H'
 | .cont=>∃σ' H',Inv X pins σ' H' s'/\D.ct σ' H'
 | .ret u=>∃v σ' H',Inv X pins σ' H' s'/\RelV v u/\D.rt v H'
def PE(X:Cx)(e:Expr)(t:TE):Prop:=
 ∀(pins:List (Addr×Obj)) (s:Shared) (σ:St) (H:Hp) (Q:VK),Inv X pins σ H s->t σ H Q->wpAny (model X.prog X.w) X.A (eval e X.env) (EP X pins σ Q) X.xe s
def PT(X:Cx)(e:Expr)(t:TT):Prop:=
 ∀(pins:List (Addr×Obj)) (s:Shared) (σ:St) (H:Hp) (Q:Bool->Hp->Prop),Inv X pins σ H s->t σ H Q->wpAny (model X.prog X.w) X.A (isTrue e X.env (eval e X.env)) (TP X pins σ Q) X.xe s
def PW(X:Cx)(e:Expr)(t:TT):Prop:=
 ∀(whole:Sem Value) (pins:List (Addr×Obj)) (s:Shared) (σ:St) (H:Hp) (Q:Bool->Hp->Prop),Inv X pins σ H s->t σ H Q->wpAny (model X.prog X.w) X.A (isTrue e X.env whole) (TP X pins σ Q) X.xe s
theorem PW.pt{X:Cx}{e:Expr}{t:TT}(h:PW X e t):PT X e t:=h _
def PA(X:Cx)(es:List Expr)(t:TA):Prop:=
 ∀(pos:Pos) (pins:List (Addr×Obj)) (s:Shared) (σ:St) (H:Hp) (Q:List V->Hp->Prop),Inv X pins σ H s->t σ H Q->wpAny (model X.prog X.w) X.A (spliced (backTo pos (starEach es X.env))) (AP X pins σ Q) X.xe s
def PS(X:Cx)(st:Stmt)(t:TS):Prop:=
 ∀(pins:List (Addr×Obj)) (s:Shared) (σ:St) (H:Hp) (D:Ends),Inv X pins σ H s->t D σ H->wpAny (model X.prog X.w) X.A (exec st X.env) (SP X pins D) X.xe s
def PSs(X:Cx)(st:List Stmt)(t:TS):Prop:=
 ∀(pins:List (Addr×Obj)) (s:Shared) (σ:St) (H:Hp) (D:Ends),Inv X pins σ H s->t D σ H->wpAny (model X.prog X.w) X.A (execs st X.env) (SP X pins D) X.xe s
theorem thn{α:Type}{t:Sem α}{Q Q':α->Shared->Prop}{M:Model}{A:Around}{E:Value->Shared->Prop}{s:Shared}(h:wpAny M A t Q E s)(hQ:∀a s,Q a s->Q' a s):wpAny M A t Q' E s:=wpAny_mono h hQ fun _ _ x=>x
end L2
namespace L2
open PySem PySem.Spec PyProof.Rows
section
variable {X:Cx}
def tVar(i:Nat):TE:=fun σ H Q=>∃v,σ[i]? = some (some v)/\Q v H
def tC(v:V):TE:=fun _ H Q=>Q v H
theorem pe_var{i:Nat}{x:Str}{pos:Pos}(hN:X.N[i]? = some x)(hv:Vis X.env.scope x)(hd:(x == ("__debug__" : Str))=false:=by decide)(hcd:(x == ("__classdict__" : Str))=false:=by decide):PE X (.Name x pos) (tVar i):=by
 intro pins s σ H Q I h;obtain⟨v,e,h⟩:=h;obtain⟨m,hn,hl⟩:=I.loc;obtain⟨u,r,l⟩:=hl i x v hN e hv;have fin:EP X pins σ Q u s:=⟨v,H,I,r,h⟩;rcases l with ⟨hk,hm⟩ | ⟨hk,c,hc,hcell⟩
 ·exact wpAny_Name (wpAny_loadName_local I.ok.kind hk hn hm fin) hd
 ·rcases hk with hk | hk
  ·exact wpAny_Name (wpAny_loadName_cell I.ok.kind hk hc hcell fin) hd
  ·exact wpAny_Name (wpAny_loadName_free I.ok.kind hk hc hcell fin hcd) hd
theorem pe_int{i j pos}:PE X (.Constant (.int i) j pos) (tC (.int i)):=fun _ _ _ H _ I h=>wpAny_Constant_int ⟨.int i,H,I.tok _,⟨_,rfl⟩,h⟩
theorem pe_bl{b j pos}:PE X (.Constant (.bool b) j pos) (tC (.bl b)):=fun _ _ _ H _ I h=>Constant_bool ⟨.bl b,H,I,rfl,h⟩
theorem pe_non{j pos}:PE X (.Constant .none j pos) (tC .non):=fun _ _ _ H _ I h=>Constant_none ⟨.non,H,I,rfl,h⟩
theorem pe_str{x j pos}:PE X (.Constant (.str x) j pos) (tC (.str x)):=fun _ _ _ H _ I h=>Calls.Constant_str ⟨.str x,H,I.tok _,⟨_,rfl⟩,h⟩
def Gl(X:Cx)(x:Str):Prop:=X.env.kindOf x=some .globalImplicit
theorem ld_glob{E:Value->Shared->Prop}{pins:List (Addr×Obj)}{s:Shared}{σ:St}{H:Hp}{x:Str}{u:Value}{pos:Pos}{Q:Value->Shared->Prop}(I:Inv X pins σ H s)(hg:Gl X x)(hm:X.mg x=some u)(h:Q u s)
  (hd:(x == ("__debug__" : Str))=false:=by decide):wpAny (model X.prog X.w) X.A (eval (.Name x pos) X.env) Q E s:=
 Calls.Name_function_global I.ok.kind hg (Calls.loadGlobal_global (by rw[I.ok.glob];exact I.mod.glob.keeps I.bk) hm h) hd
theorem ld_blt{E:Value->Shared->Prop}{pins:List (Addr×Obj)}{s:Shared}{σ:St}{H:Hp}{x:Str}{u:Value}{pos:Pos}{Q:Value->Shared->Prop}(I:Inv X pins σ H s)(hg:Gl X x)(hm:X.mg x=none)(hv:bootBuiltins x=some u)(h:Q u s)
  (hn:x ≠ "__name__" := by decide) (hd:(x == ("__debug__" : Str))=false:=by decide):wpAny (model X.prog X.w) X.A (eval (.Name x pos) X.env) Q E s:=by
 obtain⟨mb,h1,h2⟩:=I.mod.blt;exact Calls.Name_function_global I.ok.kind hg (Calls.loadGlobal_builtin (by rw[I.ok.glob];exact I.mod.glob.keeps I.bk) hm (by rw[I.ok.blt];exact h1.keeps I.bk) ((h2 x hn).trans hv) h) hd
theorem pe_glob{x:Str}{v:V}{u:Value}{pos:Pos}(hg:Gl X x)(hm:X.mg x=some u)(r:RelV v u)(hd:(x == ("__debug__" : Str))=false:=by decide):PE X (.Name x pos) (tC v):=
 fun _ _ _ H _ I h=>ld_glob I hg hm ⟨v,H,I,r,h⟩ hd
theorem pe_bltn{x:Str}{v:V}{u:Value}{pos:Pos}(hg:Gl X x)(hm:X.mg x=none)(hv:bootBuiltins x=some u)(r:RelV v u)(hn:x ≠ "__name__" := by decide)(hd:(x == ("__debug__" : Str))=false:=by decide):PE X (.Name x pos) (tC v):=
 fun _ _ _ H _ I h=>ld_blt I hg hm hv ⟨v,H,I,r,h⟩ hn hd
variable {a b:Expr}{ta tb:TE}{pos:Pos}
def PC(X:Cx)(op:CmpOp)(a b:Expr)(t:TE):Prop:=
 ∀(pins:List (Addr×Obj)) (s:Shared) (σ:St) (H:Hp) (Q:VK),Inv X pins σ H s->t σ H Q ->
  wpAny (model X.prog X.w) X.A (eval a X.env) (fun v s₁=>wpAny (model X.prog X.w) X.A (eval b X.env) (fun u s₂=>wpAny (model X.prog X.w) X.A (compareOp op v u) (EP X pins σ Q) X.xe s₂) X.xe s₁) X.xe s
def tB(t:TE):TT:=fun σ H Q=>t σ H fun x H1=>∃c,x=.bl c/\Q c H1
theorem pe_cmp{op:CmpOp}{t:TE}(h:PC X op a b t)(h1:behindInMarks op b=false:=by first | exact nobehind _ (by decide) (by decide) | rfl):PE X (.Compare a [op] [b] pos) t:=fun pins s σ H Q I hw=>wpAny_Compare1 (h pins s σ H Q I hw) h1
theorem pt_cmp{op:CmpOp}{t:TE}(h:PC X op a b t)(h1:behindInMarks op b=false:=by first | exact nobehind _ (by decide) (by decide) | rfl):PT X (.Compare a [op] [b] pos) (tB t):=by
 intro pins s σ H Q I hw;refine wpAny_isTrue_Compare1 (thn (h pins s σ H _ I hw) fun v s1 h1=>thn h1 fun u s2 h2=>thn h2 fun c s3 ⟨x,H1,I1,r1,q1⟩=>?_) h1;obtain⟨d,rfl,q⟩:=q1;cases r1;exact wpAny_truthy_bool ⟨H1,I1,q⟩
theorem pt_val{e:Expr}{t:TE}(h:PE X e t)(he:∀whole,isTrue e X.env whole=(do let v <-whole;standAt e.pos;holding [v] (truthy v)):=by intro _;rfl):PT X e (tB t):=by
 intro pins s σ H Q I hw;refine isTrue_plain (thn (h pins s σ H _ I hw) fun v s1 ⟨x,H1,I1,r1,q1⟩=>?_) (he _);obtain⟨d,rfl,q⟩:=q1;cases r1;exact wpAny_truthy_bool ⟨H1,I1,q⟩
variable {tA tB':TT}{rest:List Expr}
def tAnd(t u:TT):TT:=fun σ H Q=>t σ H fun c H1=>if c=true then u σ H1 Q else Q false H1
def tOr(t u:TT):TT:=fun σ H Q=>t σ H fun c H1=>if c=true then Q true H1 else u σ H1 Q
def tNot(t:TT):TT:=fun σ H Q=>t σ H fun c H1=>Q (!c) H1
theorem pw_and1(ha:PT X a tA):PW X (.BoolOp .And [a] pos) tA:=by
 intro wh pins s σ H Q I h;refine isTrue_and (thn (ha pins s σ H Q I h) fun c s1 e=>?_);cases c with
 | true=>exact isTrue_and_nil e
 | false=>exact e
theorem pw_or1(ha:PT X a tA):PW X (.BoolOp .Or [a] pos) tA:=by
 intro wh pins s σ H Q I h;refine isTrue_or (thn (ha pins s σ H Q I h) fun c s1 e=>?_);cases c with
 | false=>exact isTrue_or_nil e
 | true=>exact e
theorem pw_and(ha:PT X a tA)(hb:PW X (.BoolOp .And (b::rest) pos) tB'):PW X (.BoolOp .And (a::b::rest) pos) (tAnd tA tB'):=by
 intro wh pins s σ H Q I h;refine isTrue_and (thn (ha pins s σ H _ I h) fun c s1 ⟨H1,I1,q1⟩=>?_);cases c with
 | true=>exact hb wh pins s1 σ H1 Q I1 q1
 | false=>exact⟨H1,I1,q1⟩
theorem pw_or(ha:PT X a tA)(hb:PW X (.BoolOp .Or (b::rest) pos) tB'):PW X (.BoolOp .Or (a::b::rest) pos) (tOr tA tB'):=by
 intro wh pins s σ H Q I h;refine isTrue_or (thn (ha pins s σ H _ I h) fun c s1 ⟨H1,I1,q1⟩=>?_);cases c with
 | true=>exact⟨H1,I1,q1⟩
 | false=>exact hb wh pins s1 σ H1 Q I1 q1
theorem pt_not(ha:PT X a tA):PT X (.UnaryOp .Not a pos) (tNot tA):=by
 intro pins s σ H Q I h;exact isTrue_not (ha pins s σ H (fun c H1=>Q (!c) H1) I h)
def tAndV(ta tb:TE):TE:=fun σ H Q=>ta σ H fun x H1=>∃c,x=.bl c/\if c=true then tb σ H1 Q else Q (.bl false) H1
def tOrV(ta tb:TE):TE:=fun σ H Q=>ta σ H fun x H1=>∃c,x=.bl c/\if c=true then Q (.bl true) H1 else tb σ H1 Q
def tNotV(ta:TE):TE:=fun σ H Q=>ta σ H fun x H1=>∃c,x=.bl c/\Q (.bl (!c)) H1
theorem pe_one{op}{t:TE}(h:PE X a t):PE X (.BoolOp op [a] pos) t:=fun pins s σ H Q I hw=>BoolOp_one (h pins s σ H Q I hw)
theorem pe_and(ha:PE X a ta)(hb:PE X (.BoolOp .And (b::rest) pos) tb):PE X (.BoolOp .And (a::b::rest) pos) (tAndV ta tb):=by
 intro pins s σ H Q I h;refine BoolOp_and (thn (ha pins s σ H _ I h) fun v s1 ⟨x,H1,I1,r1,q1⟩=>?_);obtain⟨c,rfl,q1⟩:=q1;cases r1;refine wpAny_truthy_bool ?_;cases c with
 | true=>exact hb pins s1 σ H1 Q I1 q1
 | false=>exact⟨.bl false,H1,I1,rfl,q1⟩
theorem pe_or(ha:PE X a ta)(hb:PE X (.BoolOp .Or (b::rest) pos) tb):PE X (.BoolOp .Or (a::b::rest) pos) (tOrV ta tb):=by
 intro pins s σ H Q I h;refine BoolOp_or (thn (ha pins s σ H _ I h) fun v s1 ⟨x,H1,I1,r1,q1⟩=>?_);obtain⟨c,rfl,q1⟩:=q1;cases r1;refine wpAny_truthy_bool ?_;cases c with
 | false=>exact hb pins s1 σ H1 Q I1 q1
 | true=>exact⟨.bl true,H1,I1,rfl,q1⟩
theorem pe_not(ha:PE X a ta):PE X (.UnaryOp .Not a pos) (tNotV ta):=by
 intro pins s σ H Q I h;refine UnaryOp_ (thn (ha pins s σ H _ I h) fun v s1 ⟨x,H1,I1,r1,q1⟩=>?_);obtain⟨c,rfl,q1⟩:=q1;cases r1;exact not_of (wpAny_truthy_bool ⟨.bl (!c),H1,I1,rfl,q1⟩)
def tIf(t:TT)(ta tb:TE):TE:=fun σ H Q=>t σ H fun c H1=>if c=true then ta σ H1 Q else tb σ H1 Q
theorem pe_ifExp{c:Expr}(hc:PT X c tA)(ha:PE X a ta)(hb:PE X b tb):PE X (.IfExp c a b pos) (tIf tA ta tb):=by
 intro pins s σ H Q I h;refine wpAny_IfExp (thn (hc pins s σ H _ I h) fun d s1 ⟨H1,I1,q1⟩=>?_);cases d with
 | true=>exact ha pins s1 σ H1 Q I1 q1
 | false=>exact hb pins s1 σ H1 Q I1 q1
end
end L2
namespace L2
open PySem PySem.Spec PyProof.Rows
def SqL(K:PySem.W.Frag)(H:Hp)(a:Addr)(xs:List V):Prop:=
 Rd H a (.lst xs) \/
  ∃(o:Obj) (its:Array Value) (n:Nat),K.lookup a=some o/\o.cls=.type "list" /\ o.dict=none/\o.data=.seq its n/\its.size<=sizeLine/\Vals xs its.toList
def SqT(K:PySem.W.Frag)(H:Hp)(a:Addr)(xs:List V):Prop:=
 Rd H a (.tup xs) \/
  ∃(o:Obj) (its:Array Value) (n:Nat),K.lookup a=some o/\o.cls=.type "tuple" /\ o.data=.seq its n/\its.size<=sizeLine/\Vals xs its.toList
def absV:Value->Option V
 | .none=>some .non
 | .bool b=>some (.bl b)
 | .int i _=>some (.int i)
 | .str x _=>some (.str x)
 | .bytes b _=>some (.byt b)
 | .float b _=>some (.flt b)
 | .ref a=>some (.ref a)
 | .type n=>some (.ty n)
 | _=>none
theorem RelV.abs{x:V}{u:Value}(r:RelV x u):absV u=some x:=by
 cases x with
 | non=>cases r;rfl
 | bl _=>cases r;rfl
 | int _=>obtain⟨t,rfl⟩:=r;rfl
 | str _=>obtain⟨t,rfl⟩:=r;rfl
 | byt _=>obtain⟨t,rfl⟩:=r;rfl
 | flt _=>obtain⟨t,rfl⟩:=r;rfl
 | ref _=>cases r;rfl
 | ty _=>cases r;rfl
theorem RelV.inj{x y:V}{u:Value}(r:RelV x u)(q:RelV y u):x=y:=Option.some.inj (r.abs.symm.trans q.abs)
theorem Vals.inj:∀ {xs ys:List V} {us:List Value},Vals xs us->Vals ys us->xs=ys
 | _,_,_,.nil,.nil=>rfl
 | _,_,_,.cons r t,.cons r' t'=>by rw[r.inj r',Vals.inj t t']
section
variable {X:Cx}{pins:List (Addr×Obj)}{σ:St}{H:Hp}{s:Shared}{a:Addr}{xs ys:List V}
theorem SqL.of{K:PySem.W.Frag}(h:H a=some (.lst xs)):SqL K H a xs:=.inl (.inl h)
theorem SqT.of{K:PySem.W.Frag}(h:H a=some (.tup xs)):SqT K H a xs:=.inl (.inl h)
theorem Inv.list(I:Inv X pins σ H s)(h:SqL X.K H a xs):∃its:List Value,Vals xs its/\PlainL s.heap a its.toArray/\xs.length<=sizeLine:=by
 rcases h with h | ⟨o,its,n,hk,hc,hd,hs,hz,r⟩
 ·obtain⟨z,its,n,r,e⟩:=h.ok I.hok
  exact⟨its,r,⟨_,n,e,rfl,rfl,rfl⟩,z⟩
 ·refine⟨its.toList,r,⟨o,n,I.kIn a o hk,hc,hd,by simpa using hs⟩,?_⟩
  have e:=r.length;simp only[Array.length_toList]at e;omega
theorem Inv.tuple(I:Inv X pins σ H s)(h:SqT X.K H a xs):∃its:List Value,Vals xs its/\IsTup s.heap a its.toArray/\xs.length<=sizeLine:=by
 rcases h with h | ⟨o,its,n,hk,hc,hs,hz,r⟩
 ·obtain⟨z,its,r,p⟩:=h.ok I.hok
  exact⟨its,r,p,z⟩
 ·refine⟨its.toList,r,⟨o,I.kIn a o hk,hc,n,by simpa using hs⟩,?_⟩
  have e:=r.length;simp only[Array.length_toList]at e;omega
theorem Inv.list_inj(I:Inv X pins σ H s)(h:SqL X.K H a xs)(h':SqL X.K H a ys):xs=ys:=by
 obtain⟨its,r,⟨o,n,e,_,_,d⟩,_⟩:=I.list h;obtain⟨its',r',⟨o',n',e',_,_,d'⟩,_⟩:=I.list h';rw[e]at e';cases e';rw[d]at d';injection d' with d1 _
 have:its=its':=by simpa using congrArg Array.toList d1
 subst this;exact r.inj r'
end
abbrev Cx.wish(X:Cx)(E:Value->Shared->Prop):Cx:={ X with xe:=E }
abbrev Cx.nox(X:Cx):Cx:=X.wish fun _ _=>False
theorem Cx.Ok.wish{X:Cx}(ok:X.Ok)(E:Value->Shared->Prop):(X.wish E).Ok:=
 ⟨ok.mod,ok.kind,ok.glob,ok.blt,ok.above,ok.inj,ok.has,ok.cab,ok.hd,ok.frames,ok.stk,ok.exf,ok.bs,ok.bsz,ok.noex,ok.exfs,ok.funs,ok.frf⟩
theorem Cx.Ok.unwish{X:Cx}{E:Value->Shared->Prop}(ok:(X.wish E).Ok):X.Ok:=
 ⟨ok.mod,ok.kind,ok.glob,ok.blt,ok.above,ok.inj,ok.has,ok.cab,ok.hd,ok.frames,ok.stk,ok.exf,ok.bs,ok.bsz,ok.noex,ok.exfs,ok.funs,ok.frf⟩
section
variable {X:Cx}{pins:List (Addr×Obj)}{σ:St}{H:Hp}{s:Shared}{E:Value->Shared->Prop}
theorem Inv.wish(I:Inv X pins σ H s)(E:Value->Shared->Prop):Inv (X.wish E) pins σ H s:=⟨I.ok.wish E,I.os,I.bare,I.base,I.loc,I.cell,I.free,I.freeC,I.pin,I.hok,I.len⟩
theorem Inv.unwish(I:Inv (X.wish E) pins σ H s):Inv X pins σ H s:=⟨I.ok.unwish,I.os,I.bare,I.base,I.loc,I.cell,I.free,I.freeC,I.pin,I.hok,I.len⟩
theorem SP.unwish{D:Ends}{f:Flow}{s':Shared}(h:SP (X.wish E) pins D f s'):SP X pins D f s':=by
 cases f with
 | next=>obtain⟨σ',H',I,q⟩:=h;exact⟨σ',H',I.unwish,q⟩
 | brk=>obtain⟨σ',H',I,q⟩:=h;exact⟨σ',H',I.unwish,q⟩
 | cont=>obtain⟨σ',H',I,q⟩:=h;exact⟨σ',H',I.unwish,q⟩
 | ret u=>obtain⟨v,σ',H',I,r,q⟩:=h;exact⟨v,σ',H',I.unwish,r,q⟩
theorem PSs.nox{st:List Stmt}{t:TS}(h:PSs X.nox st t):PSs X st t:=fun pins s σ H D I hw=>
 wpAny_mono (h pins s σ H D (I.wish _) hw) (fun _ _ q=>q.unwish) fun _ _ z=>False.elim z
end
section
variable {X:Cx}{st:Stmt}{rest:List Stmt}{t u:TS}{e:Expr}{te:TE}{pos:Pos}
def tNext:TS:=fun D σ H=>D.nx σ H
def tSeq(t u:TS):TS:=fun D σ H=>t { D with nx:=u D } σ H
theorem pss_nil:PSs X [] tNext:=fun _ _ σ H _ I h=>wpAny_execs_nil ⟨σ,H,I,h⟩
theorem pss_cons(h1:PS X st t)(h2:PSs X rest u):PSs X (st::rest) (tSeq t u):=by
 intro pins s σ H D I h;refine wpAny_execs_cons (thn (h1 pins s σ H { D with nx:=u D } I h) fun f s1 q=>?_);cases f with
 | next=>
  obtain⟨σ',H',I',q⟩:=q;exact h2 pins s1 σ' H' D I' q
 | ret v=>exact q
 | brk=>exact q
 | cont=>exact q
theorem pss_one(h1:PS X st t):PSs X [st] t:=by
 intro pins s σ H D I h;refine wpAny_execs_cons (thn (h1 pins s σ H D I h) fun f s1 q=>?_);cases f with
 | next=>exact wpAny_execs_nil q
 | ret v=>exact q
 | brk=>exact q
 | cont=>exact q
theorem Inv.quiet{pins:List (Addr×Obj)}{σ:St}{H:Hp}{s:Shared}(I:Inv X pins σ H s):interactive X.env=false:=by simp[interactive,I.ok.kind]
def tDrop(te:TE):TS:=fun D σ H=>te σ H fun _ H1=>D.nx σ H1
theorem ps_expr(he:PE X e te)(hs:swapsWith e none pos.line X.env=pure false:=by rfl):PS X (.Expr e pos) (tDrop te):=by
 intro pins s σ H D I h;exact wpAny_Expr_any (thn (he pins s σ H _ I h) fun v s1 ⟨x,H1,I1,r1,q1⟩=>⟨σ,H1,I1,q1⟩) I.quiet hs
def tRet(te:TE):TS:=fun D σ H=>te σ H D.rt
theorem ps_ret(he:PE X e te):PS X (.Return (some e) pos) (tRet te):=by
 intro pins s σ H D I h;exact wpAny_Return_some (thn (he pins s σ H _ I h) fun v s1 ⟨x,H1,I1,r1,q1⟩=>⟨x,σ,H1,I1,r1,q1⟩)
def tIfS(c:TT)(t u:TS):TS:=fun D σ H=>c σ H fun b H1=>if b=true then t D σ H1 else u D σ H1
theorem ps_if{c:Expr}{a b:List Stmt}{tc:TT}(hc:PT X c tc)(ha:PSs X a t)(hb:PSs X b u):PS X (.If c a b pos) (tIfS tc t u):=by
 intro pins s σ H D I h;refine wpAny_If (thn (hc pins s σ H _ I h) fun d s1 ⟨H1,I1,q1⟩=>?_);cases d with
 | true=>exact ha pins s1 σ H1 D I1 q1
 | false=>exact hb pins s1 σ H1 D I1 q1
end
abbrev TG:=V->St->Hp->(St->Hp->Prop)->Prop
abbrev TGs:=List V->St->Hp->(St->Hp->Prop)->Prop
def PG(X:Cx)(target:Expr)(t:TG):Prop:=
 ∀(pins:List (Addr×Obj)) (s:Shared) (σ:St) (H:Hp) (v:V) (u:Value) (Q:St->Hp->Prop),Inv X pins σ H s->RelV v u->t v σ H Q ->
  wpAny (model X.prog X.w) X.A (assign target X.env u) (fun _ s'=>∃σ' H',Inv X pins σ' H' s'/\Q σ' H') X.xe s
def PGs(X:Cx)(ts:List Expr)(t:TGs):Prop:=
 ∀(pins:List (Addr×Obj)) (s:Shared) (σ:St) (H:Hp) (vs:List V) (us:List Value) (Q:St->Hp->Prop),Inv X pins σ H s->Vals vs us->t vs σ H Q ->
  wpAny (model X.prog X.w) X.A (assignInOrder ((assignEach ts X.env).map (·.2)) us) (fun _ s'=>∃σ' H',Inv X pins σ' H' s'/\Q σ' H') X.xe s
abbrev TSet:=V->V->V->Hp->(Hp->Prop)->Prop
def PSet(X:Cx)(t:TSet):Prop:=
 ∀(pins:List (Addr×Obj)) (s:Shared) (σ:St) (H:Hp) (o i v:V) (ov iv u:Value) (Q:Hp->Prop),Inv X pins σ H s->RelV o ov->RelV i iv->RelV v u->t o i v H Q ->
  wpAny (model X.prog X.w) X.A (setItem ov iv u) (fun _ s'=>∃H',Inv X pins σ H' s'/\Q H') X.xe s
abbrev TIp:=V->V->Hp->VK->Prop
def PIp(X:Cx)(op:Operator)(t:TIp):Prop:=
 ∀(pins:List (Addr×Obj)) (s:Shared) (σ:St) (H:Hp) (x y:V) (v u:Value) (Q:VK),Inv X pins σ H s->RelV x v->RelV y u->t x y H Q ->
  wpAny (model X.prog X.w) X.A (inplaceOp op v u) (EP X pins σ Q) X.xe s
section
variable {X:Cx}{pos:Pos}
def gName(i:Nat):TG:=fun v σ H Q=>Q (σ.set i (some v)) H
theorem pg_name{i:Nat}{x:Str}(hN:X.N.Nodup)(hi:X.N[i]? = some x)(hx:Loc X.env.scope x)(hf:X.fn x=true\/X.env.scope.names.lookup x=some .local:=by first | exact .inl rfl | exact .inr rfl | assumption):PG X (.Name x pos) (gName i):=by
 intro pins s σ H v u Q I r h;exact wpAny_assign_Name (store_ok I hN hi hx r (fun s' I'=>⟨_,H,I',h⟩) hf)
def gNil:TGs:=fun vs σ H Q=>vs=[]/\Q σ H
def gCons(t:TG)(u:TGs):TGs:=fun vs σ H Q=>∃v r,vs=v::r/\t v σ H fun σ' H'=>u r σ' H' Q
theorem pgs_nil:PGs X [] gNil:=by
 intro pins s σ H vs us Q I r h;obtain⟨e,h⟩:=h;subst e;cases r;exact assignInOrder_nil ⟨σ,H,I,h⟩
theorem pgs_cons{e:Expr}{es:List Expr}{t:TG}{u:TGs}(h1:PG X e t)(h2:PGs X es u)
  (hs:(assignEach (e::es) X.env).map (·.2)=assign e X.env::(assignEach es X.env).map (·.2):=by rfl):PGs X (e::es) (gCons t u):=by
 intro pins s σ H vs us Q I r h;obtain⟨v,vr,e1,h⟩:=h;subst e1;cases r with
 | cons r rr=>
  rw[hs];refine assignInOrder_cons (thn (h1 pins s σ H _ _ _ I r h) fun _ s1 ⟨σ1,H1,I1,q1⟩=>?_);exact h2 pins s1 σ1 H1 _ _ Q I1 rr q1
def gTup(K:PySem.W.Frag)(n:Nat)(t:TGs):TG:=fun v σ H Q=>∃a xs,v=.ref a/\SqT K H a xs/\xs.length=n/\t xs σ H Q
theorem pg_tup{es:List Expr}{k:Nat}{t:TGs}{n:Nat}(hc:X.calm=true)(h:PGs X es t)
  (hn:(assignEach es X.env).length=n:=by rfl) (hst:(assignEach es X.env).findIdx? (·.1)=none:=by rfl):PG X (.Tuple es k pos) (gTup X.K n t):=by
 intro pins s σ H v u Q I r hw;obtain⟨a,xs,e1,hq,hl,hw⟩:=hw;subst e1;cases r;obtain⟨its,rv,ht,hz⟩:=I.tuple hq;refine assign_Tuple_tuple (I.ok.hd hc) ht (by simp[hn,<-hl,rv.length]) hst fun h' hx=>?_
 have I1:Inv X pins σ H { s with heap:=h' }:=I.kept (t':=s.toks) fun b o e=>hx b o (Nat.ne_of_lt (Heap.lt_size e)) e
 exact h pins _ σ H xs _ Q I1 (by simpa using rv) hw
def gSub(to ti:TE)(t:TSet):TG:=fun v σ H Q=>to σ H fun o H1=>ti σ H1 fun i H2=>t o i v H2 fun H3=>Q σ H3
theorem pg_sub{o i:Expr}{to ti:TE}{t:TSet}(ho:PE X o to)(hi:PE X i ti)(hs:PSet X t)
  (ha:∀v,assign (.Subscript o i pos) X.env v=(do
   let ov <-holding [v] (eval o X.env)
   let iv <-holding [v,ov] (eval i X.env)
   standAt pos
   holding [v,ov,iv] (setItem ov iv v)
   release [v,ov,iv] []):=by intro _;rfl):PG X (.Subscript o i pos) (gSub to ti t):=by
 intro pins s σ H v u Q I r h;rw[ha];refine wpAny_bind (wpAny_holding (thn (ho pins s σ H _ I h) fun ov s1 ⟨x,H1,I1,r1,q1⟩=>?_));refine wpAny_bind (wpAny_holding (thn (hi pins s1 σ H1 _ I1 q1) fun iv s2 ⟨y,H2,I2,r2,q2⟩=>?_));refine wpAny_bind (wpAny_standAt (wpAny_bind (wpAny_holding (thn (hs pins s2 σ H2 x y v ov iv u _ I2 r1 r2 r q2) fun _ s3 ⟨H3,I3,q3⟩=>?_))));exact wpAny_release ⟨σ,H3,I3,q3⟩
def tAsg(te:TE)(g:TG):TS:=fun D σ H=>te σ H fun x H1=>g x σ H1 D.nx
theorem ps_asg{tg e:Expr}{te:TE}{g:TG}(he:PE X e te)(hg:PG X tg g)(hs:swapsWithSole [tg] e pos.line X.env=pure false:=by rfl)(hw:swappedStores [tg] e X.env=pure none:=by rfl)
  (h1:(assignEach [tg] X.env).map (·.2)=[assign tg X.env]:=by rfl):PS X (.Assign [tg] e pos) (tAsg te g):=by
 intro pins s σ H D I h;refine wpAny_Assign_stores (thn (he pins s σ H _ I h) fun v s1 ⟨x,H1,I1,r1,q1⟩=>?_) hs hw;rw[h1];exact thn (hg pins s1 σ H1 x v _ I1 r1 q1) fun _ s2 q=>q
theorem ps_set{i:Nat}{x:Str}{e:Expr}{te:TE}{pos':Pos}(hN:X.N.Nodup)(hi:X.N[i]? = some x)(hx:Loc X.env.scope x)(he:PE X e te)(hs:swapsWith e (some (.Name x pos')) pos.line X.env=pure false:=by rfl)(hf:X.fn x=true\/X.env.scope.names.lookup x=some .local:=by first | exact .inl rfl | exact .inr rfl | assumption) :
  PS X (.Assign [.Name x pos'] e pos) (tAsg te (gName i)):=by
 intro pins s σ H D I h;refine wpAny_Assign_Name (thn (he pins s σ H _ I h) fun v s1 ⟨y,H1,I1,r1,q1⟩=>?_) hs;exact store_ok I1 hN hi hx r1 (fun s2 I2=>⟨_,H1,I2,q1⟩) hf
def tAug(i:Nat)(te:TE)(ti:TIp):TS:=fun D σ H=>∃x,σ[i]? = some (some x)/\te σ H fun y H1=>ti x y H1 fun z H2=>D.nx (σ.set i (some z)) H2
theorem ps_aug{i:Nat}{x:Str}{e:Expr}{te:TE}{op:Operator}{ti:TIp}{pos':Pos}(hN:X.N.Nodup)(hi:X.N[i]? = some x)(hx:Loc X.env.scope x)(he:PE X e te)(ho:PIp X op ti)(hf:X.fn x=true\/X.env.scope.names.lookup x=some .local:=by first | exact .inl rfl | exact .inr rfl | assumption) :
  PS X (.AugAssign (.Name x pos') op e pos) (tAug i te ti):=by
 intro pins s σ H D I h;obtain⟨v,e1,h⟩:=h;obtain⟨m,hn,hl⟩:=I.loc;have vis:Vis X.env.scope x:=by rcases hx with k | k;exact .inl k;exact .inr (.inl k)
 obtain⟨u,r,l⟩:=hl i x v hi e1 vis;refine wpAny_AugAssign_Name ?_
 have go:wpAny (model X.prog X.w) X.A (eval e X.env) (fun w s₂=>wpAny (model X.prog X.w) X.A (inplaceOp op u w) (fun r s₃=>wpAny (model X.prog X.w) X.A (storeName X.env x r) (fun _=>SP X pins D .next) X.xe s₃) X.xe s₂) X.xe s:=by
  refine thn (he pins s σ H _ I h) fun w s1 ⟨y,H1,I1,r1,q1⟩=>?_
  refine thn (ho pins s1 σ H1 v y u w _ I1 r r1 q1) fun z s2 ⟨zv,H2,I2,r2,q2⟩=>?_
  exact store_ok I2 hN hi hx r2 (fun s3 I3=>⟨_,H2,I3,q2⟩) hf
 rcases l with ⟨hk,hm⟩ | ⟨hk,c,hc,hcell⟩
 ·exact wpAny_loadName_local I.ok.kind hk hn hm go
 ·rcases hk with hk | hk
  ·exact wpAny_loadName_cell I.ok.kind hk hc hcell go
  ·rcases hx with k | k
   ·have:X.env.scope.names.lookup x=some .free:=hk
    rw[k]at this;cases this
   ·have:X.env.scope.names.lookup x=some .free:=hk
    rw[k]at this;cases this
def tAugS(to ti te:TE)(tget:V->V->Hp->VK->Prop)(tip:TIp)(tset:TSet):TS:=fun D σ H=>to σ H fun o H1=>ti σ H1 fun i H2=>tget o i H2 fun x H3=>te σ H3 fun y H4=>tip x y H4 fun z H5=>tset o i z H5 fun H6=>D.nx σ H6
def PGet(X:Cx)(t:V->V->Hp->VK->Prop):Prop:=
 ∀(pins:List (Addr×Obj)) (s:Shared) (σ:St) (H:Hp) (o i:V) (ov iv:Value) (Q:VK),Inv X pins σ H s->RelV o ov->RelV i iv->t o i H Q ->
  wpAny (model X.prog X.w) X.A (getItem ov iv) (EP X pins σ Q) X.xe s
theorem ps_augS{o i e:Expr}{to ti te:TE}{tget:V->V->Hp->VK->Prop}{tip:TIp}{tset:TSet}{op:Operator}{tpos:Pos}(ho:PE X o to)(hi:PE X i ti)(hg:PGet X tget)(he:PE X e te)(hp:PIp X op tip)(hs:PSet X tset)
  (ha:∀ov iv new,augStore i ov iv new=(do holding [new,ov,iv] (setItem ov iv new);release [new,ov,iv] [];pure .next):=by intros;rfl):PS X (.AugAssign (.Subscript o i tpos) op e pos) (tAugS to ti te tget tip tset):=by
 intro pins s σ H D I h;refine wpAny_AugAssign_SubscriptAny (thn (ho pins s σ H _ I h) fun ov s1 ⟨x1,H1,I1,r1,q1⟩=>?_) ha;refine thn (hi pins s1 σ H1 _ I1 q1) fun iv s2 ⟨x2,H2,I2,r2,q2⟩=>?_
 refine thn (hg pins s2 σ H2 x1 x2 ov iv _ I2 r1 r2 q2) fun old s3 ⟨x3,H3,I3,r3,q3⟩=>?_
 refine thn (he pins s3 σ H3 _ I3 q3) fun v s4 ⟨x4,H4,I4,r4,q4⟩=>?_
 refine thn (hp pins s4 σ H4 x3 x4 old v _ I4 r3 r4 q4) fun new s5 ⟨x5,H5,I5,r5,q5⟩=>?_
 exact thn (hs pins s5 σ H5 x1 x2 x5 ov iv new _ I5 r1 r2 r5 q5) fun _ s6 ⟨H6,I6,q6⟩=>⟨σ,H6,I6,q6⟩
def ipI(f:Int->Int->Int):TIp:=fun x y H Q=>∃i j,x=.int i/\y=.int j/\Q (.int (f i j)) H
theorem ip_add:PIp X .Add (ipI fun i j=>i+j):=by
 intro pins s σ H x y v u Q I r1 r2 h;obtain⟨i,j,e1,e2,q⟩:=h;subst e1;subst e2;obtain⟨t,rfl⟩:=r1;obtain⟨t',rfl⟩:=r2;exact iadd_int ⟨.int _,H,I.tok _,⟨_,rfl⟩,q⟩
end
section
variable {X:Cx}{pos:Pos}
def tWhile(c:TT)(tb:TS):TS:=fun D σ H=>∃W:Nat->St->Hp->Prop,(∃m,W m σ H)/\∀m σ H,W m σ H ->
 c σ H fun b H1=>if b=true then ∃N:St->Hp->Prop,(∀σ' H',N σ' H'->∃m',m'<m/\W m' σ' H')/\tb { D with nx:=N,ct:=N,bk:=D.nx } σ H1 else D.nx σ H1
theorem ps_while{c:Expr}{body:List Stmt}{tc:TT}{tb:TS}(hp:PassesOwn (model X.prog X.w) X.A X.env X.xe)(hc:PT X c tc)(hb:PSs X body tb):PS X (.While c body [] pos) (tWhile tc tb):=by
 intro pins s σ H D I h;obtain⟨W,⟨m0,w0⟩,turn⟩:=h;refine wpAny_While (codeAny_whileLoop (fun n s'=>∃σ' H',Inv X pins σ' H' s'/\W n σ' H') ?_ m0 ⟨σ,H,I,w0⟩);rintro n s1 ⟨σ1,H1,I1,w1⟩;refine wpAny_passesOwn hp (thn (hc pins s1 σ1 H1 _ I1 (turn n σ1 H1 w1)) fun b s2 ⟨H2,I2,q2⟩=>?_);cases b with
 | true=>
  obtain⟨N,hN,q2⟩:=q2;rw[if_pos rfl];refine wpAny_passesOwn hp (thn (hb pins s2 σ1 H2 _ I2 q2) fun f s3 q3=>?_);cases f with
  | next=>
   obtain⟨σ3,H3,I3,n3⟩:=q3;obtain⟨m',hm,w3⟩:=hN σ3 H3 n3;exact⟨m',hm,σ3,H3,I3,w3⟩
  | cont=>
   obtain⟨σ3,H3,I3,n3⟩:=q3;obtain⟨m',hm,w3⟩:=hN σ3 H3 n3;exact⟨m',hm,σ3,H3,I3,w3⟩
  | brk=>exact q3
  | ret v=>exact q3
 | false=>
  rw[if_neg Bool.false_ne_true];exact wpAny_execs_nil ⟨σ1,H2,I2,q2⟩
end
structure It where
 go:Nat->Hp->Prop
 yld:Nat->Hp->V->Hp->Prop
 stop:Nat->Hp->Prop
def FpOk(X:Cx)(pins:List (Addr×Obj))(H:Hp)(b:Addr):Prop:=
 H b=none/\b≠X.env.locals/\b∉X.fs/\(b∈X.ex\/X.s₀.heap.objs.size<=b)/\(∀x c,X.env.cells.lookup x=some c->c≠b)/\∀p∈X.pn++pins,p.1≠b
theorem Inv.fpOk{X:Cx}{pins:List (Addr×Obj)}{σ:St}{H H':Hp}{s:Shared}{b:Addr}(I:Inv X pins σ H s)(hb:s.heap.objs.size<=b)(hn:H' b=none):FpOk X pins H' b:=by
 refine⟨hn,Nat.ne_of_gt (Nat.lt_of_lt_of_le I.lt hb),I.nofs hb,.inr (Nat.le_trans I.sz hb),fun x c e z=>?_,fun p hp z=>?_⟩
 ·obtain⟨v,q⟩:=I.cell x c e
  exact absurd (Nat.lt_of_lt_of_le q.lt (by rw[z];exact hb)) (Nat.lt_irrefl _)
 ·exact absurd (Nat.lt_of_lt_of_le (Heap.lt_size (I.pin p hp).1) (by rw[z];exact hb)) (Nat.lt_irrefl _)
structure Turn(P:Program)(w:World)(K:PySem.W.Frag)(tg:Expr)(J:It)(fp:List Addr)(it:Addr)(tn:Nat->Heap->Prop):Prop where
 mem:it∈fp
 obj:∀i h,tn i h->∀b∈fp,∃o,h.get? b=some o/\∀v,o.data≠.cell v
 keep:∀i h h',tn i h->(∀b∈fp,∀o,h.get? b=some o->h'.get? b=some o)->tn i h'
 item:∀(X:Cx),X.prog=P->X.w=w->X.K=K->X.calm=true->∀(i:Nat) (pins:List (Addr×Obj)) (s:Shared) (σ:St) (H:Hp) (E:Value->Shared->Prop),Inv X pins σ H s->(∀b∈fp,FpOk X pins H b)->tn i s.heap->J.go i H ->
  wpAny (model P w) X.A (pyNext (.ref it)) (fun r s1=>∃u,r=some u /\
   wpAny (model P w) X.A (letOwnedTupleGo tg (.ref it) u) (fun _ s2=>∃x H',Inv X pins σ H' s2/\RelV x u/\J.yld i H x H'/\tn (i+1) s2.heap/\∀b∈fp,H' b=none) E s1) E s
 done:∀(X:Cx),X.prog=P->X.w=w->X.K=K->X.calm=true->∀(i:Nat) (pins:List (Addr×Obj)) (s:Shared) (σ:St) (H:Hp) (E:Value->Shared->Prop),Inv X pins σ H s->(∀b∈fp,FpOk X pins H b)->tn i s.heap->J.stop i H ->
  wpAny (model P w) X.A (pyNext (.ref it)) (fun r s1=>r=none/\Inv X pins σ H s1) E s
 self:∀(A:Around) (i:Nat) (s:Shared) (Q:Value->Shared->Prop) (E:Value->Shared->Prop),tn i s.heap->Q (.ref it) s->wpAny (model P w) A (pyIter (.ref it)) Q E s
abbrev TI:=St->Hp->(It->Hp->Prop)->Prop
def PIE(X:Cx)(pins:List (Addr×Obj))(σ:St)(tg:Expr)(R:It->Hp->Prop)(itv:Value)(s2:Shared):Prop:=
 ∃(it:Addr) (fp:List Addr) (tn:Nat->Heap->Prop) (J:It) (H':Hp),itv=.ref it/\Inv X pins σ H' s2/\Turn X.prog X.w X.K tg J fp it tn/\tn 0 s2.heap/\(∀b∈fp,FpOk X pins H' b)/\R J H'
def PI(X:Cx)(tg iter:Expr)(wi:TI):Prop:=
 ∀(pins:List (Addr×Obj)) (s:Shared) (σ:St) (H:Hp) (R:It->Hp->Prop),Inv X pins σ H s->wi σ H R ->
  wpAny (model X.prog X.w) X.A (eval iter X.env) (fun v s1=>wpAny (model X.prog X.w) X.A (pyIter v) (PIE X pins σ tg R) X.xe s1) X.xe s
theorem go_of{M:Model}{A:Around}{E:Value->Shared->Prop}{s:Shared}{tg:Expr}{it:Addr}{u:Value}{o:Obj}{n:String}{vs:Array Value}{Q:Unit->Shared->Prop}(ho:s.heap.get? it=some o)(hc:o.cls=.type n)(hd:o.data=.fields vs)
  (hn:["enumerate", "zip", "dict_itemiterator", "dict_reverseitemiterator", "odict_iterator", "itertools.zip_longest", "itertools.pairwise"].contains n=false) (hQ:Q () s):wpAny M A (letOwnedTupleGo tg (.ref it) u) Q E s:=by
 unfold letOwnedTupleGo
 cases tg <;> first
  | exact wpAny_pure hQ
  | (cases u <;> first
    | exact wpAny_pure hQ
    | (refine wpAny_bind (wpAny_load ho ?_)
       rw[hc,hd];show wpAny M A (if(["enumerate", "zip", "dict_itemiterator", "dict_reverseitemiterator", "odict_iterator", "itertools.zip_longest", "itertools.pairwise"].contains n&&vs[0]? == some (rawInt _))=true then _ else _) Q E s;rw[if_neg (by intro h;rw[hn,Bool.false_and]at h;cases h)];exact wpAny_pure hQ))
def Itl(K:PySem.W.Frag)(a:Addr):It:=
 ⟨fun i H=>∃xs x,SqL K H a xs/\xs[i]? = some x,fun i H x H'=>H'=H/\∀xs,SqL K H a xs->xs[i]? = some x,fun i H=>∃xs,SqL K H a xs/\xs.length<=i⟩
def Itr(lo:Int)(n:Nat):It:=⟨fun i _=>i<n,fun i H x H'=>H'=H/\x=.int (lo+i),fun i _=>n<=i⟩
theorem turn_list{P:Program}{w:World}{K:PySem.W.Frag}{tg:Expr}(a it:Addr):Turn P w K tg (Itl K a) [it] it (fun i h=>h.IsListIter it a i) where
 mem:=by simp
 obj:=fun i h st b hb=>by
  have e:b=it:=by simpa using hb
  subst e;obtain⟨o,e,c,d⟩:=st;exact⟨o,e,fun v z=>by rw[d]at z;cases z⟩
 keep:=fun i h h' st k=>st.at fun o e=>k it (by simp) o e
 item:=by
  intro X hP hw hK hc i pins s σ H E I hf st hg;subst hP hw hK;obtain⟨xs,x,hq,hx⟩:=hg;obtain⟨its,rv,p,hz⟩:=I.list hq;obtain⟨u,hu,ru⟩:=rv.get hx;obtain⟨f0,f1,f2,f3,f4,f5⟩:=hf it (by simp);refine wpAny_pyNext_list_item st p.isList (x:=u) (by simpa using hu) fun h' st' sb=>?_
  have I1:Inv X pins σ H { s with heap:=h' }:=I.turned (t':=s.toks) (fun b o hb e=>(sb.2 b hb).trans e) f0 f1 f3 f4 f5;obtain⟨o,e,c,d⟩:=id st';exact⟨u,rfl,go_of (s:={ s with heap:=h' }) e c d (by decide) ⟨x,H,I1,ru,⟨rfl,fun ys hy=>by rw[I.list_inj hy hq];exact hx⟩,st',fun b hb=>(hf b hb).1⟩⟩
 done:=by
  intro X hP hw hK hc i pins s σ H E I hf st hg;subst hP hw hK;obtain⟨xs,hq,hx⟩:=hg;obtain⟨its,rv,p,hz⟩:=I.list hq;obtain⟨f0,f1,f2,f3,f4,f5⟩:=hf it (by simp);have hl:=rv.length;exact wpAny_pyNext_list_end (I.ok.hd hc) st p.isList (by simp;omega) fun h' eb=>⟨rfl,I.turned (t':=s.toks) (fun b o hb e=>eb b o hb e) f0 f1 f3 f4 f5⟩
 self:=fun _ _ _ _ _ st h=>wpAny_pyIter_listiter st h
theorem turn_range{P:Program}{w:World}{K:PySem.W.Frag}{tg:Expr}(it:Addr)(lo:Int)(n:Nat):Turn P w K tg (Itr lo n) [it] it (fun i h=>IsRangeIter h it (lo+(i:Nat) * 1) ((n:Int) - (i:Nat)) 1) where
 mem:=by simp
 obj:=fun i h st b hb=>by
  have e:b=it:=by simpa using hb
  subst e
  exact⟨_,st,fun v z=>by
   have z':Data.fields _=Data.cell v:=z;cases z'⟩
 keep:=fun i h h' st k=>k it (by simp) _ st
 item:=by
  intro X hP hw hK hc i pins s σ H E I hf st hg;subst hP hw hK;obtain⟨f0,f1,f2,f3,f4,f5⟩:=hf it (by simp);have W:=Walks.range (prog:=X.prog) (w:=X.w) (I.ok.hd hc) it lo 1 n;refine W.item i s _ _ hg st fun v h' tk hv st' kk=>?_
  obtain⟨t,rfl⟩:=hv;have I1:Inv X pins σ H { s with heap:=h',toks:=tk }:=I.turned (fun b o hb e=>kk b o (by simpa using hb) e) f0 f1 f3 f4 f5;refine⟨_,rfl,go_of (s:={ s with heap:=h',toks:=tk }) (n := "range_iterator") st' rfl rfl (by decide) ⟨.int (lo+i),H,I1,⟨t,?_⟩,⟨rfl,rfl⟩,st',fun b hb=>(hf b hb).1⟩⟩;rw[Int.mul_one]
 done:=by
  intro X hP hw hK hc i pins s σ H E I hf st hg;subst hP hw hK;obtain⟨f0,f1,f2,f3,f4,f5⟩:=hf it (by simp);exact wpAny_pyNext_range_end (I.ok.hd hc) st (by have:n<=i:=hg;omega) fun h' eb=>⟨rfl,I.turned (t':=s.toks) (fun b o hb e=>eb b o hb e) f0 f1 f3 f4 f5⟩
 self:=fun _ _ _ _ _ st h=>wpAny_pyIter_rangeiter st h
end L2
namespace L2
open PySem PySem.Spec PyProof.Rows
section
variable {X:Cx}{tg:Expr}
def iList(K:PySem.W.Frag)(tl:TE):TI:=fun σ H R=>tl σ H fun x H1=>∃a,x=.ref a/\(∃xs,SqL K H1 a xs)/\R (Itl K a) H1
theorem pi_list{l:Expr}{tl:TE}(hl:PE X l tl):PI X tg l (iList X.K tl):=by
 intro pins s σ H R I h;refine thn (hl pins s σ H _ I h) fun v s1 ⟨x,H1,I1,r1,q1⟩=>?_
 obtain⟨a,e,⟨xs,hq⟩,q⟩:=q1;subst e;cases r1;obtain⟨its,rv,p,hz⟩:=I1.list hq;refine wpAny_pyIter_list p.isList ?_;refine⟨s1.heap.objs.size,[s1.heap.objs.size],_,_,H1,rfl,I1.kept (t':=s1.toks) fun b o e=>Heap.get?_push_of_some _ e,turn_list a _,⟨_,Heap.get?_push_size _ rfl,rfl,rfl⟩,fun b hb=>?_,q⟩;have e:b=s1.heap.objs.size:=by simpa using hb
 subst e;exact I1.fpOk (Nat.le_refl _) (I1.hok.fresh (Nat.le_refl _))
theorem range_it{pins:List (Addr×Obj)}{σ:St}{H:Hp}{s:Shared}{R:It->Hp->Prop}{E:Value->Shared->Prop}{lo hi:Int}{t u v:Tok}{tk:Nat}(I:Inv X pins σ H s)(h1 : -(2 ^ 62)<=lo)(h2:lo<2 ^ 62)(h3 : -(2 ^ 62)<=hi)(h4:hi<2 ^ 62)
  (q:R (Itr lo (hi - lo).toNat) H):wpAny (model X.prog X.w) X.A (pyIter (.ref s.heap.objs.size)) (PIE X pins σ tg R) E { s with heap:=s.heap.push { cls:=.type "range", data:=.fields #[.int lo t,.int hi u,.int 1 v] },toks:=tk }:=by
 refine wpAny_pyIter_range (IsRange.new ..) (small_one h1 h2 h3 h4) ?_;have I1:Inv X pins σ H { s with heap:=s.heap.push { cls:=.type "range", data:=.fields #[.int lo t,.int hi u,.int 1 v] },toks:=tk }:=I.kept fun b o e=>Heap.get?_push_of_some _ e
 refine⟨(s.heap.push { cls:=.type "range", data:=.fields #[.int lo t,.int hi u,.int 1 v] }).objs.size,[(s.heap.push { cls:=.type "range", data:=.fields #[.int lo t,.int hi u,.int 1 v] }).objs.size],_,_,H,rfl,
  I1.kept (t':=tk) fun b o e=>Heap.get?_push_of_some _ e,turn_range _ lo (hi - lo).toNat,?_,fun b hb=>?_,q⟩
 ·have e1:lo+((0:Nat):Int) * 1=lo:=by simp
  have e2:(((hi - lo).toNat:Nat):Int) - ((0:Nat):Int)=Builtin.Range.rangeSize lo hi 1:=by rw[rangeSize_one];split <;> omega
  show IsRangeIter _ _ (lo+((0:Nat):Int) * 1) ((((hi - lo).toNat:Nat):Int) - ((0:Nat):Int)) 1;rw[e1,e2];exact Heap.get?_push_size _ rfl
 ·have e:b=(s.heap.push { cls:=.type "range", data:=.fields #[.int lo t,.int hi u,.int 1 v] }).objs.size:=by simpa using hb
  subst e;exact I1.fpOk (Nat.le_refl _) (I1.hok.fresh (Nat.le_refl _))
def iRng1(ta:TA):TI:=fun σ H R=>ta σ H fun vs H1=>∃j:Int,vs=[.int j] /\ -(2 ^ 62)<=j/\j<2 ^ 62/\R (Itr 0 j.toNat) H1
theorem pi_range1{a:Expr}{ta:TA}{p pos:Pos}(hg:Gl X "range")(hm:X.mg "range" = none)(ha:PA X [a] ta)(hs:starEach [a] X.env=[(false,eval a X.env)]:=by rfl):PI X tg (.Call (.Name "range" p) [a] [] pos) (iRng1 ta):=by
 intro pins s σ H R I h;refine Call_ (ld_blt I hg hm boot_range (PyProof.Rows.callWith_type1 (thn (ha pos pins s σ H _ I h) fun us s1 ⟨vs,H1,I1,r1,q1⟩=>?_) hs rfl));obtain⟨j,e,q1,q2,q⟩:=q1;subst e;cases r1 with
 | cons r rr=>
  cases rr;obtain⟨t,rfl⟩:=r;exact call_range_1 (range_it I1 (by omega) (by omega) q1 q2 (by simpa using q))
def tFor(wi:TI)(g:TG)(tb:TS):TS:=fun D σ H=>wi σ H fun J H1=>∃W:Nat->Nat->St->Hp->Prop,(∃m,W 0 m σ H1)/\∀i m σ H,W i m σ H ->
 (J.stop i H/\D.nx σ H)\/(J.go i H/\∃N:St->Hp->Prop,(∀σ' H',N σ' H'->∃m',m'<m/\W (i+1) m' σ' H')/\∀x H',J.yld i H x H'->g x σ H' fun σ2 H2=>tb { D with nx:=N,ct:=N,bk:=D.nx } σ2 H2)
def pinsAt(fp:List Addr)(h:Heap):List (Addr×Obj):=fp.filterMap fun b=>(h.get? b).map fun o=>(b,o)
theorem mem_pinsAt{fp:List Addr}{h:Heap}{b:Addr}{o:Obj}(hb:b∈fp)(e:h.get? b=some o):(b,o)∈pinsAt fp h:=List.mem_filterMap.mpr ⟨b,hb,by rw[e];rfl⟩
theorem of_pinsAt{fp:List Addr}{h:Heap}{p:Addr×Obj}(hp:p∈pinsAt fp h):p.1∈fp/\h.get? p.1=some p.2:=by
 obtain⟨b,hb,e⟩:=List.mem_filterMap.mp hp;cases q:h.get? b with
 | none=>rw[q]at e;cases e
 | some o=>
  rw[q]at e;have e':(b,o)=p:=Option.some.inj e;subst e';exact⟨hb,q⟩
theorem Inv.pinned{pins:List (Addr×Obj)}{σ:St}{H:Hp}{s:Shared}{fp:List Addr}(I:Inv X pins σ H s)(hf:∀b∈fp,FpOk X pins H b)(ho:∀b∈fp,∃o,s.heap.get? b=some o/\∀v,o.data≠.cell v):Inv X (pins++pinsAt fp s.heap) σ H s:=
 I.pins_of fun p hp=>(List.mem_append.mp hp).elim (fun z=>I.pin p (List.mem_append_right _ z)) fun z=>by
  obtain⟨hb,e⟩:=of_pinsAt z;obtain⟨f0,f1,f2,_⟩:=hf p.1 hb;obtain⟨o,e',d⟩:=ho p.1 hb;rw[e]at e';cases e';exact⟨e,f0,f1,f2,d⟩
theorem Inv.unpinned{pins pl:List (Addr×Obj)}{σ:St}{H:Hp}{s:Shared}(I:Inv X (pins++pl) σ H s):Inv X pins σ H s:=I.pins_of fun p hp=>I.pin p (List.mem_append_right _ (List.mem_append_left _ hp))
theorem ps_for{iter:Expr}{body:List Stmt}{wi:TI}{g:TG}{tb:TS}{pos:Pos}(hp:PassesOwn (model X.prog X.w) X.A X.env X.xe)(hc:X.calm=true)(hi:PI X tg iter wi)(hg:PG X tg g)(hb:PSs X body tb)
  (hs:∀x,foldedSetIterable iter X.env x=pure x:=by intro _;rfl):PS X (.For tg iter body [] pos) (tFor wi g tb):=by
 intro pins s σ H D I h;refine wpAny_For (thn (hi pins s σ H _ I h) fun v s1 h1=>thn h1 fun itv s2 h2=>?_) hs;obtain⟨it,fp,tn,J,H2,e,I2,T,st2,f2,W,⟨m0,w0⟩,turn⟩:=h2;subst e;have stat:∀ {H':Hp},(∀b∈fp,H' b=none)->∀b∈fp,FpOk X pins H' b:=fun hn b hb=>⟨hn b hb,(f2 b hb).2⟩
 refine codeAny_forLoop_any (fun n s'=>∃i σ' H',Inv X pins σ' H' s'/\tn i s'.heap/\(∀b∈fp,H' b=none)/\W i n σ' H') ?_ m0 ⟨0,σ,H2,I2,st2,fun b hb=>(f2 b hb).1,w0⟩;rintro n s3 ⟨i,σ3,H3,I3,st3,fr3,w3⟩;rcases turn i n σ3 H3 w3 with ⟨stop,qn⟩ | ⟨go,N,hN,step⟩
 ·refine wpAny_passesOwn hp (thn (T.done X rfl rfl rfl hc i pins s3 σ3 H3 X.xe I3 (stat fr3) st3 stop) fun r s4 ⟨hr,I4⟩=>?_)
  subst hr;exact wpAny_execs_nil ⟨σ3,H3,I4,qn⟩
 ·refine wpAny_passesOwn hp (thn (T.item X rfl rfl rfl hc i pins s3 σ3 H3 X.xe I3 (stat fr3) st3 go) fun r s4 ⟨u,hr,h4⟩=>?_)
  subst hr;refine wpAny_passesOwn hp (thn h4 fun _ s5 ⟨x,H5,I5,r5,y5,st5,fr5⟩=>?_);have I5':=I5.pinned (stat fr5) (T.obj _ _ st5);refine wpAny_passesOwn hp (thn (hg _ s5 σ3 H5 x u _ I5' r5 (step x H5 y5)) fun _ s6 ⟨σ6,H6,I6,q6⟩=>?_);refine wpAny_passesOwn hp (thn (hb _ s6 σ6 H6 _ I6 q6) fun f s7 q7=>?_)
  have again:∀ {σ7:St} {H7:Hp},Inv X (pins++pinsAt fp s5.heap) σ7 H7 s7->N σ7 H7->∃m,m<n/\∃i σ' H',Inv X pins σ' H' s7/\tn i s7.heap/\(∀b∈fp,H' b=none)/\W i m σ' H':=fun {σ7 H7} I7 n7=>by
   obtain⟨m',hm,w7⟩:=hN σ7 H7 n7;refine⟨m',hm,i+1,σ7,H7,I7.unpinned,T.keep _ _ _ st5 fun b hb o e=>(I7.pin (b,o) (List.mem_append_right _ (List.mem_append_right _ (mem_pinsAt hb e)))).1,fun b hb=>?_,w7⟩;obtain⟨o,e,d⟩:=T.obj _ _ st5 b hb;exact(I7.pin (b,o) (List.mem_append_right _ (List.mem_append_right _ (mem_pinsAt hb e)))).2.1
  cases f with
  | next=>obtain⟨σ7,H7,I7,n7⟩:=q7;exact again I7 n7
  | cont=>obtain⟨σ7,H7,I7,n7⟩:=q7;exact again I7 n7
  | brk=>obtain⟨σ7,H7,I7,q7⟩:=q7;exact⟨σ7,H7,I7.unpinned,q7⟩
  | ret v=>obtain⟨x7,σ7,H7,I7,r7,q7⟩:=q7;exact⟨x7,σ7,H7,I7.unpinned,r7,q7⟩
end
theorem for_list{K:PySem.W.Frag}{a:Addr}{xs:List V}{g:TG}{tb:TS}{D:Ends}{σ:St}{H:Hp}(Pv:Nat->St->Hp->Prop)(h0:Pv 0 σ H)(hl:∀i σ H,i<=xs.length->Pv i σ H->SqL K H a xs)
  (hs:∀i x σ H,xs[i]? = some x->Pv i σ H->g x σ H fun σ2 H2=>tb { D with nx:=Pv (i+1),ct:=Pv (i+1),bk:=D.nx } σ2 H2) (hd:∀σ H,Pv xs.length σ H->D.nx σ H) :
  ∃W:Nat->Nat->St->Hp->Prop,(∃m,W 0 m σ H)/\∀i m σ H,W i m σ H ->
   ((Itl K a).stop i H/\D.nx σ H)\/((Itl K a).go i H/\∃N:St->Hp->Prop,(∀σ' H',N σ' H'->∃m',m'<m/\W (i+1) m' σ' H')/\∀x H',(Itl K a).yld i H x H'->g x σ H' fun σ2 H2=>tb { D with nx:=N,ct:=N,bk:=D.nx } σ2 H2):=by
 refine⟨fun i m σ H=>m=xs.length - i/\i<=xs.length/\Pv i σ H,⟨xs.length,by simp,Nat.zero_le _,h0⟩,?_⟩;rintro i m σ H ⟨rfl,hi,p⟩;have q:=hl i σ H hi p;by_cases hlt:i<xs.length
 ·refine .inr ⟨⟨xs,xs[i],q,by simp[hlt]⟩,Pv (i+1),fun σ' H' p'=>⟨xs.length - (i+1),by omega,rfl,hlt,p'⟩,fun x H' y=>?_⟩
  obtain⟨e,y⟩:=y;subst e;exact hs i x σ _ (y xs q) p
 ·have e:i=xs.length:=by omega
  subst e;exact .inl ⟨⟨xs,q,Nat.le_refl _⟩,hd σ H p⟩
theorem for_range{lo:Int}{n:Nat}{g:TG}{tb:TS}{D:Ends}{σ:St}{H:Hp}(Pv:Nat->St->Hp->Prop)(h0:Pv 0 σ H)
  (hs:∀i σ H,i<n->Pv i σ H->g (.int (lo+i)) σ H fun σ2 H2=>tb { D with nx:=Pv (i+1),ct:=Pv (i+1),bk:=D.nx } σ2 H2) (hd:∀σ H,Pv n σ H->D.nx σ H) :
  ∃W:Nat->Nat->St->Hp->Prop,(∃m,W 0 m σ H)/\∀i m σ H,W i m σ H ->
   ((Itr lo n).stop i H/\D.nx σ H)\/((Itr lo n).go i H/\∃N:St->Hp->Prop,(∀σ' H',N σ' H'->∃m',m'<m/\W (i+1) m' σ' H')/\∀x H',(Itr lo n).yld i H x H'->g x σ H' fun σ2 H2=>tb { D with nx:=N,ct:=N,bk:=D.nx } σ2 H2):=by
 refine⟨fun i m σ H=>m=n - i/\i<=n/\Pv i σ H,⟨n,by simp,Nat.zero_le _,h0⟩,?_⟩;rintro i m σ H ⟨rfl,hi,p⟩;by_cases hlt:i<n
 ·refine .inr ⟨hlt,Pv (i+1),fun σ' H' p'=>⟨n - (i+1),by omega,rfl,hlt,p'⟩,fun x H' y=>?_⟩
  obtain⟨e,y⟩:=y;subst e y;exact hs i σ _ hlt p
 ·have e:i=n:=by omega
  subst e;exact .inl ⟨Nat.le_refl _,hd σ H p⟩
end L2
namespace L2
open PySem PySem.Spec PyProof.Rows
abbrev R2:=V->V->Hp->VK->Prop
def OpR(X:Cx)(f:Value->Value->Sem Value)(r:R2):Prop:=
 ∀(pins:List (Addr×Obj)) (s:Shared) (σ:St) (H:Hp) (x y:V) (v u:Value) (Q:VK),Inv X pins σ H s->RelV x v->RelV y u->r x y H Q ->
  wpAny (model X.prog X.w) X.A (f v u) (EP X pins σ Q) X.xe s
def UnR(X:Cx)(f:Value->Sem Value)(r:V->Hp->VK->Prop):Prop:=
 ∀(pins:List (Addr×Obj)) (s:Shared) (σ:St) (H:Hp) (x:V) (v:Value) (Q:VK),Inv X pins σ H s->RelV x v->r x H Q ->
  wpAny (model X.prog X.w) X.A (f v) (EP X pins σ Q) X.xe s
def CallR(X:Cx)(f:Value)(r:List V->Hp->VK->Prop):Prop:=
 ∀(pins:List (Addr×Obj)) (s:Shared) (σ:St) (H:Hp) (xs:List V) (us:List Value) (Q:VK),Inv X pins σ H s->Vals xs us->r xs H Q ->
  wpAny (model X.prog X.w) X.A (call f us) (EP X pins σ Q) X.xe s
def tOp(r:R2)(ta tb:TE):TE:=fun σ H Q=>ta σ H fun x H1=>tb σ H1 fun y H2=>r x y H2 Q
def tUn(r:V->Hp->VK->Prop)(ta:TE):TE:=fun σ H Q=>ta σ H fun x H1=>r x H1 Q
def rI(C:Int->Int->Prop)(g:Int->Int->V):R2:=fun x y H Q=>∃i j,x=.int i/\y=.int j/\C i j/\Q (g i j) H
def rI0(g:Int->Int->V):R2:=fun x y H Q=>∃i j,x=.int i/\y=.int j/\Q (g i j) H
def rU(g:Int->V):V->Hp->VK->Prop:=fun x H Q=>∃i,x=.int i/\Q (g i) H
section
variable {X:Cx}{a b c:Expr}{ta tb tc:TE}{pos:Pos}
theorem binT(ha:PE X a ta)(hb:PE X b tb){pins:List (Addr×Obj)}{s:Shared}{σ:St}{H:Hp}{R:V->V->Hp->Prop}(I:Inv X pins σ H s)
  (h:ta σ H fun x H1=>tb σ H1 fun y H2=>R x y H2) {Q:Value->Shared->Prop} {f:Value->Value->Sem Value}
  (hf:∀v u s2 x y H2,Inv X pins σ H2 s2->RelV x v->RelV y u->R x y H2->wpAny (model X.prog X.w) X.A (f v u) Q X.xe s2) :
  wpAny (model X.prog X.w) X.A (eval a X.env) (fun v s₁=>wpAny (model X.prog X.w) X.A (eval b X.env) (fun u s₂=>wpAny (model X.prog X.w) X.A (f v u) Q X.xe s₂) X.xe s₁) X.xe s:=by
 refine thn (ha pins s σ H _ I h) fun v s1 ⟨x,H1,I1,r1,q1⟩=>?_
 refine thn (hb pins s1 σ H1 _ I1 q1) fun u s2 ⟨y,H2,I2,r2,q2⟩=>?_
 exact hf v u s2 x y H2 I2 r1 r2 q2
theorem pe_op{op:Operator}{r:R2}(ho:OpR X (binaryOp op) r)(ha:PE X a ta)(hb:PE X b tb):PE X (.BinOp a op b pos) (tOp r ta tb):=by
 intro pins s σ H Q I h;exact wpAny_BinOp (binT ha hb I h fun v u s2 x y H2 I2 rx ry q=>ho pins s2 σ H2 x y v u Q I2 rx ry q)
theorem pe_un{op:UnaryOp}{r:V->Hp->VK->Prop}(ho:UnR X (unaryOp op) r)(ha:PE X a ta):PE X (.UnaryOp op a pos) (tUn r ta):=by
 intro pins s σ H Q I h;exact UnaryOp_ (thn (ha pins s σ H _ I h) fun v s1 ⟨x,H1,I1,r1,q1⟩=>ho pins s1 σ H1 x v Q I1 r1 q1)
theorem opI{f:Value->Value->Sem Value}{C:Int->Int->Prop}{g:Int->Int->Int}
  (rule:∀(i j:Int) (t u:Tok) (s:Shared) (Q:Value->Shared->Prop) (E:Value->Shared->Prop),C i j->Q (.int (g i j) s.toks) { s with toks:=s.toks+1 }->wpAny (model X.prog X.w) X.A (f (.int i t) (.int j u)) Q E s) :
  OpR X f (rI C fun i j=>.int (g i j)):=by
 intro pins s σ H x y v u Q I rx ry h;obtain⟨i,j,rfl,rfl,hc,q⟩:=h;obtain⟨t,rfl⟩:=rx;obtain⟨t',rfl⟩:=ry;exact rule i j t t' s _ _ hc ⟨.int (g i j),H,I.tok _,⟨_,rfl⟩,q⟩
theorem opI0{f:Value->Value->Sem Value}{g:Int->Int->Int}
  (rule:∀(i j:Int) (t u:Tok) (s:Shared) (Q:Value->Shared->Prop) (E:Value->Shared->Prop),Q (.int (g i j) s.toks) { s with toks:=s.toks+1 }->wpAny (model X.prog X.w) X.A (f (.int i t) (.int j u)) Q E s) :
  OpR X f (rI0 fun i j=>.int (g i j)):=by
 intro pins s σ H x y v u Q I rx ry h;obtain⟨i,j,rfl,rfl,q⟩:=h;obtain⟨t,rfl⟩:=rx;obtain⟨t',rfl⟩:=ry;exact rule i j t t' s _ _ ⟨.int (g i j),H,I.tok _,⟨_,rfl⟩,q⟩
theorem opB0{f:Value->Value->Sem Value}{g:Int->Int->Bool}
  (rule:∀(i j:Int) (t u:Tok) (s:Shared) (Q:Value->Shared->Prop) (E:Value->Shared->Prop),Q (.bool (g i j)) s->wpAny (model X.prog X.w) X.A (f (.int i t) (.int j u)) Q E s) :
  OpR X f (rI0 fun i j=>.bl (g i j)):=by
 intro pins s σ H x y v u Q I rx ry h;obtain⟨i,j,rfl,rfl,q⟩:=h;obtain⟨t,rfl⟩:=rx;obtain⟨t',rfl⟩:=ry;exact rule i j t t' s _ _ ⟨.bl (g i j),H,I,rfl,q⟩
def CMul(i j:Int):Prop:=(-(2 ^ 64)<i/\i<2 ^ 64)\/(-(2 ^ 64)<j/\j<2 ^ 64)
theorem CMul.ok{i j:Int}(h:CMul i j):IntMulOk i j:=by
 rcases h with ⟨h1,h2⟩ | ⟨h1,h2⟩
 ·exact .of_left (intBits_le_64 h1 h2)
 ·exact .of_right (intBits_le_64 h1 h2)
theorem op_add:OpR X (binaryOp .Add) (rI0 fun i j=>.int (i+j)):=opI0 fun _ _ _ _ _ _ _ q=>add_int q
theorem op_sub:OpR X (binaryOp .Sub) (rI0 fun i j=>.int (i - j)):=opI0 fun _ _ _ _ _ _ _ q=>sub_int q
theorem op_mul:OpR X (binaryOp .Mult) (rI CMul fun i j=>.int (i * j)):=opI fun _ _ _ _ _ _ _ hc q=>mul_int q hc.ok
theorem op_mod:OpR X (binaryOp .Mod) (rI (fun _ j=>0<j) fun i j=>.int (i % j)):=opI fun i j _ _ _ _ _ hc q=>by
 have h1:(0:Int)<j:=hc;exact mod_int' (by omega) (by rw[Int.fmod_eq_emod_of_nonneg i (by omega)];exact q)
theorem unI{f:Value->Sem Value}{g:Int->Int}
  (rule:∀(i:Int) (t:Tok) (s:Shared) (Q:Value->Shared->Prop) (E:Value->Shared->Prop),Q (.int (g i) s.toks) { s with toks:=s.toks+1 }->wpAny (model X.prog X.w) X.A (f (.int i t)) Q E s) :
  UnR X f (rU fun i=>.int (g i)):=by
 intro pins s σ H x v Q I rx h;obtain⟨i,rfl,q⟩:=h;obtain⟨t,rfl⟩:=rx;exact rule i t s _ _ ⟨.int (g i),H,I.tok _,⟨_,rfl⟩,q⟩
theorem un_neg:UnR X (unaryOp .USub) (rU fun i=>.int (-i)):=unI fun _ _ _ _ _ q=>neg_int q
end
def scal:V->V->Bool
 | .non,.non=>true | .non,.int _=>true | .int _,.non=>true | .non,.bl _=>true | .bl _,.non=>true | .non,.str _=>true | .str _,.non=>true
 | .int _,.int _=>true | .bl _,.bl _=>true | .str _,.str _=>true | .byt _,.byt _=>true
 | .int _,.str _=>true | .str _,.int _=>true | .bl _,.str _=>true | .str _,.bl _=>true
 | _,_=>false
def rEq:R2:=fun x y H Q=>scal x y=true/\Q (.bl (decide (x=y))) H
def rNe:R2:=fun x y H Q=>scal x y=true/\Q (.bl (!decide (x=y))) H
theorem dec_int{i j:Int}:decide (V.int i=V.int j)=(i == j):=by
 rw[Bool.eq_iff_iff];simp
theorem dec_bl{i j:Bool}:decide (V.bl i=V.bl j)=(i == j):=by
 rw[Bool.eq_iff_iff];simp
theorem dec_str{i j:Str}:decide (V.str i=V.str j)=(i == j):=by
 rw[Bool.eq_iff_iff];simp
theorem dec_byt{i j:Array UInt8}:decide (V.byt i=V.byt j)=(i.toList == j.toList):=by
 rw[Bool.eq_iff_iff];cases i;cases j;simp
section
variable {X:Cx}{a b c:Expr}{ta tb tc:TE}{pos:Pos}
theorem fin_bl{pins:List (Addr×Obj)}{σ:St}{H:Hp}{s:Shared}{Q:VK}{k k':Bool}(I:Inv X pins σ H s)(q:Q (.bl k) H)(e:k=k'):EP X pins σ Q (.bool k') s:=by
 subst e;exact⟨.bl k,H,I,rfl,q⟩
theorem op_eq:OpR X (compareOp .Eq) rEq:=by
 intro pins s σ H x y v u Q I rx ry h;obtain⟨hs,q⟩:=h;cases x with
 | non=>
  cases rx;cases y with
  | non=>cases ry;exact PySem.EqNone.eq_none_none (fin_bl I q (by simp))
  | bl j=>cases ry;exact PySem.EqNone.eq_none_bool (fin_bl I q (by simp))
  | int j=>obtain⟨t',rfl⟩:=ry;exact PySem.EqNone.eq_none_int (fin_bl I q (by simp))
  | str j=>obtain⟨t',rfl⟩:=ry;exact PySem.EqNone.eq_none_str (fin_bl I q (by simp))
  | _=>exact absurd (show false=true from hs) Bool.false_ne_true
 | bl i=>
  cases rx;cases y with
  | non=>cases ry;exact PySem.EqNone.eq_bool_none (fin_bl I q (by simp))
  | bl j=>cases ry;exact eq_bool (fin_bl I q dec_bl)
  | str j=>obtain⟨t',rfl⟩:=ry;exact PySem.EqMixed.eq_bool_str (fin_bl I q (by simp))
  | _=>exact absurd (show false=true from hs) Bool.false_ne_true
 | int i=>
  obtain⟨t,rfl⟩:=rx;cases y with
  | non=>cases ry;exact PySem.EqNone.eq_int_none (fin_bl I q (by simp))
  | int j=>obtain⟨t',rfl⟩:=ry;exact eq_int (fin_bl I q dec_int)
  | str j=>obtain⟨t',rfl⟩:=ry;exact PySem.EqMixed.eq_int_str (fin_bl I q (by simp))
  | _=>exact absurd (show false=true from hs) Bool.false_ne_true
 | str i=>
  obtain⟨t,rfl⟩:=rx;cases y with
  | non=>cases ry;exact PySem.EqNone.eq_str_none (fin_bl I q (by simp))
  | bl j=>cases ry;exact PySem.EqMixed.eq_str_bool (fin_bl I q (by simp))
  | int j=>obtain⟨t',rfl⟩:=ry;exact PySem.EqMixed.eq_str_int (fin_bl I q (by simp))
  | str j=>obtain⟨t',rfl⟩:=ry;exact eq_str (fin_bl I q dec_str)
  | _=>exact absurd (show false=true from hs) Bool.false_ne_true
 | byt i=>
  obtain⟨t,rfl⟩:=rx;cases y with
  | byt j=>obtain⟨t',rfl⟩:=ry;exact PySem.W.eq_bytes (fin_bl I q dec_byt)
  | _=>exact absurd (show false=true from hs) Bool.false_ne_true
 | _=>cases y <;> exact absurd (show false=true from hs) Bool.false_ne_true
theorem op_ne:OpR X (compareOp .NotEq) rNe:=by
 intro pins s σ H x y v u Q I rx ry h;obtain⟨hs,q⟩:=h;cases x with
 | non=>
  cases rx;cases y with
  | non=>cases ry;exact PySem.EqNone.ne_none_none (fin_bl I q (by simp))
  | bl j=>cases ry;exact PySem.EqNone.ne_none_bool (fin_bl I q (by simp))
  | int j=>obtain⟨t',rfl⟩:=ry;exact PySem.EqNone.ne_none_int (fin_bl I q (by simp))
  | str j=>obtain⟨t',rfl⟩:=ry;exact PySem.EqNone.ne_none_str (fin_bl I q (by simp))
  | _=>exact absurd (show false=true from hs) Bool.false_ne_true
 | bl i=>
  cases rx;cases y with
  | non=>cases ry;exact PySem.EqNone.ne_bool_none (fin_bl I q (by simp))
  | bl j=>cases ry;exact ne_bool (fin_bl I q (congrArg not dec_bl))
  | str j=>obtain⟨t',rfl⟩:=ry;exact PySem.EqMixed.ne_bool_str (fin_bl I q (by simp))
  | _=>exact absurd (show false=true from hs) Bool.false_ne_true
 | int i=>
  obtain⟨t,rfl⟩:=rx;cases y with
  | non=>cases ry;exact PySem.EqNone.ne_int_none (fin_bl I q (by simp))
  | int j=>obtain⟨t',rfl⟩:=ry;exact ne_int (fin_bl I q (congrArg not dec_int))
  | str j=>obtain⟨t',rfl⟩:=ry;exact PySem.EqMixed.ne_int_str (fin_bl I q (by simp))
  | _=>exact absurd (show false=true from hs) Bool.false_ne_true
 | str i=>
  obtain⟨t,rfl⟩:=rx;cases y with
  | non=>cases ry;exact PySem.EqNone.ne_str_none (fin_bl I q (by simp))
  | bl j=>cases ry;exact PySem.EqMixed.ne_str_bool (fin_bl I q (by simp))
  | int j=>obtain⟨t',rfl⟩:=ry;exact PySem.EqMixed.ne_str_int (fin_bl I q (by simp))
  | str j=>obtain⟨t',rfl⟩:=ry;exact ne_str (fin_bl I q (congrArg not dec_str))
  | _=>exact absurd (show false=true from hs) Bool.false_ne_true
 | byt i=>
  obtain⟨t,rfl⟩:=rx;cases y with
  | byt j=>obtain⟨t',rfl⟩:=ry;exact PySem.W.ne_bytes (fin_bl I q (congrArg not dec_byt))
  | _=>exact absurd (show false=true from hs) Bool.false_ne_true
 | _=>cases y <;> exact absurd (show false=true from hs) Bool.false_ne_true
theorem op_lt:OpR X (compareOp .Lt) (rI0 fun i j=>.bl (decide (i<j))):=opB0 fun _ _ _ _ _ _ _ q=>lt_int q
theorem op_le:OpR X (compareOp .LtE) (rI0 fun i j=>.bl (decide (i<=j))):=opB0 fun _ _ _ _ _ _ _ q=>le_int q
theorem op_gt:OpR X (compareOp .Gt) (rI0 fun i j=>.bl (decide (j<i))):=opB0 fun _ _ _ _ _ _ _ q=>gt_int q
theorem op_ge:OpR X (compareOp .GtE) (rI0 fun i j=>.bl (decide (j<=i))):=opB0 fun _ _ _ _ _ _ _ q=>ge_int q
theorem op_in_str:OpR X (compareOp .In) (fun x y H Q=>∃i j,x=.str i/\y=.str j/\Q (.bl (!(Builtin.Str.occurrences j i 0 j.length 1).isEmpty)) H):=by
 intro pins s σ H x y v u Q I rx ry h;obtain⟨i,j,rfl,rfl,q⟩:=h;obtain⟨t,rfl⟩:=rx;obtain⟨t',rfl⟩:=ry;exact in_str (fin_bl I q rfl)
theorem op_isN:OpR X (compareOp .Is) (fun x y H Q=>y=.non/\Q (.bl (decide (x=.non))) H):=by
 intro pins s σ H x y v u Q I rx ry h;obtain⟨rfl,q⟩:=h;cases ry;refine is_none_gen (fin_bl I q ?_)
 cases x <;> first
  | (cases rx;rfl)
  | (obtain⟨t,rfl⟩:=rx;rfl)
theorem op_notN:OpR X (compareOp .IsNot) (fun x y H Q=>y=.non/\Q (.bl (!decide (x=.non))) H):=by
 intro pins s σ H x y v u Q I rx ry h;obtain⟨rfl,q⟩:=h;cases ry;refine isnot_none_gen (fin_bl I q ?_)
 cases x <;> first
  | (cases rx;rfl)
  | (obtain⟨t,rfl⟩:=rx;rfl)
theorem OpR.or{f:Value->Value->Sem Value}{r r':R2}(h:OpR X f r)(h':OpR X f r'):OpR X f (fun x y H Q=>r x y H Q\/r' x y H Q):=by
 intro pins s σ H x y v u Q I rx ry q;rcases q with q | q
 ·exact h pins s σ H x y v u Q I rx ry q
 ·exact h' pins s σ H x y v u Q I rx ry q
theorem nomark(b:Expr){op:CmpOp}(h:op≠.In:=by decide)(h2:op≠.NotIn:=by decide):behindInMarks op b=false:=by
 have e1:(op == CmpOp.In)=false:=by cases op <;> first | rfl | exact absurd rfl h
 have e2:(op == CmpOp.NotIn)=false:=by cases op <;> first | rfl | exact absurd rfl h2
 cases b <;> simp[behindInMarks,e1,e2]
theorem pe_cmpR{op:CmpOp}{r:R2}(ho:OpR X (compareOp op) r)(ha:PE X a ta)(hb:PE X b tb)(hm:behindInMarks op b=false):PE X (.Compare a [op] [b] pos) (tOp r ta tb):=by
 intro pins s σ H Q I h;exact wpAny_Compare1 (binT ha hb I h fun v u s2 x y H2 I2 rx ry q=>ho pins s2 σ H2 x y v u Q I2 rx ry q) hm
def tTest(t:TE):TT:=fun σ H Q=>t σ H fun x H'=>∃k,x=.bl k/\Q k H'
theorem pt_cmpR{op:CmpOp}{r:R2}(ho:OpR X (compareOp op) r)(ha:PE X a ta)(hb:PE X b tb)(hm:behindInMarks op b=false):PT X (.Compare a [op] [b] pos) (tTest (tOp r ta tb)):=by
 intro pins s σ H Q I h
 refine wpAny_isTrue_Compare1 (thn (ha pins s σ H _ I h) fun v s1 ⟨x,H1,I1,r1,q1⟩=>thn (hb pins s1 σ H1 _ I1 q1) fun u s2 ⟨y,H2,I2,r2,q2⟩=>
  thn (ho pins s2 σ H2 x y v u _ I2 r1 r2 q2) fun c s3 ⟨z,H3,I3,r3,k,e,q3⟩=>?_) hm
 subst e;cases r3;exact wpAny_truthy_bool ⟨H3,I3,q3⟩
def tChain(r r':R2)(ta tb tc:TE):TE:=fun σ H Q=>ta σ H fun x H1=>tb σ H1 fun y H2=>r x y H2 fun z H3=>∃k,z=.bl k /\
 (if k=true then tc σ H3 fun w' H4=>r' y w' H4 Q else Q (.bl false) H3)
theorem pe_chain{op op':CmpOp}{r r':R2}(ho:OpR X (compareOp op) r)(ho':OpR X (compareOp op') r')(ha:PE X a ta)(hb:PE X b tb)(hc:PE X c tc)
  (hm:lastMarks [op,op'] [b,c]=false:=by with_unfolding_all rfl):PE X (.Compare a [op,op'] [b,c] pos) (tChain r r' ta tb tc):=by
 intro pins s σ H Q I h
 refine Compare_chain (thn (ha pins s σ H _ I h) fun v s1 ⟨x,H1,I1,r1,q1⟩=>chain_link (thn (hb pins s1 σ H1 _ I1 q1) fun u s2 ⟨y,H2,I2,r2,q2⟩=>
  thn (ho pins s2 σ H2 x y v u _ I2 r1 r2 q2) fun d s3 ⟨z,H3,I3,r3,k,e,q3⟩=>?_)) hm
 subst e;cases r3;refine wpAny_truthy_bool ?_;cases k with
 | false=>exact ite_ff ⟨.bl false,H3,I3,rfl,q3⟩
 | true=>exact ite_tt (chain_last (thn (hc pins s3 σ H3 _ I3 q3) fun w' s4 ⟨z',H4,I4,r4,q4⟩=>ho' pins s4 σ H4 y z' u w' Q I4 r2 r4 q4))
theorem pt_chain{op op':CmpOp}{r r':R2}(ho:OpR X (compareOp op) r)(ho':OpR X (compareOp op') r')(ha:PE X a ta)(hb:PE X b tb)(hc:PE X c tc)
  (hm:lastMarks [op,op'] [b,c]=false:=by with_unfolding_all rfl):PT X (.Compare a [op,op'] [b,c] pos) (tTest (tChain r r' ta tb tc)):=by
 intro pins s σ H Q I h
 refine isTrue_chain (thn (ha pins s σ H _ I h) fun v s1 ⟨x,H1,I1,r1,q1⟩=>test_link (thn (hb pins s1 σ H1 _ I1 q1) fun u s2 ⟨y,H2,I2,r2,q2⟩=>
  thn (ho pins s2 σ H2 x y v u _ I2 r1 r2 q2) fun d s3 ⟨z,H3,I3,r3,k,e,q3⟩=>?_)) hm
 subst e;cases r3;refine wpAny_truthy_bool ?_;cases k with
 | false=>
  obtain⟨k',e',q'⟩:=q3;cases e';exact ite_ff ⟨H3,I3,q'⟩
 | true=>
  refine ite_tt (test_last (thn (hc pins s3 σ H3 _ I3 q3) fun w' s4 ⟨z',H4,I4,r4,q4⟩=>thn (ho' pins s4 σ H4 y z' u w' _ I4 r2 r4 q4) fun d' s5 ⟨z2,H5,I5,r5,k2,e2,q5⟩=>?_));subst e2;cases r5;exact wpAny_truthy_bool ⟨H5,I5,q5⟩
theorem line63:(sizeLine:Nat)<2 ^ 63:=by rw[sizeLine_eq];decide
theorem op_add_str:OpR X (binaryOp .Add) (fun x y H Q=>∃i j,x=.str i/\y=.str j/\i.length+j.length<=sizeLine/\Q (.str (i++j)) H):=by
 intro pins s σ H x y v u Q I rx ry h;obtain⟨i,j,rfl,rfl,hz,q⟩:=h;obtain⟨t,rfl⟩:=rx;obtain⟨t',rfl⟩:=ry;exact add_str (fun t' tk=>⟨.str (i++j),H,I.tok _,⟨_,rfl⟩,q⟩) hz
theorem vals1{x:V}{us:List Value}(r:Vals [x] us):∃u,us=[u]/\RelV x u:=by
 cases r with
 | cons r1 r2=>cases r2;exact⟨_,rfl,r1⟩
theorem vals2{x y:V}{us:List Value}(r:Vals [x,y] us):∃u w',us=[u,w']/\RelV x u/\RelV y w':=by
 cases r with
 | cons r1 r2=>
  cases r2 with
  | cons r3 r4=>cases r4;exact⟨_,_,rfl,r1,r3⟩
theorem call_abs:CallR X (.builtin "abs") (fun xs H Q=>∃i,xs=[.int i]/\Q (.int (if i<0 then -i else i)) H):=by
 intro pins s σ H xs us Q I r h;obtain⟨i,rfl,q⟩:=h;obtain⟨u,rfl,t,rfl⟩:=vals1 r;exact call_abs_int fun u tk=>⟨.int (if i<0 then -i else i),H,I.tok _,⟨_,rfl⟩,q⟩
theorem call_min2(hc:X.calm=true):CallR X (.builtin "min") (fun xs H Q=>∃i j,xs=[.int i,.int j]/\Q (.int (if j<i then j else i)) H):=by
 intro pins s σ H xs us Q I r h;obtain⟨i,j,rfl,q⟩:=h;obtain⟨u,w',rfl,⟨t,rfl⟩,⟨t',rfl⟩⟩:=vals2 r;refine min_two_ints (I.ok.hd hc) fun h' tk k=>⟨_,H,I.kept k,?_,q⟩
 by_cases hj:j<i
 ·rw[if_pos hj,if_pos hj];exact⟨_,rfl⟩
 ·rw[if_neg hj,if_neg hj];exact⟨_,rfl⟩
end
end L2
namespace L2
open PySem PySem.Spec PyProof.Rows
structure ObjM(h:Heap)(x dx C:Addr)(mA:Str->Option Value):Prop where
 obj:h.get? x=some (PySem.W.instObj C dx)
 ns:h.Ns1 dx mA
 ne:dx≠x
theorem lookIn_ns{h:Heap}{dx:Addr}{mA:Str->Option Value}(n:h.Ns1 dx mA):∃od,h.get? dx=some od/\∀name,PySem.W.lookIn name od=some (mA name):=by
 obtain⟨o,es,ep,ho,hd,hk,_,hm⟩:=n;refine⟨o,ho,fun name=>?_⟩;have e:=hm name;unfold nsFind findBy at e;rw[<-Array.find?_toList]at e;unfold PySem.W.lookIn;rw[hd];dsimp only;split
 ·rename_i y q
  rw[q]at e;exact congrArg some e
 ·rename_i q
  rw[q]at e
  have a:es.toList.any (·.refKey)=false:=by
   rw[List.any_eq_false];intro y hy;obtain⟨z,t,hkey⟩:=hk y (Array.mem_toList_iff.mp hy);simp[DictEntry.refKey,hkey]
  have a':¬es.toList.any (·.refKey)=true:=by rw[a];exact Bool.false_ne_true
  rw[if_neg a'];exact congrArg some e
theorem ObjM.look{h:Heap}{x dx C:Addr}{mA:Str->Option Value}(I:ObjM h x dx C mA):∃od,PySem.W.InstAt h x (PySem.W.instObj C dx) C (some od)/\∀name,PySem.W.lookIn name od=some (mA name):=
 let⟨od,ho,hl⟩:=lookIn_ns I.ns
 ⟨od,⟨I.obj,rfl,rfl,ho⟩,hl⟩
section
variable {prog:Program}{w:World}{A:Around}{E:Value->Shared->Prop}{s:Shared}{K:PySem.W.Frag}{x dx C f:Addr}{mA:Str->Option Value}{name:Str}{v:Value}
theorem get_map{expr:Bool}{Q:Value->Shared->Prop}(X:K.In s.heap)(I:ObjM s.heap x dx C mA)(hg:PySem.W.plainGet K C name=true)(hh:PySem.W.hasDictIn K C=true)
  (ha:PySem.W.findIn K (.ref C) name=some none) (hv:mA name=some v) (hv':PySem.W.handedIn v=true) (h:Q v { s with toks:=s.toks+1 }) :
  wpAny (model prog w) A (getAttr (.ref x) name expr) Q E s:=by
 obtain⟨od,J,hl⟩:=I.look;exact PySem.W.get_value X J (PySem.W.plainGet_of hg).1 (PySem.W.findObj_own hh ha rfl (by rw[hl,hv])) hv' h
theorem get_meth{pl:Sem Bool}{Q:Value×List Value->Shared->Prop}(X:K.In s.heap)(I:ObjM s.heap x dx C mA)(hg:PySem.W.plainGet K C name=true)
  (hf:PySem.W.findIn K (.ref C) name=some (some (.ref f))) (ht:PySem.W.isFn K (.ref f)=true) (hv:mA name=none) (h:Q (.ref f,[.ref x]) s) :
  wpAny (model prog w) A (getMethod (.ref x) name pl) Q E s:=by
 obtain⟨od,J,hl⟩:=I.look;exact PySem.W.method_fn X J (PySem.W.plainGet_of hg).1 (PySem.W.plainGet_of hg).2 hf (beq_iff_eq.mp ht) (by show(PySem.W.lookIn name od).map (·.isSome)=some false;rw[hl,hv];rfl) h
theorem set_map{ns:List Str}{Q:Unit->Shared->Prop}(X:K.In s.heap)(I:ObjM s.heap x dx C mA)
  (hs:PySem.W.findIn K (.ref C) "__setattr__" = some (some (.builtin "object.__setattr__"))) (hp:PySem.W.plainOver K C=true) (ht:PySem.W.takerIn K C name=some none) (hh:PySem.W.hasDictIn K C=true)
  (hw:PySem.Within mA ns) (hsz:ns.length<=sizeLine)
  (h:∀h',ObjM h' x dx C (fun y=>if y=name then some v else mA y)->Heap.SameBut dx s.heap h'->Q () { s with heap:=h',toks:=s.toks+2 }) :
  wpAny (model prog w) A (setAttr (.ref x) name v) Q E s:=by
 obtain⟨od,J,hl⟩:=I.look;refine PySem.W.set_plain X J hs (PySem.W.osa_open (s:={ s with toks:=s.toks+1 }) (r:=none) X J hp ht fun b=>?_);obtain⟨cd,hc,hd'⟩:=PySem.W.any_some hh;have hx:s.heap.get? x=some ⟨.ref C,some dx,.plain,#[]⟩:=I.obj;refine wpAny_bind (wpAny_pure (wpAny_bind (wpAny_bind (wpAny_loadPart hx (wpAny_bind (PySem.W.Looks.here (s:={ s with toks:=s.toks+1 }) (PySem.W.looks_clsIn X hc) ?_))))));rw[hd'];refine wpAny_pure (a:=some dx) (wpAny_bind (wpAny_pure (wpAny_bind ?_)));refine wpAny_nsSet1 (s:={ s with toks:=s.toks+1 }) I.ns fun h' hn2 hs2=>?_
 obtain⟨oD,esD,epD,hoD,hdD,hcD⟩:=hn2.count (PySem.Within.cons name v hw);refine wpAny_bind (wpAny_lookBehind hoD (by rw[hdD];exact pastItsLine_dict (Nat.le_trans hcD (by rw[List.length_cons];omega))) ?_);exact wpAny_pure (h _ ⟨(hs2.2 _ (Ne.symm I.ne)).trans I.obj,hn2,I.ne⟩ hs2)
theorem make_map{R:Result->Shared->Prop}{vs:List Value}{kw:List (Str×Value)}(X:K.In s.heap)(hm:PySem.W.makesIn K C=true)
  (hi:PySem.W.findIn K (.ref C) "__init__" = some (some (.ref f))) (hf:PySem.W.typeIn K (.ref f)=some (.type "function"))
  (h:codeAny (model prog w) (A.under (.builtin "type.__call__" ⟨.ref C::vs,kw⟩)) (.call (.ref f) ⟨.ref (s.heap.objs.size+1)::vs,kw⟩) (PySem.W.InitBack (s.heap.objs.size+1) R)
   { s with heap:=(s.heap.push PySem.W.emptyDict).push (PySem.W.instObj C s.heap.objs.size) }) :
  codeAny (model prog w) A (.call (.ref C) ⟨vs,kw⟩) R s:=by
 obtain⟨hh,g,d,t,os⟩:=s;exact PySem.W.make_core (PySem.W.makes_of X hm) (PySem.W.looks_findIn X hi) (fun self=>PySem.W.bind_fn X self hf) (.inl rfl) h
end
def putF(f:Str)(v:V):List (Str×V)->List (Str×V)
 | []=>[(f,v)]
 | (g,x)::r=>if g=f then (g,v)::r else (g,x)::putF f v r
theorem lookup_putF(f g:Str)(v:V):∀fs:List (Str×V),(putF f v fs).lookup g=if g=f then some v else fs.lookup g
 | []=>by
  show List.lookup g [(f,v)]=_;by_cases h:g=f
  ·have hb:(g == f)=true:=beq_iff_eq.mpr h
   simp only[List.lookup,hb,if_pos h]
  ·have hb:(g == f)=false:=beq_eq_false_iff_ne.mpr h
   simp only[List.lookup,hb,if_neg h]
 | (k,x)::r=>by
  have ih:=lookup_putF f g v r;rw[show putF f v ((k,x)::r)=(if k=f then (k,v)::r else (k,x)::putF f v r)from rfl];by_cases hk:k=f
  ·rw[if_pos hk]
   by_cases h:g=k
   ·have hb:(g == k)=true:=beq_iff_eq.mpr h
    simp only[List.lookup,hb,if_pos (h.trans hk)]
   ·have hb:(g == k)=false:=beq_eq_false_iff_ne.mpr h
    simp only[List.lookup,hb,if_neg (fun e:g=f=>h (e.trans hk.symm))]
  ·rw[if_neg hk]
   by_cases h:g=k
   ·have hb:(g == k)=true:=beq_iff_eq.mpr h
    simp only[List.lookup,hb,if_neg (fun e:g=f=>hk (h.symm.trans e))]
   ·have hb:(g == k)=false:=beq_eq_false_iff_ne.mpr h
    simp only[List.lookup,hb];exact ih
theorem keys_putF(f:Str)(v:V):∀fs:List (Str×V),f∈(putF f v fs).map (·.1)/\∀g,g∈fs.map (·.1)->g∈(putF f v fs).map (·.1)
 | []=>⟨by simp[putF],fun g h=>by simp at h⟩
 | (k,x)::r=>by
  obtain⟨i1,i2⟩:=keys_putF f v r;rw[show putF f v ((k,x)::r)=(if k=f then (k,v)::r else (k,x)::putF f v r)from rfl];by_cases hk:k=f
  ·rw[if_pos hk]
   subst hk;exact⟨by simp,fun g h=>by simpa using h⟩
  ·rw[if_neg hk]
   refine⟨?_,fun g h=>?_⟩
   ·rw[List.map_cons]
    exact List.mem_cons_of_mem _ i1
   ·rw[List.map_cons]at h ⊢
    rcases List.mem_cons.mp h with e | e
    ·exact List.mem_cons.mpr (.inl e)
    ·exact List.mem_cons_of_mem _ (i2 g e)
theorem length_putF(f:Str)(v:V):∀fs:List (Str×V),(putF f v fs).length<=fs.length+1
 | []=>by simp[putF]
 | (k,x)::r=>by
  have ih:=length_putF f v r;rw[show putF f v ((k,x)::r)=(if k=f then (k,v)::r else (k,x)::putF f v r)from rfl];by_cases hk:k=f
  ·rw[if_pos hk,List.length_cons,List.length_cons];omega
  ·rw[if_neg hk,List.length_cons,List.length_cons];omega
theorem RelO.some_of{v:V}{o:Option Value}(r:RelO (some v) o):∃u,o=some u/\RelV v u:=by
 cases o with
 | none=>exact(show False from r).elim
 | some u=>exact⟨u,rfl,r⟩
theorem RelO.none_of{o:Option Value}(r:RelO none o):o=none:=by
 cases o with
 | none=>rfl
 | some u=>exact(show False from r).elim
theorem handed_of{v:V}{u:Value}(r:RelV v u):PySem.W.handedIn u=true:=by
 cases v with
 | non=>cases (show u=Value.none from r);rfl
 | bl b=>cases (show u=Value.bool b from r);rfl
 | int i=>obtain⟨t,e⟩:=(show ∃t,u=Value.int i t from r);cases e;rfl
 | str x=>obtain⟨t,e⟩:=(show ∃t,u=Value.str x t from r);cases e;rfl
 | byt b=>obtain⟨t,e⟩:=(show ∃t,u=Value.bytes b t from r);cases e;rfl
 | flt b=>obtain⟨t,e⟩:=(show ∃t,u=Value.float b t from r);cases e;rfl
 | ref a=>cases (show u=Value.ref a from r);rfl
 | ty n=>cases (show u=Value.type n from r);rfl
section
variable {P:Program}{w:World}{H H':Hp}{h h':Heap}{a C dx:Addr}{fs fs':List (Str×V)}
theorem ins_get(hok:HOk P w H h)(e:H a=some (.ins C dx fs)):∃mA,ObjM h a dx C mA/\(∀f,RelO (fs.lookup f) (mA f))/\PySem.Within mA (fs.map (·.1))/\fs.length<=1000/\H dx=some (.own a):=by
 obtain⟨d,z,ne,ob,mA,n,r,q⟩:=(show ObjOk P w H h a (.ins C dx fs)from hok a _ e);exact⟨mA,⟨ob,n,ne⟩,r,q,z,d⟩
end
structure Cls(K:PySem.W.Frag)(C:Addr):Prop where
 pg:PySem.W.plainGet K C Str.empty=true
 hd:PySem.W.hasDictIn K C=true
 po:PySem.W.plainOver K C=true
 sa:PySem.W.findIn K (.ref C) "__setattr__" = some (some (.builtin "object.__setattr__"))
theorem Cls.get{K:PySem.W.Frag}{C:Addr}(c:Cls K C)(f:Str):PySem.W.plainGet K C f=true:=c.pg
def NoAttr(K:PySem.W.Frag)(C:Addr)(f:Str):Prop:=PySem.W.findIn K (.ref C) f=some none
theorem NoAttr.taker{K:PySem.W.Frag}{C:Addr}{f:Str}(n:NoAttr K C f):PySem.W.takerIn K C f=some none:=by
 unfold PySem.W.takerIn;rw[show PySem.W.findIn K (.ref C) f=some none from n];rfl
structure Con(K:PySem.W.Frag)(C:Addr)(f:Str)(v:V)(u:Value):Prop where
 at_:PySem.W.findIn K (.ref C) f=some (some u)
 rel:RelV v u
 get:PySem.W.specialIn K u "__get__" = some none
 cp:PySem.W.copiedNames.contains f=false
structure Meth(K:PySem.W.Frag)(C:Addr)(m:Str)(f:Addr):Prop where
 at_:PySem.W.findIn K (.ref C) m=some (some (.ref f))
 fn:PySem.W.isFn K (.ref f)=true
 kp:PySem.W.keepIn K (.ref f)=true
section
variable {X:Cx}{pins:List (Addr×Obj)}{σ:St}{H:Hp}{s:Shared}{a C dx:Addr}{fs:List (Str×V)}{f:Str}{v:V}{A:Around}{E:Value->Shared->Prop}
theorem getattr_ok{b:Bool}{Q:Value->Shared->Prop}(I:Inv X pins σ H s)(e:H a=some (.ins C dx fs))(c:Cls X.K C)(n:NoAttr X.K C f)(l:fs.lookup f=some v)
  (h:∀u s',Inv X pins σ H s'->RelV v u->Q u s'):wpAny (model X.prog X.w) A (getAttr (.ref a) f b) Q E s:=by
 obtain⟨mA,O,r,_,_,_⟩:=ins_get I.hok e;obtain⟨u,hu,ru⟩:=RelO.some_of (v:=v) (o:=mA f) (by rw[<-l];exact r f);exact get_map I.kIn O (c.get f) c.hd n hu (handed_of ru) (h u _ (I.tok _) ru)
theorem getmeth_ok{m:Str}{g:Addr}{pl:Sem Bool}{Q:Value×List Value->Shared->Prop}(I:Inv X pins σ H s)(e:H a=some (.ins C dx fs))(c:Cls X.K C)(k:Meth X.K C m g)(l:fs.lookup m=none)
  (h:Q (.ref g,[.ref a]) s):wpAny (model X.prog X.w) A (getMethod (.ref a) m pl) Q E s:=by
 obtain⟨mA,O,r,_,_,_⟩:=ins_get I.hok e;have hn:mA m=none:=RelO.none_of (by rw[<-l];exact r m);exact get_meth I.kIn O (c.get m) k.at_ k.fn hn h
theorem setattr_ok{y:V}{u:Value}{Q:Unit->Shared->Prop}(I:Inv X pins σ H s)(e:H a=some (.ins C dx fs))(c:Cls X.K C)(n:NoAttr X.K C f)(hl:fs.length<1000)(ry:RelV y u)
  (h:∀s',Inv X pins σ (upd H a (.ins C dx (putF f y fs))) s'->Q () s'):wpAny (model X.prog X.w) A (setAttr (.ref a) f u) Q E s:=by
 obtain⟨mA,O,r,wi,_,ho⟩:=ins_get I.hok e;have hz:(fs.map (·.1)).length<=sizeLine:=by rw[List.length_map,sizeLine_eq];omega
 refine set_map I.kIn O c.sa c.po n.taker c.hd wi hz fun h' O' sb=>h _ ?_
 have hd:∃o,h'.get? dx=some o:=let⟨o,_,_,e',_⟩:=O'.ns; ⟨o,e'⟩
 refine I.write (x:=a) (e:=dx) (by rw[e];exact True.intro) (.inr ho) (fun b q hb z=>(sb.2 b hb).trans z) hd ?_;refine⟨by rw[upd_ne O.ne];exact ho,?_,O.ne,O'.obj,_,O'.ns,fun g=>?_,fun g hg=>?_⟩
 ·have:=length_putF f y fs;omega
 ·show RelO ((putF f y fs).lookup g) (if g=f then some u else mA g)
  rw[lookup_putF];by_cases q:g=f
  ·rw[if_pos q,if_pos q];exact ry
  ·rw[if_neg q,if_neg q];exact r g
 ·by_cases q:g=f
  ·rw[q];exact(keys_putF f y fs).1
  ·refine(keys_putF f y fs).2 g (wi g fun z=>hg ?_)
   show(if g=f then some u else mA g)=none;rw[if_neg q];exact z
theorem Inv.made(I:Inv X pins σ H s):Inv X pins σ (upd (upd H s.heap.objs.size (.own (s.heap.objs.size+1))) (s.heap.objs.size+1) (.ins C s.heap.objs.size []))
  { s with heap:=(s.heap.push PySem.W.emptyDict).push (PySem.W.instObj C s.heap.objs.size) }:=by
 have e1:(s.heap.push PySem.W.emptyDict).get? s.heap.objs.size=some PySem.W.emptyDict:=Heap.get?_push_size s.heap rfl
 have e2:((s.heap.push PySem.W.emptyDict).push (PySem.W.instObj C s.heap.objs.size)).get? (s.heap.objs.size+1)=some (PySem.W.instObj C s.heap.objs.size):=by
  have:=Heap.get?_push_size (s.heap.push PySem.W.emptyDict) (o:=PySem.W.instObj C s.heap.objs.size) rfl
  rwa [Heap.size_push]at this
 have e3:(s.heap.push PySem.W.emptyDict).Ns s.heap.objs.size (fun _=>none):=⟨PySem.W.emptyDict,#[],_,e1,rfl,(fun e he=>absurd he (by simp)),fun _=>rfl⟩;have I1:=I.laid (a:=s.heap.objs.size) (o:=.own (s.heap.objs.size+1)) (h':=s.heap.push PySem.W.emptyDict) (t':=s.toks) (fun b u q=>Heap.get?_push_of_some _ q) (Nat.le_refl _) ⟨_,e1⟩;refine I1.laid (a:=s.heap.objs.size+1) (o:=.ins C s.heap.objs.size []) (t':=s.toks) (fun b u q=>Heap.get?_push_of_some _ q) (Nat.le_of_eq (Heap.size_push _ _)) ?_;have ne:s.heap.objs.size≠s.heap.objs.size+1:=Nat.ne_of_lt (Nat.lt_succ_self _);refine⟨by rw[upd_ne ne,upd_same],Nat.zero_le _,ne,e2,fun _=>none,(Heap.Ns1.of_empty e3).at fun o q=>Heap.get?_push_of_some _ q,fun _=>True.intro,fun y hy=>absurd rfl hy⟩
theorem attr_of{prog:Program}{w:World}{env:Env}{e:Expr}{f:Str}{pos:Pos}{s:Shared}{Q:Value->Shared->Prop}(hb:attributeBase e f env (eval e env)=eval e env)
  (h:wpAny (model prog w) A (eval e env) (fun o s₁=>wpAny (model prog w) A (getAttr o f true) Q E s₁) E s):wpAny (model prog w) A (eval (.Attribute e f pos) env) Q E s:=
 Attribute_any_ h (by rw[arm_eval_Attribute,hb])
end
def tFld(K:PySem.W.Frag)(ta:TE)(f:Str):TE:=fun σ H Q=>ta σ H fun x H1=>∃a C dx fs v,x=.ref a/\H1 a=some (.ins C dx fs)/\Cls K C/\NoAttr K C f/\fs.lookup f=some v/\Q v H1
def sFld(K:PySem.W.Frag)(ta tv:TE)(f:Str):TS:=fun D σ H=>tv σ H fun y H1=>ta σ H1 fun x H2=>∃a C dx fs,x=.ref a/\H2 a=some (.ins C dx fs)/\Cls K C/\NoAttr K C f/\fs.length<1000 /\
 D.nx σ (upd H2 a (.ins C dx (putF f y fs)))
section
variable {X:Cx}{o e value:Expr}{f:Str}{pos pos' tpos:Pos}{ta tv:TE}
theorem pe_fld(he:PE X e ta)(hb:attributeBase e f X.env (eval e X.env)=eval e X.env):PE X (.Attribute e f pos) (tFld X.K ta f):=by
 intro pins s σ H Q I h;refine attr_of hb (thn (he pins s σ H _ I h) fun u s1 ⟨x,H1,I1,rx,a,C,dx,fs,v,ex,ea,c,n,l,q⟩=>?_);subst ex;obtain rfl:u=Value.ref a:=rx;exact getattr_ok I1 ea c n l fun u' s2 I2 ru=>⟨v,H1,I2,ru,q⟩
theorem ps_fld(ha:PE X o ta)(hv:PE X value tv)(hs:swapsWith value (some (.Attribute o f pos')) pos.line X.env=pure false):PS X (.Assign [.Attribute o f pos'] value pos) (sFld X.K ta tv f):=by
 intro pins s σ H D I h;refine plainObj_wpAny_Assign_Attribute (thn (hv pins s σ H _ I h) fun u s1 ⟨y,H1,I1,ry,q⟩=>thn (ha pins s1 σ H1 _ I1 q) fun ov s2 ⟨x,H2,I2,rx,a,C,dx,fs,ex,ea,c,n,l,q2⟩=>?_) hs;subst ex;obtain rfl:ov=Value.ref a:=rx;exact setattr_ok I2 ea c n l ry fun s3 I3=>⟨σ,_,I3,q2⟩
end
section
variable {X:Cx}{pins:List (Addr×Obj)}{σ:St}{H:Hp}{s:Shared}{A:Around}{E:Value->Shared->Prop}{Q:Value->Shared->Prop}{c:Value}{b:Bool}
inductive TyOf(K:PySem.W.Frag)(H:Hp):V->Value->Prop where
 | non:TyOf K H .non (.type "NoneType")
 | bl (x:Bool):TyOf K H (.bl x) (.type "bool")
 | int (i:Int):TyOf K H (.int i) (.type "int")
 | str (x:Str):TyOf K H (.str x) (.type "str")
 | flt (x:UInt64):TyOf K H (.flt x) (.type "float")
 | lst {a:Addr} {xs:List V} (e:H a=some (.lst xs)):TyOf K H (.ref a) (.type "list")
 | frz {a:Addr} {o:Obj} {xs:List V} (e:H a=some (.frz o (.lst xs))):TyOf K H (.ref a) (.type "list")
 | tup {a:Addr} {xs:List V} (e:H a=some (.tup xs)):TyOf K H (.ref a) (.type "tuple")
 | dK {a:Addr} {kvs:List (Key×V)} (e:H a=some (.dK kvs)):TyOf K H (.ref a) (.type "dict")
 | dT {a:Addr} {kvs:List (List Key×V)} (e:H a=some (.dT kvs)):TyOf K H (.ref a) (.type "dict")
 | ins {a C dx:Addr} {fs:List (Str×V)} (e:H a=some (.ins C dx fs)) (cl:Cls K C) (ha:PySem.W.findIn K (.ref C) "__class__" = some (some (.builtin "object.__class__")))
   (hn:PySem.W.specialIn K (.builtin "object.__class__") "__get__" = some (some (.builtin "getset_descriptor.__get__"))) (htk:PySem.W.takesIn K (.builtin "object.__class__")=some true)
   (hm:PySem.W.mroIn K C (.type "object")=some true):TyOf K H (.ref a) (.ref C)
theorem isinst_ok{x:V}{u t:Value}(I:Inv X pins σ H s)(rx:RelV x u)(ty:TyOf X.K H x t)(e:PySem.W.kitOne X.K t c=some b)(h:∀tk,Q (.bool b) { s with toks:=tk }) :
  wpAny (model X.prog X.w) A (call (.builtin "isinstance") [u,c]) Q E s:=by
 cases ty with
 | non=>cases (show u=Value.none from rx);exact PySem.W.kia_one PySem.W.kitx_none I.kIn True.intro e (fun z=>nomatch z) h
 | bl y=>cases (show u=Value.bool y from rx);exact PySem.W.kia_one PySem.W.kitx_bool I.kIn True.intro e (fun z=>nomatch z) h
 | int i=>obtain⟨t,q⟩:=(show ∃t,u=Value.int i t from rx);cases q;exact PySem.W.kia_one PySem.W.kitx_int I.kIn True.intro e (fun z=>nomatch z) h
 | str y=>obtain⟨t,q⟩:=(show ∃t,u=Value.str y t from rx);cases q;exact PySem.W.kia_one PySem.W.kitx_str I.kIn True.intro e (fun z=>nomatch z) h
 | flt y=>obtain⟨t,q⟩:=(show ∃t,u=Value.float y t from rx);cases q;exact PySem.W.kia_one PySem.W.kitx_float I.kIn True.intro e (fun z=>nomatch z) h
 | @lst a xs ea=>
  cases (show u=Value.ref a from rx);obtain⟨_,_,n,_,h1⟩:=(show ObjOk X.prog X.w H s.heap a (.lst xs)from I.hok a _ ea);exact PySem.W.kia_one PySem.W.kitx_list I.kIn ⟨_,h1,rfl⟩ e (fun z=>nomatch z) h
 | @frz a ob xs ea=>
  cases (show u=Value.ref a from rx);obtain⟨_,_,_,n,_,h1⟩:=(show ObjOk X.prog X.w H s.heap a (.frz ob (.lst xs))from I.hok a _ ea);exact PySem.W.kia_one PySem.W.kitx_list I.kIn ⟨_,h1,rfl⟩ e (fun z=>nomatch z) h
 | @tup a xs ea=>
  cases (show u=Value.ref a from rx);obtain⟨_,_,_,p⟩:=(show ObjOk X.prog X.w H s.heap a (.tup xs)from I.hok a _ ea);obtain⟨o,h1,h2,_⟩:=p;exact PySem.W.kia_one PySem.W.kitx_tuple I.kIn ⟨o,h1,h2⟩ e (fun z=>nomatch z) h
 | @dK a kvs ea=>
  cases (show u=Value.ref a from rx);obtain⟨_,_,vs,_,p⟩:=(show ObjOk X.prog X.w H s.heap a (.dK kvs)from I.hok a _ ea);obtain⟨o,es,ep,h1,h2,_⟩:=p;exact PySem.W.kia_one PySem.W.kitx_dict I.kIn ⟨o,h1,h2.1⟩ e (fun z=>nomatch z) h
 | @dT a kvs ea=>
  cases (show u=Value.ref a from rx);obtain⟨_,_,xs,_,o,es,ep,h1,h2,_⟩:=(show ObjOk X.prog X.w H s.heap a (.dT kvs)from I.hok a _ ea);exact PySem.W.kia_one PySem.W.kitx_dict I.kIn ⟨o,h1,h2.1⟩ e (fun z=>nomatch z) h
 | @ins a C dx fs ea cl ha hn htk hm=>
  cases (show u=Value.ref a from rx);obtain⟨mA,O,_⟩:=ins_get I.hok ea;obtain⟨od,J,_⟩:=O.look;exact PySem.W.kia_one (PySem.W.kitx_own (cl.get _) cl.hd ha hn htk hm) I.kIn J e (fun z=>nomatch z) h
end
end L2
namespace L2
open PySem PySem.Spec PyProof.Rows
structure Room(k:Nat)(A:Around):Prop where
 hd:A.handled=none
 dp:A.depth+3 * k+5<recursionLimit
 un:A.units+16 * k+200<cLine
theorem Room.mono{j k:Nat}{A:Around}(r:Room k A)(h:j<=k):Room j A:=⟨r.hd,by have:=r.dp;omega,by have:=r.un;omega⟩
theorem Room.deeper{k:Nat}{A:Around}(r:Room (k+1) A)(env:Env):Room k (A.deeper env):=
 ⟨r.hd,by have:=r.dp;show A.depth+1+3 * k+5<_;omega,by have:=r.un;show A.units+3+16 * k+200<_;omega⟩
theorem make_depth{A:Around}{C:Addr}{us:List Value}{kw:List (Str×Value)}:(A.under (.builtin "type.__call__" ⟨.ref C::us,kw⟩)).depth=A.depth+1:=by
 first | rfl | simp[Around.under,Code.weight,Code.isCreation,Code.isGuard,Code.isCaller,Code.frames,Code.isFrame,guardIds]
theorem make_units{A:Around}{C:Addr}{us:List Value}{kw:List (Str×Value)}:(A.under (.builtin "type.__call__" ⟨.ref C::us,kw⟩)).units=A.units+1:=by
 first | rfl | simp[Around.under,Code.cUnits,Code.frames,Code.isFrame]
theorem Room.make{k:Nat}{A:Around}(r:Room (k+1) A)(C:Addr)(us:List Value)(kw:List (Str×Value)):Room k (A.under (.builtin "type.__call__" ⟨.ref C::us,kw⟩)):=
 ⟨r.hd,by have:=r.dp;rw[make_depth];omega,by have:=r.un;rw[make_units];omega⟩
theorem Room.depth{k:Nat}{A:Around}(r:Room k A):A.depth<recursionLimit:=by have:=r.dp;omega
theorem Room.units{k:Nat}{A:Around}(r:Room k A):A.units+64<cLine:=by have:=r.un;omega
theorem Room.units0{k:Nat}{A:Around}(r:Room k A):A.units<cLine:=by have:=r.un;omega
def tNil:TA:=fun _ H Q=>Q [] H
def tCons(ta:TE)(tr:TA):TA:=fun σ H Q=>ta σ H fun x H1=>tr σ H1 fun xs H2=>Q (x::xs) H2
section
variable {X:Cx}{e:Expr}{es:List Expr}{te:TE}{t:TA}{pos:Pos}
theorem pa_nil:PA X [] tNil:=fun _ _ _ _ H Q I h=>Calls.spliced_nil ⟨[],H,I,.nil,h⟩
theorem pa_cons(ha:PE X e te)(hr:PA X es t)(hs:starEach (e::es) X.env=(false,eval e X.env)::starEach es X.env:=by rfl):PA X (e::es) (tCons te t):=by
 intro pos pins s σ H Q I h;rw[hs];show wpAny _ _ (spliced ((false,eval e X.env)::backTo pos (starEach es X.env))) _ _ s;refine Calls.spliced_cons (thn (ha pins s σ H _ I h) fun u s1 ⟨x,H1,I1,r1,q1⟩=>?_);exact thn (hr pos pins s1 σ H1 _ I1 q1) fun us s2 ⟨xs,H2,I2,r2,q2⟩=>⟨x::xs,H2,I2,.cons r1 r2,q2⟩
def tTup(t:TA):TE:=fun σ H Q=>t σ H fun xs H1=>xs.length<=sizeLine/\∀p,H1 p=none->Q (.ref p) (upd H1 p (.tup xs))
def tLst(t:TA):TE:=fun σ H Q=>t σ H fun xs H1=>xs.length<=sizeLine/\∀p,H1 p=none->Q (.ref p) (upd H1 p (.lst xs))
theorem pe_tup{x1}(h:PA X es t):PE X (.Tuple es x1 pos) (tTup t):=by
 intro pins s σ H Q I hq;refine wpAny_Tuple_spliced (thn (h pos pins s σ H _ I hq) fun us s1 ⟨xs,H1,I1,r,z,q⟩=>⟨by rw[<-r.length];exact z,?_⟩);have hf:H1 s1.heap.objs.size=none:=I1.hok.fresh (Nat.le_refl _);refine⟨.ref s1.heap.objs.size,upd H1 s1.heap.objs.size (.tup xs),I1.laid (t':=s1.toks) (fun b u e=>Heap.get?_push_of_some _ e) (Nat.le_refl _) ?_,rfl,q _ hf⟩;exact⟨z,us,r,⟨_,Heap.get?_push_size _ rfl,rfl,_,rfl⟩⟩
theorem pe_lst(h:PA X es t):PE X (.List es pos) (tLst t):=by
 intro pins s σ H Q I hq;refine wpAny_List_spliced (thn (h pos pins s σ H _ I hq) fun us s1 ⟨xs,H1,I1,r,z,q⟩=>⟨by rw[<-r.length];exact z,?_⟩);have hf:H1 s1.heap.objs.size=none:=I1.hok.fresh (Nat.le_refl _);refine⟨.ref s1.heap.objs.size,upd H1 s1.heap.objs.size (.lst xs),I1.laid (t':=s1.toks) (fun b u e=>Heap.get?_push_of_some _ e) (Nat.le_refl _) ?_,rfl,q _ hf⟩;exact⟨z,us,0,r,Heap.get?_push_size _ rfl⟩
end
abbrev Sp:=List V->Hp->VK->XK->Prop
abbrev CXT:=List Env->Hp->Shared->XK->Value->Shared->Prop
structure Env0(P:Program)(w:World)(K:PySem.W.Frag)(mg:Str->Option Value)(base:Heap)(A:Around)(outer:List Env)(s:Shared)(H:Hp):Prop where
 frames:A.frames=some outer
 mod:Mod K mg base
 bs:∀b o,base.get? b=some o->s.heap.get? b=some o/\H b=none
 bsz:base.objs.size<=s.heap.objs.size
 funs:s.heap.FunFrames base outer
 frf:∀b∈frs outer,H b=none
 hok:HOk P w H s.heap
 bare:AllBare s.gens
def CE(outer:List Env)(P:Program)(w:World)(H:Hp)(s:Shared)(Q:VK)(u:Value)(s':Shared):Prop:=
 ∃v H',s'.os=s.os/\AllBare s'.gens/\Un (frs outer) [] H H' s.heap s'.heap/\HOk P w H' s'.heap/\RelV v u/\Q v H'
def CR(CX:CXT)(outer:List Env)(P:Program)(w:World)(H:Hp)(s:Shared)(Q:VK)(E:XK)(r:Result)(s':Shared):Prop:=
 match r with
 | .ok (.ret u)=>CE outer P w H s Q u s'
 | .ok _=>False
 | .error e=>CX outer H s E e s'
structure FnOk(P:Program)(w:World)(K:PySem.W.Frag)(mg:Str->Option Value)(base:Heap)(CX:CXT)(k:Nat)(f:Addr)(fd:FuncData)(ps:List Str)(sp:Sp):Prop where
 len:∀vs H Q E,sp vs H Q E->vs.length=ps.length
 run:∀(A:Around) (outer:List Env) (s:Shared) (H:Hp) (args:Args) (us:List Value) (vs:List V) (Q:VK) (E:XK),Room k A->Env0 P w K mg base A outer s H->BindsTo s fd args (ps.zip us)->Vals vs us->sp vs H Q E ->
  codeAny (model P w) A (.call (.ref f) args) (CR CX outer P w H s Q E) s
theorem Env0.make{P:Program}{w:World}{K:PySem.W.Frag}{mg:Str->Option Value}{base:Heap}{A:Around}{outer:List Env}{s:Shared}{H:Hp}(e:Env0 P w K mg base A outer s H)(C:Addr)(us:List Value)(kw:List (Str×Value)) :
  Env0 P w K mg base (A.under (.builtin "type.__call__" ⟨.ref C::us,kw⟩)) outer s H:=⟨by first | exact e.frames | (simpa[Around.under,Code.envs,Code.isFrame,pushEnvs]using e.frames),e.mod,e.bs,e.bsz,e.funs,e.frf,e.hok,e.bare⟩
section
variable {X:Cx}{pins:List (Addr×Obj)}{σ:St}{H:Hp}{s s':Shared}
theorem Inv.env0(I:Inv X pins σ H s):Env0 X.prog X.w X.K X.mg X.base X.A X.stack s H:=
 ⟨I.ok.frames,I.ok.mod,I.bs,Nat.le_trans I.ok.bsz I.sz,I.stack,I.stkFree,I.hok,I.bare⟩
theorem Inv.after{Q:VK}{u:Value}(I:Inv X pins σ H s)(h:CE X.stack X.prog X.w H s Q u s'):EP X pins σ Q u s':=by
 obtain⟨v,H',os,bare,un,hok,r,q⟩:=h;obtain⟨hh,g,d,t,os'⟩:=s';obtain rfl:os'=s.os:=os;exact⟨v,H',I.call (h':=hh) (g':=g) (d':=d) (t':=t) (ch:=[]) un hok bare (fun b z=>absurd z (by simp)),r,q⟩
end
def tCall(sp:Sp)(dvs:List V)(E:XK)(t:TA):TE:=fun σ H Q=>t σ H fun vs H1=>sp (vs++dvs) H1 Q E
def tMeth(C:Addr)(m:Str)(sp:Sp)(dvs:List V)(E:XK)(ta:TE)(t:TA):TE:=fun σ H Q=>ta σ H fun x H1=>∃a dx fs,x=.ref a/\H1 a=some (.ins C dx fs)/\fs.lookup m=none /\
 t σ H1 fun vs H2=>sp (x::(vs++dvs)) H2 Q E
def tMake(C:Addr)(sp:Sp)(dvs:List V)(E:XK)(t:TA):TE:=fun σ H Q=>t σ H fun vs H1=>∀x dx,H1 x=none->H1 dx=none->dx≠x ->
 sp (.ref x::(vs++dvs)) (upd (upd H1 dx (.own x)) x (.ins C dx [])) (fun v H2=>v=.non/\Q (.ref x) H2) E
def Binds(K:PySem.W.Frag)(fd:FuncData)(ps:List Str)(ds:List Value):Prop:=
 ∀(s:Shared) (us:List Value),K.In s.heap->(us++ds).length=ps.length->BindsTo s fd ⟨us,[]⟩ (ps.zip (us++ds))
theorem Binds.all{K:PySem.W.Frag}{fd:FuncData}{ps:List Str}(h:∀us:List Value,us.length=ps.length->bindArgs fd ⟨us,[]⟩=pure (ps.zip us)):Binds K fd ps []:=fun s us _ hl=>by
 rw[List.append_nil]at hl ⊢;exact .of_eq (h us hl)
def Passes(CX:CXT)(X:Cx)(E:XK):Prop:=∀(pins:List (Addr×Obj)) (σ:St) (H:Hp) (s:Shared) (e:Value) (s':Shared),Inv X pins σ H s->CX X.stack H s E e s'->X.xe e s'
section
variable {X:Cx}{CX:CXT}{k:Nat}{f C:Addr}{fd:FuncData}{ps:List Str}{sp:Sp}{dvs:List V}{ds:List Value}{E:XK}{x m:Str}{p pos apos:Pos}{e o:Expr}{es:List Expr}{ta:TE}{t:TA}
theorem run_fn{pins:List (Addr×Obj)}{σ:St}{H:Hp}{s:Shared}{Q:VK}{us:List Value}{vs:List V}(F:FnOk X.prog X.w X.K X.mg X.base CX k f fd ps sp)(hr:Room k X.A)(hb:Binds X.K fd ps ds)(hd:Vals dvs ds)(hx:Passes CX X E)
  (I:Inv X pins σ H s) (r:Vals vs us) (h:sp (vs++dvs) H Q E):wpAny (model X.prog X.w) X.A (call (.ref f) us) (EP X pins σ Q) X.xe s:=by
 have r2:Vals (vs++dvs) (us++ds):=r.append hd;have hl:(us++ds).length=ps.length:=by rw[<-r2.length];exact F.len _ _ _ _ h
 refine wpAny_call (codeAny_mono (F.run X.A X.stack s H ⟨us,[]⟩ (us++ds) (vs++dvs) Q E hr I.env0 (hb s us I.kIn hl) r2 h) fun r s' hq=>?_);cases r with
 | error e=>exact hx pins σ H s e s' I hq
 | ok fl=>
  cases fl with
  | ret u=>exact I.after hq
  | next=>exact False.elim hq
  | brk=>exact False.elim hq
  | cont=>exact False.elim hq
theorem pe_call(F:FnOk X.prog X.w X.K X.mg X.base CX k f fd ps sp)(hr:Room k X.A)(hg:Gl X x)(hm:X.mg x=some (.ref f))(hk:PySem.W.keepIn X.K (.ref f)=true)(hb:Binds X.K fd ps ds)(hd:Vals dvs ds)(hx:Passes CX X E)
  (ha:PA X (e::es) t) (hdb:(x == ("__debug__" : Str))=false:=by decide) (he:starEach (e::es) X.env=(false,eval e X.env)::starEach es X.env:=by rfl) (hpl:(backTo pos (starEach es X.env)).any (·.1)=false:=by rfl) :
  PE X (.Call (.Name x p) (e::es) [] pos) (tCall sp dvs E t):=by
 intro pins s σ H Q I h;refine wpAny_Call_Name_kw (ld_glob I hg hm ?_ hdb);refine PySem.W.callWith_K (h₀:=X.base) I.ok.mod.kin hk (thn (ha pos pins s σ H _ I h) fun us s1 ⟨vs,H1,I1,r,q⟩=>⟨I1.kIn,?_⟩) he hpl;exact run_fn F hr hb hd hx I1 r q
theorem pe_meth{pl:Sem Bool}(he:PE X o ta)(c:Cls X.K C)(hm:Meth X.K C m f)(F:FnOk X.prog X.w X.K X.mg X.base CX k f fd ps sp)(hr:Room k X.A)(hb:Binds X.K fd ps ds)(hd:Vals dvs ds)(hx:Passes CX X E)(ha:PA X (e::es) t)
  (hst:starEach (e::es) X.env=(false,eval e X.env)::starEach es X.env:=by rfl) (hpl:(backTo pos (starEach es X.env)).any (·.1)=false:=by rfl)
  (ht:eval (.Call (.Attribute o m apos) (e::es) [] pos) X.env=(do
   let ov <-eval o X.env
   standAt apos.atName
   let(f,first) <-holding [ov] (getMethod ov m pl)
   callWith pos f first (backTo pos (starEach (e::es) X.env)) (backToKw pos (keywordEach [] X.env))):=by rfl) :
  PE X (.Call (.Attribute o m apos) (e::es) [] pos) (tMeth C m sp dvs E ta t):=by
 intro pins s σ H Q I h;refine PySem.W.methodCall_KW (pl:=pl) (thn (he pins s σ H _ I h) fun u s1 ⟨x,H1,I1,rx,a,dx,fs,ex,ea,l,q⟩=>?_) ht;subst ex;obtain rfl:u=Value.ref a:=rx;refine getmeth_ok I1 ea c hm l ?_;refine PySem.W.callWith_K (first:=[.ref a]) (h₀:=X.base) I.ok.mod.kin hm.kp (thn (ha pos pins s1 σ H1 _ I1 q) fun us s2 ⟨vs,H2,I2,r,q2⟩=>⟨I2.kIn,?_⟩) hst hpl;exact run_fn (us:=.ref a::us) (vs:=.ref a::vs) F hr hb hd hx I2 (.cons rfl r) q2
theorem pe_meth0{pl:Sem Bool}(he:PE X o ta)(c:Cls X.K C)(hm:Meth X.K C m f)(F:FnOk X.prog X.w X.K X.mg X.base CX k f fd ps sp)(hr:Room k X.A)(hb:Binds X.K fd ps ds)(hd:Vals dvs ds)(hx:Passes CX X E)
  (ht:eval (.Call (.Attribute o m apos) [] [] pos) X.env=(do
   let ov <-eval o X.env
   standAt apos.atName
   let(f,first) <-holding [ov] (getMethod ov m pl)
   callWith pos f first (backTo pos (starEach [] X.env)) (backToKw pos (keywordEach [] X.env))):=by rfl) :
  PE X (.Call (.Attribute o m apos) [] [] pos) (tMeth C m sp dvs E ta tNil):=by
 intro pins s σ H Q I h;refine PySem.W.methodCall_KW (pl:=pl) (thn (he pins s σ H _ I h) fun u s1 ⟨x,H1,I1,rx,a,dx,fs,ex,ea,l,q⟩=>?_) ht;subst ex;obtain rfl:u=Value.ref a:=rx;refine getmeth_ok I1 ea c hm l ?_;exact PySem.W.callWith_K0 (first:=[.ref a]) I1.kIn hm.kp (run_fn (us:=[.ref a]) (vs:=[.ref a]) F hr hb hd hx I1 (.cons rfl .nil) q)
structure Mk(K:PySem.W.Frag)(C f:Addr):Prop where
 makes:PySem.W.makesIn K C=true
 init:PySem.W.findIn K (.ref C) "__init__" = some (some (.ref f))
 fn:PySem.W.isFn K (.ref f)=true
 kp:PySem.W.keepIn K (.ref C)=true
theorem run_make{pins:List (Addr×Obj)}{σ:St}{H:Hp}{s:Shared}{Q:VK}{us:List Value}{vs:List V}(M:Mk X.K C f)(F:FnOk X.prog X.w X.K X.mg X.base CX k f fd ps sp)(hr:Room (k+1) X.A)(hb:Binds X.K fd ps ds)(hd:Vals dvs ds)
  (hx:Passes CX X E) (I:Inv X pins σ H s) (r:Vals vs us)
  (h:∀x dx,H x=none->H dx=none->dx≠x->sp (.ref x::(vs++dvs)) (upd (upd H dx (.own x)) x (.ins C dx [])) (fun v H2=>v=.non/\Q (.ref x) H2) E) :
  wpAny (model X.prog X.w) X.A (call (.ref C) us) (EP X pins σ Q) X.xe s:=by
 have hq:=h (s.heap.objs.size+1) s.heap.objs.size (I.hok.fresh (Nat.le_succ _)) (I.hok.fresh (Nat.le_refl _)) (Nat.ne_of_lt (Nat.lt_succ_self _));have I2:=Inv.made (C:=C) I;have r2:Vals (V.ref (s.heap.objs.size+1)::(vs++dvs)) (Value.ref (s.heap.objs.size+1)::(us++ds)):=.cons rfl (r.append hd)
 have hl:(Value.ref (s.heap.objs.size+1)::us++ds).length=ps.length:=by
  have e:=r2.length;rw[F.len _ _ _ _ hq]at e;exact e.symm
 refine wpAny_call (make_map (f:=f) I.kIn M.makes M.init (beq_iff_eq.mp M.fn) (codeAny_mono (F.run _ X.stack _ _ ⟨Value.ref (s.heap.objs.size+1)::us,[]⟩ (Value.ref (s.heap.objs.size+1)::(us++ds)) _ _ E (hr.make C us [])
  (I2.env0.make C us []) (hb _ (Value.ref (s.heap.objs.size+1)::us) I2.kIn hl) r2 hq) fun r s' hq'=>?_))
 cases r with
 | error e=>exact hx pins σ _ _ e s' I2 hq'
 | ok fl=>
  cases fl with
  | ret u=>
   obtain⟨v,H',I3,rv,ev,q3⟩:=I2.after hq';subst ev;exact⟨rv,⟨V.ref (s.heap.objs.size+1),H',I3,rfl,q3⟩⟩
  | next=>exact False.elim hq'
  | brk=>exact False.elim hq'
  | cont=>exact False.elim hq'
theorem pe_make(M:Mk X.K C f)(F:FnOk X.prog X.w X.K X.mg X.base CX k f fd ps sp)(hr:Room (k+1) X.A)(hg:Gl X x)(hm:X.mg x=some (.ref C))(hb:Binds X.K fd ps ds)(hd:Vals dvs ds)(hx:Passes CX X E)
  (ha:PA X (e::es) t) (hdb:(x == ("__debug__" : Str))=false:=by decide) (he:starEach (e::es) X.env=(false,eval e X.env)::starEach es X.env:=by rfl) (hpl:(backTo pos (starEach es X.env)).any (·.1)=false:=by rfl) :
  PE X (.Call (.Name x p) (e::es) [] pos) (tMake C sp dvs E t):=by
 intro pins s σ H Q I h;refine wpAny_Call_Name_kw (ld_glob I hg hm ?_ hdb);refine PySem.W.callWith_K (h₀:=X.base) I.ok.mod.kin M.kp (thn (ha pos pins s σ H _ I h) fun us s1 ⟨vs,H1,I1,r,q⟩=>⟨I1.kIn,?_⟩) he hpl;exact run_make M F hr hb hd hx I1 r q
end
section
variable {X:Cx}{CX:CXT}{k:Nat}{f C:Addr}{fd:FuncData}{ps ks:List Str}{sp:Sp}{E:XK}{x m:Str}{p pos apos kpos:Pos}{e o:Expr}{es:List Expr}{kws:List Keyword}{te ta:TE}{t tk:TA}{nm:Option Str}
structure KBinds(K:PySem.W.Frag)(fd:FuncData)(ps ks:List Str)(g:List Value->List Value->List Value)(gV:List V->List V->List V):Prop where
 to:∀(s:Shared) (us ws:List Value),K.In s.heap->(g us ws).length=ps.length->BindsTo s fd ⟨us,ks.zip ws⟩ (ps.zip (g us ws))
 rel:∀ {vs:List V} {us:List Value} {zs:List V} {ws:List Value},Vals vs us->Vals zs ws->Vals (gV vs zs) (g us ws)
variable {g:List Value->List Value->List Value}{gV:List V->List V->List V}
end
structure FnScope(N P:List Str)(sc:Scope):Prop where
 kind:sc.kind=.function
 co:sc.isCoroutine=false
 gen:sc.isGenerator=false
 nd:N.Nodup
 pre:N.take P.length=P
 par:∀x∈P,sc.names.lookup x=some .local\/sc.names.lookup x=some .cell
 nofree:∀y∈sc.names,y.2≠.free
theorem bindL_out{kindOf:Str->Option NameKind}{x:Str}:∀ {binds:List (Str×Value)} {m:Str->Option Value},(∀v,(x,v)∉binds)->bindL kindOf binds m x=m x
 | [],_,_=>rfl
 | (n,v)::r,m,h=>by
  unfold bindL;rw[bindL_out fun w hw=>h w (List.mem_cons_of_mem _ hw)];split
  ·have:x≠n:=by rintro rfl;exact h v List.mem_cons_self
   simp[this]
  ·rfl
theorem bindC_out{kindOf:Str->Option NameKind}{x:Str}:∀ {binds:List (Str×Value)} {m:Str->Option Value},(∀v,(x,v)∉binds)->bindC kindOf binds m x=m x
 | [],_,_=>rfl
 | (n,v)::r,m,h=>by
  unfold bindC;rw[bindC_out fun w hw=>h w (List.mem_cons_of_mem _ hw)];split
  ·rfl
  ·have:x≠n:=by rintro rfl;exact h v List.mem_cons_self
   simp[this]
theorem bindL_get{kindOf:Str->Option NameKind}{x:Str}{v:Value}:∀ {P:List Str} {vs:List Value} {i:Nat} {m:Str->Option Value},P.Nodup->P[i]? = some x->vs[i]? = some v->kindOf x=some .local ->
  bindL kindOf (P.zip vs) m x=some v
 | [],_,_,_,_,h,_,_=>by simp at h
 | _::_,[],_,_,_,_,h,_=>by simp at h
 | p::P,w::vs,0,m,nd,h1,h2,hk=>by
  simp at h1 h2;subst h1;subst h2;show bindL kindOf ((p,w)::P.zip vs) m p=_;unfold bindL;rw[bindL_out fun v hv=>(List.nodup_cons.mp nd).1 (List.of_mem_zip hv).1,if_pos hk];simp
 | p::P,w::vs,i+1,m,nd,h1,h2,hk=>by
  show bindL kindOf ((p,w)::P.zip vs) m x=_;unfold bindL;exact bindL_get (i:=i) (List.nodup_cons.mp nd).2 (by simpa using h1) (by simpa using h2) hk
theorem bindC_get{kindOf:Str->Option NameKind}{x:Str}{v:Value}:∀ {P:List Str} {vs:List Value} {i:Nat} {m:Str->Option Value},P.Nodup->P[i]? = some x->vs[i]? = some v->kindOf x≠some .local ->
  bindC kindOf (P.zip vs) m x=some v
 | [],_,_,_,_,h,_,_=>by simp at h
 | _::_,[],_,_,_,_,h,_=>by simp at h
 | p::P,w::vs,0,m,nd,h1,h2,hk=>by
  simp at h1 h2;subst h1;subst h2;show bindC kindOf ((p,w)::P.zip vs) m p=_;unfold bindC;rw[bindC_out fun v hv=>(List.nodup_cons.mp nd).1 (List.of_mem_zip hv).1,if_neg hk];simp
 | p::P,w::vs,i+1,m,nd,h1,h2,hk=>by
  show bindC kindOf ((p,w)::P.zip vs) m x=_;unfold bindC;exact bindC_get (i:=i) (List.nodup_cons.mp nd).2 (by simpa using h1) (by simpa using h2) hk
def start(N:List Str)(vs:List V):St:=vs.map some++List.replicate (N.length - vs.length) none
def cxOf(CX:CXT)(P:Program)(w:World)(K:PySem.W.Frag)(mg:Str->Option Value)(base:Heap)(N:List Str)(qual:Str)(scope:Scope)(f:Addr)(cd:Value)(A:Around)(outer:List Env)(s:Shared)(H:Hp)(E:XK):Cx where
 prog:=P
 w:=w
 K:=K
 mg:=mg
 base:=base
 A:=A.deeper (envOfC qual scope s.heap.objs.size f cd)
 N:=N
 s₀:=s
 H₀:=H
 env:=envOfC qual scope s.heap.objs.size f cd
 outer:=outer
 stack:=envOfC qual scope s.heap.objs.size f cd::outer
 ex:=[]
 calm:=true
 fn:=fun _=>true
 pn:=[]
 xe:=fun e s'=>wpAny (model P w) (A.deeper (envOfC qual scope s.heap.objs.size f cd)) (leaving (envOfC qual scope s.heap.objs.size f cd) e) (fun _ s''=>CX outer H s E e s'') (fun e' s''=>CX outer H s E e' s'') s'
theorem cell_has{sc:Scope}{n:Nat}{x:Str}(h:sc.names.lookup x=some .cell):∃c,(cellsFrom n sc.names []).lookup x=some c:=by
 have q:=PySem.W.cellsFrom_some sc.names n [] (.inl h);exact Option.isSome_iff_exists.mp q
theorem inv_start{CX:CXT}{P:Program}{w:World}{K:PySem.W.Frag}{mg:Str->Option Value}{base:Heap}{N ps:List Str}{qual:Str}{scope:Scope}{f:Addr}{cd:Value}{A:Around}{outer:List Env}{s s1:Shared}{H:Hp}{E:XK}{us:List Value}{vs:List V}
  (S:FnScope N ps scope) (hd:A.handled=none) (e0:Env0 P w K mg base A outer s H) (hl:vs.length=ps.length) (r:Vals vs us)
  (x:InCallC s s.heap.objs.size (bindL (envOfC qual scope s.heap.objs.size f cd).kindOf (ps.zip us) fun _=>none) (cellsFrom (s.heap.objs.size+1) scope.names []) (bindC (envOfC qual scope s.heap.objs.size f cd).kindOf (ps.zip us) fun _=>none) s1) :
  Inv (cxOf CX P w K mg base N qual scope f cd A outer s H E) [] (start N vs) H s1:=by
 have hpl:ps.length<=N.length:=by have:=congrArg List.length S.pre;rw[List.length_take]at this;omega
 obtain⟨h1,tk,rfl,hk⟩:=x.done;have noA:∀b:Addr,b∉(cxOf CX P w K mg base N qual scope f cd A outer s H E).ex:=fun b z=>absurd (show b∈([]:List Addr)from z) (by simp)
 refine⟨⟨e0.mod,S.kind,rfl,rfl,Nat.le_refl _,fun y z c h1 h2=>?_,fun y hy=>?_,fun y c _ h=>?_,fun _=>hd,Around.frames_deeper e0.frames,.inr ⟨rfl,rfl⟩,fun b z=>absurd z (noA b),e0.bs,e0.bsz,fun b _ _=>noA b,fun b z=>absurd z (noA b),e0.funs,e0.frf⟩,
  rfl,e0.bare,Un.kept hk,⟨_,x.toInCall.ns,fun i y v h1 h2 h3=>?_⟩,fun y c h=>⟨_,x.cell y c h⟩,e0.hok.fresh (Nat.le_refl _),fun y c h=>?_,fun p hp=>absurd (show p∈([]:List (Addr×Obj))from hp) (by simp),e0.hok.kept hk,?_⟩
 ·exact name_of_addr x.apart (PySem.mem_of_lookup h1) (PySem.mem_of_lookup h2)
 ·have hy:scope.names.lookup y=some .cell\/scope.names.lookup y=some .free:=hy
  rcases hy with hy | hy
  ·exact cell_has hy
  ·exact absurd rfl (S.nofree _ (PySem.mem_of_lookup hy))
 ·exact Nat.le_of_lt (x.above y c (PySem.mem_of_lookup h))
 ·have hi:i<vs.length:=by
   unfold start at h2;by_cases hi:i<vs.length
   ·exact hi
   ·rw[List.getElem?_append_right (by simpa using hi)]at h2
    rw[List.getElem?_replicate]at h2;split at h2 <;> cases h2
  have ha:vs[i]? = some v:=by
   unfold start at h2;rw[List.getElem?_append_left (by simpa using hi),List.getElem?_map]at h2;cases e:vs[i]? with
   | none=>rw[e]at h2;cases h2
   | some a=>rw[e]at h2;cases h2;rfl
  obtain⟨u,hu,rv⟩:=r.get ha
  have hp:ps[i]? = some y:=by
   rw[<-S.pre,List.getElem?_take_of_lt (by omega)];exact h1
  have ndP:ps.Nodup:=by rw[<-S.pre];exact S.nd.sublist (List.take_sublist _ _)
  refine⟨u,rv,?_⟩;rcases S.par y (List.mem_of_getElem? hp)with k | k
  ·exact .inl ⟨k,bindL_get ndP hp hu k⟩
  ·obtain⟨c,e⟩:=cell_has (n:=s.heap.objs.size+1) k
   refine .inr ⟨.inl k,c,e,?_⟩;have q:=x.cell y c e;rw[bindC_get ndP hp hu (by show scope.names.lookup y≠_;rw[k];decide)]at q;exact q
 ·exact e0.hok.fresh (Nat.le_of_lt (x.above y c (PySem.mem_of_lookup h)))
 ·unfold start
  show _=N.length;rw[List.length_append,List.length_map,List.length_replicate];omega
theorem fn_of{CX:CXT}{P:Program}{w:World}{K:PySem.W.Frag}{mg:Str->Option Value}{base:Heap}{k:Nat}{f:Addr}{name qual:Str}{params:Arguments}{body:List Stmt}{scope:Scope}{dV kV doc pm cdv ct oc:Value}{an od:Option Addr}
  {osl:Array (Option Value)} {N ps:List Str} {sp:Sp} (lk:K.lookup f=some ⟨oc,od,.func (PySem.W.fnOf name qual params body scope dV kV doc pm an cdv ct),osl⟩) (hcd:PySem.W.codeIn K cdv qual=true) (S:FnScope N ps scope)
  (len:∀vs H Q E,sp vs H Q E->vs.length=ps.length)
  (hbody:∀(A:Around) (outer:List Env) (s:Shared) (H:Hp) (vs:List V) (Q:VK) (E:XK),Room k (A.deeper (envOfC qual scope s.heap.objs.size f cdv))->sp vs H Q E ->
   ∃t,PSs (cxOf CX P w K mg base N qual scope f cdv A outer s H E) body t/\t { nx:=fun _ H'=>Q .non H',rt:=Q } (start N vs) H) :
  FnOk P w K mg base CX (k+1) f (PySem.W.fnOf name qual params body scope dV kV doc pm an cdv ct) ps sp:=by
 refine⟨len,fun A outer s H args us vs Q E hr e0 hb r hsp=>?_⟩;have hl:=len _ _ _ _ hsp;have KX:K.In s.heap:=e0.mod.kin.keeps fun b o e=>(e0.bs b o e).1
 have lim:s.heap.NoLimit:=e0.mod.nolimit.keeps fun b o e=>(e0.bs b o e).1
 have hkind:∀y∈ps.zip us,scope.names.lookup y.1=some .local\/(scope.names.lookup y.1=some .cell/\((cellsFrom (s.heap.objs.size+1) scope.names []).lookup y.1).isSome=true):=fun⟨n,v⟩ hy=>by
  rcases S.par n (List.of_mem_zip hy).1 with q | q
  ·exact .inl q
  ·exact .inr ⟨q,PySem.W.cellsFrom_some _ _ _ (.inl q)⟩
 refine codeAny_call_function hr.depth (KX _ _ lk) rfl S.co S.gen rfl (PySem.W.codeRec_of KX hcd) (hb _ _ _ _ ?_);refine wpAny_newFunctionEnv_cells S.kind hkind fun env he s1 x=>?_
 subst he;refine⟨lim.keeps x.toInCall.keep,codeAny_func ?_⟩;obtain⟨t,ht,hq⟩:=hbody A outer s H vs Q E (hr.deeper _) hsp;have I:Inv (cxOf CX P w K mg base N qual scope f cdv A outer s H E) [] (start N vs) H s1:=inv_start S hr.hd e0 hl r x;refine wpAny_mono (ht [] s1 (start N vs) H _ I hq) (fun fl s' hs=>?_) fun e s' hs=>hs
 have fin:∀ {σ':St} {H':Hp} {v:V} {u:Value},Inv (cxOf CX P w K mg base N qual scope f cdv A outer s H E) [] σ' H' s'->RelV v u->Q v H'->CE outer P w H s Q u s':=
  fun {σ' H' v u} J rv q=>⟨v,H',J.os,J.bare,J.base,J.hok,rv,q⟩
 cases fl with
 | ret u=>
  obtain⟨v,σ',H',J,rv,q⟩:=hs;exact fin J rv q
 | next=>
  obtain⟨σ',H',J,q⟩:=hs;exact fin (v:=V.non) (u:=Value.none) J rfl q
 | brk=>
  obtain⟨_,_,_,q⟩:=hs;exact False.elim q
 | cont=>
  obtain⟨_,_,_,q⟩:=hs;exact False.elim q
end L2
namespace L2
open PySem PySem.Spec PyProof.Rows
section
variable {X:Cx}{x:Str}{p pos:Pos}{e:Expr}{es:List Expr}{t:TA}{id T:String}{r:List V->Hp->VK->Prop}
def tCB(r:List V->Hp->VK->Prop)(t:TA):TE:=fun σ H Q=>t σ H fun vs H1=>r vs H1 Q
theorem pe_callB(hc:CallR X (.builtin id) r)(hg:Gl X x)(hm:X.mg x=none)(hv:bootBuiltins x=some (.builtin id))(ha:PA X (e::es) t)(hn:x ≠ "__name__" := by decide)(hdb:(x == ("__debug__" : Str))=false:=by decide)
  (he:starEach (e::es) X.env=(false,eval e X.env)::starEach es X.env:=by rfl) (hpl:(backTo pos (starEach es X.env)).any (·.1)=false:=by rfl):PE X (.Call (.Name x p) (e::es) [] pos) (tCB r t):=by
 intro pins s σ H Q I h;refine wpAny_Call_Name_kw (ld_blt I hg hm hv ?_ hn hdb);exact PyProof.Rows.callWith_builtin1 (thn (ha pos pins s σ H _ I h) fun us s1 ⟨vs,H1,I1,r1,q1⟩=>hc pins s1 σ H1 vs us Q I1 r1 q1) he hpl
theorem pe_callTy(hc:CallR X (.type T) r)(hg:Gl X x)(hm:X.mg x=none)(hv:bootBuiltins x=some (.type T))(ha:PA X (e::es) t)(hn:x ≠ "__name__" := by decide)(hdb:(x == ("__debug__" : Str))=false:=by decide)
  (he:starEach (e::es) X.env=(false,eval e X.env)::starEach es X.env:=by rfl) (hpl:(backTo pos (starEach es X.env)).any (·.1)=false:=by rfl):PE X (.Call (.Name x p) (e::es) [] pos) (tCB r t):=by
 intro pins s σ H Q I h;refine wpAny_Call_Name_kw (ld_blt I hg hm hv ?_ hn hdb);exact PyProof.Rows.callWith_type1 (thn (ha pos pins s σ H _ I h) fun us s1 ⟨vs,H1,I1,r1,q1⟩=>hc pins s1 σ H1 vs us Q I1 r1 q1) he hpl
end
end L2
namespace L2
open PySem PySem.Spec PyProof.Rows
section
variable {κ:Type}[DecidableEq κ]
def valV(kvs:List (κ×V))(k:κ):Option V:=(kvs.find? fun kv=>decide (kv.1=k)).map (·.2)
def putK(kvs:List (κ×V))(k:κ)(v:V):List (κ×V):=
 if(kvs.any fun kv=>decide (kv.1=k))=true then kvs.map (fun kv=>if kv.1=k then (kv.1,v)else kv)else kvs++[(k,v)]
theorem valV_pos{p:κ×V}{r:List (κ×V)}{k:κ}(e:p.1=k):valV (p::r) k=some p.2:=by simp[valV,List.find?_cons,e]
theorem valV_neg{p:κ×V}{r:List (κ×V)}{k:κ}(e:¬p.1=k):valV (p::r) k=valV r k:=by simp[valV,List.find?_cons,e]
theorem valV_any(k:κ):∀kvs:List (κ×V),(kvs.any fun kv=>decide (kv.1=k))=(valV kvs k).isSome
 | []=>rfl
 | p::r=>by
  rw[List.any_cons];by_cases e:p.1=k
  ·simp only[valV_pos e,decide_eq_true e,Bool.true_or,Option.isSome_some]
  ·rw[valV_neg e,decide_eq_false e,Bool.false_or];exact valV_any k r
theorem length_putK(kvs:List (κ×V))(k:κ)(v:V):(putK kvs k v).length<=kvs.length+1:=by
 unfold putK;split
 ·rw[List.length_map];omega
 ·rw[List.length_append,List.length_cons,List.length_nil];omega
theorem RelO.isSome_eq{o:Option V}{u:Option Value}(r:RelO o u):o.isSome=u.isSome:=by
 cases o with
 | none=>cases u with
  | none=>rfl
  | some _=>exact(show False from r).elim
 | some _=>cases u with
  | none=>exact(show False from r).elim
  | some _=>rfl
theorem KV.val{kvs:List (κ×V)}{vs:List (κ×Value)}(r:KV kvs vs)(k:κ):RelO (valV kvs k) (valueAt vs k):=by
 unfold KV at r;induction r with
 | nil=>exact True.intro
 | @cons p q ps qs h t ih=>
  obtain⟨h1,h2⟩:=h;by_cases e:p.1=k
  ·have e':q.1=k:=h1.symm.trans e
   have b:valueAt (q::qs) k=some q.2:=by simp[valueAt,List.find?_cons,e']
   rw[valV_pos e,b];exact h2
  ·have e':¬q.1=k:=fun z=>e (h1.trans z)
   have b:valueAt (q::qs) k=valueAt qs k:=by simp[valueAt,List.find?_cons,e']
   rw[valV_neg e,b];exact ih
theorem KV.any{kvs:List (κ×V)}{vs:List (κ×Value)}(r:KV kvs vs)(k:κ):(kvs.any fun kv=>decide (kv.1=k))=vs.any fun kv=>decide (kv.1=k):=by
 unfold KV at r;induction r with
 | nil=>rfl
 | cons h t ih=>rw[List.any_cons,List.any_cons,ih,h.1]
theorem KV.repl{kvs:List (κ×V)}{vs:List (κ×Value)}(r:KV kvs vs)(k:κ){y:V}{u:Value}(ry:RelV y u) :
  KV (kvs.map fun kv=>if kv.1=k then (kv.1,y)else kv) (vs.map fun kv=>if kv.1=k then (kv.1,u)else kv):=by
 unfold KV at r ⊢;induction r with
 | nil=>exact .nil
 | @cons p q ps qs h t ih=>
  rw[List.map_cons,List.map_cons];refine .cons ?_ ih;obtain⟨h1,h2⟩:=h;by_cases e:p.1=k
  ·rw[if_pos e,if_pos (h1.symm.trans e)];exact⟨h1,ry⟩
  ·rw[if_neg e,if_neg (fun z=>e (h1.trans z))];exact⟨h1,h2⟩
theorem KV.put{kvs:List (κ×V)}{vs:List (κ×Value)}(r:KV kvs vs)(k:κ){y:V}{u:Value}(ry:RelV y u):KV (putK kvs k y) (stored vs k u):=by
 unfold putK stored;rw[r.any k];by_cases e:(vs.any fun kv=>decide (kv.1=k))=true
 ·rw[if_pos e,if_pos e];exact r.repl k ry
 ·rw[if_neg e,if_neg e];exact Paired.snoc r ⟨rfl,ry⟩
theorem KV.keys{kvs:List (κ×V)}{vs:List (κ×Value)}(r:KV kvs vs):kvs.map (·.1)=vs.map (·.1):=by
 unfold KV at r;induction r with
 | nil=>rfl
 | cons h t ih=>rw[List.map_cons,List.map_cons,ih,h.1]
theorem KV.length{kvs:List (κ×V)}{vs:List (κ×Value)}(r:KV kvs vs):kvs.length=vs.length:=Paired.length r
end
theorem kV_is{P:Program}{w:World}{k:Key}{u:Value}(r:RelV (kV k) u):(mixKind P w).is k u=true:=by
 cases k with
 | inl i=>obtain⟨t,e⟩:=(show ∃t,u=Value.int i t from r);subst e;exact mixKind_int P w i t
 | inr x=>obtain⟨t,e⟩:=(show ∃t,u=Value.str x t from r);subst e;exact mixKind_str P w x t
theorem items_are{P:Program}{w:World}:∀ {ks:List Key} {us:List Value},Vals (ks.map kV) us->ItemsAre (mixKind P w) ks us
 | [],_,r=>by rw[List.map_nil]at r;cases r;exact .nil
 | k::ks,_,r=>by
  rw[List.map_cons]at r;cases r with
  | cons h t=>exact .cons (kV_is h) (items_are t)
abbrev KT(H:Hp):List (List Key×V)->List (List Key×Addr×Value)->Prop:=Paired fun p q=>p.1=q.1/\H q.2.1=some (.tup (p.1.map kV))/\RelV p.2 q.2.2
theorem KT.val{H:Hp}{kvs:List (List Key×V)}{xs:List (List Key×Addr×Value)}(r:KT H kvs xs)(k:List Key):RelO (valV kvs k) ((atKey xs k).map (·.2)):=by
 induction r with
 | nil=>exact True.intro
 | @cons p q ps qs h t ih=>
  obtain⟨h1,_,h2⟩:=h;by_cases e:p.1=k
  ·have e':q.1=k:=h1.symm.trans e
   have b:atKey (q::qs) k=some q.2:=by simp[atKey,List.find?_cons,e']
   rw[valV_pos e,b];exact h2
  ·have e':¬q.1=k:=fun z=>e (h1.trans z)
   have b:atKey (q::qs) k=atKey qs k:=by simp[atKey,List.find?_cons,e']
   rw[valV_neg e,b];exact ih
theorem KT.repl{H:Hp}{kvs:List (List Key×V)}{xs:List (List Key×Addr×Value)}(r:KT H kvs xs)(k:List Key){y:V}{u:Value}(ry:RelV y u) :
  KT H (kvs.map fun kv=>if kv.1=k then (kv.1,y)else kv) (xs.map (putAt k u)):=by
 induction r with
 | nil=>exact .nil
 | @cons p q ps qs h t ih=>
  rw[List.map_cons,List.map_cons];refine .cons ?_ ih;obtain⟨h1,h2,h3⟩:=h;unfold putAt;by_cases e:p.1=k
  ·rw[if_pos e,if_pos (h1.symm.trans e)];exact⟨h1,h2,ry⟩
  ·rw[if_neg e,if_neg (fun z=>e (h1.trans z))];exact⟨h1,h2,h3⟩
theorem KT.put{H:Hp}{kvs:List (List Key×V)}{xs:List (List Key×Addr×Value)}(r:KT H kvs xs)(k:List Key){b:Addr}{y:V}{u:Value}(hb:H b=some (.tup (k.map kV)))(ry:RelV y u) :
  KT H (putK kvs k y) (storedH xs k b u):=by
 have e:(kvs.any fun kv=>decide (kv.1=k))=(atKey xs k).isSome:=by
  rw[valV_any,(r.val k).isSome_eq,Option.isSome_map]
 unfold putK storedH;rw[e];by_cases q:(atKey xs k).isSome=true
 ·rw[if_pos q,if_pos q];exact r.repl k ry
 ·rw[if_neg q,if_neg q];exact Paired.snoc r ⟨rfl,hb,ry⟩
theorem KT.keeps{H H':Hp}{kvs:List (List Key×V)}{xs:List (List Key×Addr×Value)}(r:KT H kvs xs)(ht:∀b ys,H b=some (.tup ys)->H' b=some (.tup ys)):KT H' kvs xs:=
 Paired.mapP r fun _ _ z=>⟨z.1,ht _ _ z.2.1,z.2.2⟩
section
variable {P:Program}{w:World}{H:Hp}{h:Heap}{a:Addr}
theorem rd_of{u:HO}(ok:HOk P w H h)(e:Rd H a u):ObjOk P w H h a u:=e.ok ok
theorem dk_rd{kvs:List (Key×V)}(ok:HOk P w H h)(e:Rd H a (.dK kvs)):kvs.length<=sizeLine/\(a == sysModules)=false/\∃vs,KV kvs vs/\h.DictOf (mixKind P w) a vs:=
 show ObjOk P w H h a (.dK kvs)from rd_of ok e
theorem dk_of{kvs:List (Key×V)}(ok:HOk P w H h)(e:H a=some (.dK kvs)):kvs.length<=sizeLine/\(a == sysModules)=false/\∃vs,KV kvs vs/\h.DictOf (mixKind P w) a vs:=dk_rd ok (.inl e)
theorem key_of{ks:List Key}(ok:HOk P w H h)(e:H a=some (.tup (ks.map kV))):(tupleKind (mixKind P w)).is h ks a:=by
 obtain⟨_,its,r,o,h1,h2,n,h3⟩:=(show ObjOk P w H h a (.tup (ks.map kV))from ok a _ e);exact⟨o,its.toArray,n,h1,h2,h3,by simpa using items_are r⟩
theorem dt_rd{kvs:List (List Key×V)}(ok:HOk P w H h)(e:Rd H a (.dT kvs)):kvs.length<=sizeLine/\(a == sysModules)=false /\
  ∃xs,KT H kvs xs/\h.DictOfH (tupleKind (mixKind P w)) a xs:=by
 obtain⟨z,y,xs,r,o,es,ep,h1,h2,h3,h4,h5⟩:=(show ObjOk P w H h a (.dT kvs)from rd_of ok e);refine⟨z,y,xs,r,o,es,ep,h1,h2,h3,h4,fun x hx=>?_,h5⟩
 have all:∀ {l:List (List Key×V)} {m:List (List Key×Addr×Value)},KT H l m->∀x∈m,(tupleKind (mixKind P w)).is h x.1 x.2.1:=by
  intro l m q;induction q with
  | nil=>intro x hx;exact nomatch hx
  | @cons p q ps qs hq t ih=>
   intro x hx;rcases List.mem_cons.mp hx with e | hx
   ·subst e
    exact key_of ok (by rw[<-hq.1];exact hq.2.1)
   ·exact ih x hx
 exact all r x hx
theorem dt_of{kvs:List (List Key×V)}(ok:HOk P w H h)(e:H a=some (.dT kvs)):kvs.length<=sizeLine/\(a == sysModules)=false /\
  ∃xs,KT H kvs xs/\h.DictOfH (tupleKind (mixKind P w)) a xs:=dt_rd ok (.inl e)
end
def DGet(H:Hp)(a:Addr)(y:V)(r:Option V):Prop:=
 (∃kvs k,Rd H a (.dK kvs)/\y=kV k/\r=valV kvs k)\/∃kvs k b,Rd H a (.dT kvs)/\y=.ref b/\H b=some (.tup (k.map kV))/\r=valV kvs k
def DPut(H:Hp)(a:Addr)(y v:V)(H':Hp):Prop:=
 (∃kvs k,H a=some (.dK kvs)/\y=kV k/\kvs.length<sizeLine/\H'=upd H a (.dK (putK kvs k v))) \/
 ∃kvs k b,H a=some (.dT kvs)/\y=.ref b/\H b=some (.tup (k.map kV))/\kvs.length<sizeLine/\H'=upd H a (.dT (putK kvs k v))
theorem DGet.k{H:Hp}{a:Addr}{kvs:List (Key×V)}{k:Key}(e:H a=some (.dK kvs)):DGet H a (kV k) (valV kvs k):=.inl ⟨kvs,k,.inl e,rfl,rfl⟩
theorem DPut.k{H:Hp}{a:Addr}{kvs:List (Key×V)}{k:Key}{v:V}(e:H a=some (.dK kvs))(hl:kvs.length<sizeLine):DPut H a (kV k) v (upd H a (.dK (putK kvs k v))):=.inl ⟨kvs,k,e,rfl,hl,rfl⟩
section
variable {X:Cx}{pins:List (Addr×Obj)}{σ:St}{H:Hp}{s:Shared}{a:Addr}{y v:V}{u r:Value}{o:Option V}{A:Around}{E:Value->Shared->Prop}
theorem Inv.big(I:Inv X pins σ H s):sysModules<s.heap.objs.size:=by
 have h:mainGlobals<s.heap.objs.size:=(I.mod.glob.keeps I.bk).lt;exact Nat.lt_trans (by decide) h
theorem d_getItem{Q:Value->Shared->Prop}(hu:A.units+1<cLine)(I:Inv X pins σ H s)(g:DGet H a y (some v))(ry:RelV y u)(h:∀w' s',Inv X pins σ H s'->RelV v w'->Q w' s') :
  wpAny (model X.prog X.w) A (getItem (.ref a) u) Q E s:=by
 rcases g with ⟨kvs,k,e,ey,l⟩ | ⟨kvs,k,b,e,ey,eb,l⟩
 ·subst ey
  obtain⟨z,hd,vs,rel,dd⟩:=dk_rd I.hok e;obtain⟨w',hw,rw'⟩:=RelO.some_of (v:=v) (o:=valueAt vs k) (by rw[l];exact rel.val k);exact wpAny_getItem_of (kV_is ry) dd.mapOf hw (h w' _ (I.tok _) rw')
 ·subst ey
  cases (show u=Value.ref b from ry);obtain⟨z,hd,xs,rel,dd⟩:=dt_rd I.hok e;obtain⟨w',hw,rw'⟩:=RelO.some_of (v:=v) (o:=(atKey xs k).map (·.2)) (by rw[l];exact rel.val k);obtain⟨p,hp,hp2⟩:=Option.map_eq_some_iff.mp hw;refine wpAny_getItem_heap (tupleKind_room_in1 hu) (key_of I.hok eb) dd hp ?_;rw[hp2];exact h w' _ (I.tok _) rw'
theorem d_in{Q:Value->Shared->Prop}(hu:A.units+1<cLine)(I:Inv X pins σ H s)(g:DGet H a y o)(ry:RelV y u)(h:∀s',Inv X pins σ H s'->Q (.bool o.isSome) s') :
  wpAny (model X.prog X.w) A (compareOp .In u (.ref a)) Q E s:=by
 rcases g with ⟨kvs,k,e,ey,l⟩ | ⟨kvs,k,b,e,ey,eb,l⟩
 ·subst ey
  obtain⟨z,hd,vs,rel,dd⟩:=dk_rd I.hok e;refine wpAny_in_of (kV_is ry) hd dd.mapOf ?_;rw[<-(rel.val k).isSome_eq,<-l];exact h _ (I.tok _)
 ·subst ey
  cases (show u=Value.ref b from ry);obtain⟨z,hd,xs,rel,dd⟩:=dt_rd I.hok e;refine wpAny_in_heap (tupleKind_room_in1 hu) (key_of I.hok eb) hd dd ?_;have q:=(rel.val k).isSome_eq;rw[Option.isSome_map]at q;rw[<-q,<-l];exact h _ (I.tok _)
theorem d_notIn{Q:Value->Shared->Prop}(hu:A.units+1<cLine)(I:Inv X pins σ H s)(g:DGet H a y o)(ry:RelV y u)(h:∀s',Inv X pins σ H s'->Q (.bool (!o.isSome)) s') :
  wpAny (model X.prog X.w) A (compareOp .NotIn u (.ref a)) Q E s:=by
 rcases g with ⟨kvs,k,e,ey,l⟩ | ⟨kvs,k,b,e,ey,eb,l⟩
 ·subst ey
  obtain⟨z,hd,vs,rel,dd⟩:=dk_rd I.hok e;refine wpAny_notIn_of (kV_is ry) hd dd.mapOf ?_;rw[<-(rel.val k).isSome_eq,<-l];exact h _ (I.tok _)
 ·subst ey
  cases (show u=Value.ref b from ry);obtain⟨z,hd,xs,rel,dd⟩:=dt_rd I.hok e;refine wpAny_notIn_heap (tupleKind_room_in1 hu) (key_of I.hok eb) hd dd ?_;have q:=(rel.val k).isSome_eq;rw[Option.isSome_map]at q;rw[<-q,<-l];exact h _ (I.tok _)
theorem d_write{h':Heap}{t':Nat}{ob:HO}(I:Inv X pins σ H s)(mu:Mut (H a))(hs:Heap.SameBut a s.heap h')(he:∃q,h'.get? a=some q)(new:ObjOk X.prog X.w (upd H a ob) h' a ob) :
  Inv X pins σ (upd H a ob) { s with heap:=h',toks:=t' }:=
 I.write (x:=a) (e:=a) mu (.inl rfl) (fun b q hb z=>(hs.2 b hb).trans z) he new
theorem dk_new{P:Program}{w:World}{H':Hp}{h':Heap}{kvs:List (Key×V)}{vs:List (Key×Value)}(z:kvs.length<=sizeLine)(hd:(a == sysModules)=false)(rel:KV kvs vs)(dd:h'.DictOf (mixKind P w) a vs) :
  ObjOk P w H' h' a (.dK kvs):=⟨z,hd,vs,rel,dd⟩
theorem d_setItem{H':Hp}{Q:Unit->Shared->Prop}(hu:A.units+1<cLine)(I:Inv X pins σ H s)(g:DPut H a y v H')(ry:RelV y u)(rv:RelV v r)(h:∀s',Inv X pins σ H' s'->Q () s') :
  wpAny (model X.prog X.w) A (setItem (.ref a) u r) Q E s:=by
 rcases g with ⟨kvs,k,e,ey,l,eH⟩ | ⟨kvs,k,b,e,ey,eb,l,eH⟩
 ·subst ey eH
  obtain⟨z,hd,vs,rel,dd⟩:=dk_of I.hok e;have hz:vs.length<=sizeLine:=by rw[<-rel.length];exact z
  have hl:(putK kvs k v).length<=sizeLine:=by have:=length_putK kvs k v;omega
  refine wpAny_setItem_pairs (hsz:=hz) (kV_is ry) dd fun h' dd' hs=>h _ ?_
  have he:∃q,h'.get? a=some q:=let⟨q,_,_,hq,_⟩:=dd'; ⟨q,hq⟩
  exact d_write I (by rw[e];exact True.intro) hs he (dk_new hl hd (rel.put k rv) dd')
 ·subst ey eH
  cases (show u=Value.ref b from ry);obtain⟨z,hd,xs,rel,dd⟩:=dt_of I.hok e;have hz:xs.length<=sizeLine:=by rw[<-Paired.length rel];exact z
  have hl:(putK kvs k v).length<=sizeLine:=by have:=length_putK kvs k v;omega
  refine wpAny_setItem_heap (hsz:=hz) (tupleKind_room_in1 hu) (key_of I.hok eb) dd fun h' dd' hs=>h _ ?_
  obtain⟨q,es,ep,hq,h2,h3,h4,_,h5⟩:=dd';refine d_write I (by rw[e];exact True.intro) hs ⟨q,hq⟩ ⟨hl,hd,_,(rel.put k eb rv).keeps fun c ys ec=>?_,q,es,ep,hq,h2,h3,h4,h5⟩;rw[upd_ne (ne_of ec e (fun z=>nomatch z))];exact ec
end
section
variable {X:Cx}{pins:List (Addr×Obj)}{σ:St}{H:Hp}{s:Shared}{a:Addr}{kvs:List (Key×V)}{k:Key}{u:Value}{A:Around}{E:Value->Shared->Prop}
end
def NoSl(i:Expr):Prop:=∀ov iv,subscripted i false ov iv=operate [ov,iv] (getItem ov iv)
theorem subD_of{prog:Program}{w:World}{A:Around}{E:Value->Shared->Prop}{s:Shared}{env:Env}{value slice:Expr}{pos:Pos}{T id:String}{Q:Value->Shared->Prop}
  (hl:typeLookup (.type T) "__getitem__" = pure (some (.builtin id))) (hs:NoSl slice)
  (h:wpAny (model prog w) A (eval value env) (fun o s₁=>wpAny (model prog w) A (eval slice env) (fun i s₂=>s₂.TypeIs o T/\wpAny (model prog w) A (getItem o i) Q E s₂) E s₁) E s) :
  wpAny (model prog w) A (eval (.Subscript value slice pos) env) Q E s:=by
 refine Subscript_ (wpAny_mono h (fun o s₁ h₁=>wpAny_mono h₁ (fun i s₂ h₂=>?_) fun _ _ x=>x) fun _ _ x=>x);obtain⟨hT,h₂⟩:=h₂;unfold subscriptTail;refine wpAny_bind ?_;rw[getitemInPython_of_ne hT.not_modules];refine wpAny_bind (wpAny_specialOf hT hl ?_)
 have fin:wpAny (model prog w) A (subscripted slice false o i) (fun r s₃=>wpAny (model prog w) A (letTemporaryGo value o r >>= fun _=>pure r) Q E s₃) E s₂:=by
  rw[hs o i];exact wpAny_operating (wpAny_mono h₂ (fun r s₃ h₃=>wpAny_bind (wpAny_letTemporaryGo (wpAny_pure h₃))) fun _ _ x=>x)
 first
  | exact wpAny_pure (wpAny_bind fin)
  | exact wpAny_bind (wpAny_pure (wpAny_bind fin))
  | exact wpAny_bind fin
theorem dict_typeIs{X:Cx}{pins:List (Addr×Obj)}{σ:St}{H:Hp}{s:Shared}{a:Addr}{y:V}{o:Option V}(I:Inv X pins σ H s)(g:DGet H a y o):s.TypeIs (.ref a) "dict" := by
 rcases g with ⟨kvs,k,e,_,_⟩ | ⟨kvs,k,b,e,_,_,_⟩
 ·obtain⟨_,_,vs,_,dd⟩:=dk_rd I.hok e
  exact dd.typeIs
 ·obtain⟨_,_,xs,_,dd⟩:=dt_rd I.hok e
  exact dd.typeIs
def tDGet(td ty:TE):TE:=fun σ H Q=>td σ H fun x H1=>ty σ H1 fun y H2=>∃a v,x=.ref a/\DGet H2 a y (some v)/\Q v H2
def tDIn(ty td:TE):TE:=fun σ H Q=>ty σ H fun y H1=>td σ H1 fun x H2=>∃a o,x=.ref a/\DGet H2 a y o/\Q (.bl o.isSome) H2
def tDNotIn(ty td:TE):TE:=fun σ H Q=>ty σ H fun y H1=>td σ H1 fun x H2=>∃a o,x=.ref a/\DGet H2 a y o/\Q (.bl (!o.isSome)) H2
def sDPut(td ty tv:TE):TS:=fun D σ H=>tv σ H fun v H1=>td σ H1 fun x H2=>ty σ H2 fun y H3=>∃a H4,x=.ref a/\DPut H3 a y v H4/\D.nx σ H4
section
variable {X:Cx}{o i e value:Expr}{pos pos' tpos:Pos}{td ty tv:TE}
theorem pe_dget(hu:X.A.units+1<cLine)(ho:PE X o td)(hi:PE X i ty)(hs:NoSl i):PE X (.Subscript o i pos) (tDGet td ty):=by
 intro pins s σ H Q I h;refine subD_of PySem.F.slot_dict_getitem.lookup hs (thn (ho pins s σ H _ I h) fun u s1 ⟨x,H1,I1,rx,q1⟩=>thn (hi pins s1 σ H1 _ I1 q1) fun iv s2 ⟨y,H2,I2,ry,a,v,ex,g,q2⟩=>?_);subst ex;obtain rfl:u=Value.ref a:=rx;exact⟨dict_typeIs I2 g,d_getItem hu I2 g ry fun w' s3 I3 rw'=>⟨v,H2,I3,rw',q2⟩⟩
theorem pc_din(hu:X.A.units+1<cLine)(hi:PE X i ty)(ho:PE X o td):PC X .In i o (tDIn ty td):=by
 intro pins s σ H Q I h;refine thn (hi pins s σ H _ I h) fun iv s1 ⟨y,H1,I1,ry,q1⟩=>thn (ho pins s1 σ H1 _ I1 q1) fun u s2 ⟨x,H2,I2,rx,a,ov,ex,g,q2⟩=>?_
 subst ex;obtain rfl:u=Value.ref a:=rx;exact d_in hu I2 g ry fun s3 I3=>⟨.bl ov.isSome,H2,I3,rfl,q2⟩
theorem pc_dnotin(hu:X.A.units+1<cLine)(hi:PE X i ty)(ho:PE X o td):PC X .NotIn i o (tDNotIn ty td):=by
 intro pins s σ H Q I h;refine thn (hi pins s σ H _ I h) fun iv s1 ⟨y,H1,I1,ry,q1⟩=>thn (ho pins s1 σ H1 _ I1 q1) fun u s2 ⟨x,H2,I2,rx,a,ov,ex,g,q2⟩=>?_
 subst ex;obtain rfl:u=Value.ref a:=rx;exact d_notIn hu I2 g ry fun s3 I3=>⟨.bl (!ov.isSome),H2,I3,rfl,q2⟩
theorem ps_dput(hu:X.A.units+1<cLine)(ho:PE X o td)(hi:PE X i ty)(hv:PE X value tv)(hs:swapsWith value (some (.Subscript o i pos')) pos.line X.env=pure false) :
  PS X (.Assign [.Subscript o i pos'] value pos) (sDPut td ty tv):=by
 intro pins s σ H D I h;refine wpAny_Assign_Subscript (thn (hv pins s σ H _ I h) fun r s1 ⟨v,H1,I1,rv,q1⟩=>thn (ho pins s1 σ H1 _ I1 q1) fun u s2 ⟨x,H2,I2,rx,q2⟩=>thn (hi pins s2 σ H2 _ I2 q2) fun iv s3 ⟨y,H3,I3,ry,a,H4,ex,g,q3⟩=>?_) hs;subst ex;obtain rfl:u=Value.ref a:=rx;exact d_setItem hu I3 g ry rv fun s4 I4=>⟨σ,H4,I4,q3⟩
end
theorem dk_empty{P:Program}{w:World}{H:Hp}(h:Heap)(hb:sysModules<h.objs.size):ObjOk P w H (h.push { cls:=.type "dict", data:=.dict #[] }) h.objs.size (.dK []):=
 ⟨Nat.zero_le _,beq_eq_false_iff_ne.mpr (Ne.symm (Nat.ne_of_lt hb)),[],.nil,Heap.DictOf.new h⟩
def tDNewK:TE:=fun _ H Q=>∀p,H p=none->Q (.ref p) (upd H p (.dK []))
section
variable {X:Cx}{pos:Pos}
theorem pe_dnewK:PE X (.Dict [] [] pos) tDNewK:=fun pins s σ H Q I h=>
 wpAny_Dict_empty ⟨.ref s.heap.objs.size,_,I.laid (a:=s.heap.objs.size) (o:=.dK []) (t':=s.toks) (fun _ _ q=>Heap.get?_push_of_some _ q) (Nat.le_refl _) (dk_empty s.heap I.big),rfl,h _ (I.hok.fresh (Nat.le_refl _))⟩
end
def tPairs:List (TE×TE)->St->Hp->(List (V×V)->Hp->Prop)->Prop
 | [],_,H,Q=>Q [] H
 | (tk,tv)::r,σ,H,Q=>tk σ H fun x H1=>tv σ H1 fun y H2=>tPairs r σ H2 fun ps H3=>Q ((x,y)::ps) H3
abbrev VV:List (V×V)->List (Value×Value)->Prop:=Paired fun p q=>RelV p.1 q.1/\RelV p.2 q.2
def PPs(X:Cx)(pos:Pos)(keys:List (Option Expr))(values:List Expr)(trs:List (TE×TE)):Prop:=
 ∀(pins:List (Addr×Obj)) (s:Shared) (σ:St) (H:Hp) (Q:List (V×V)->Hp->Prop),Inv X pins σ H s->tPairs trs σ H Q ->
  wpAny (model X.prog X.w) X.A (evalPairs (pairTrees keys values X.env pos)) (fun vs s'=>∃ps H',Inv X pins σ H' s'/\VV ps vs/\Q ps H') X.xe s
theorem pps_nil{X:Cx}{pos:Pos}:PPs X pos [] [] []:=fun pins s σ H Q I h=>pairTrees_nil_walk ⟨[],H,I,.nil,h⟩
theorem pps_cons{X:Cx}{pos:Pos}{k v:Expr}{ks:List (Option Expr)}{vs:List Expr}{tk tv:TE}{trs:List (TE×TE)}(hk:PE X k tk)(hv:PE X v tv)(hr:PPs X pos ks vs trs) :
  PPs X pos (some k::ks) (v::vs) ((tk,tv)::trs):=fun pins s σ H Q I h=>
 pairTrees_cons_walk (thn (hk pins s σ H _ I h) fun u s1 ⟨x,H1,I1,rx,q1⟩=>thn (hv pins s1 σ H1 _ I1 q1) fun w2 s2 ⟨y,H2,I2,ry,q2⟩=>
  thn (hr pins s2 σ H2 _ I2 q2) fun ws s3 ⟨ps,H3,I3,rel,q3⟩=>⟨(x,y)::ps,H3,I3,.cons ⟨rx,ry⟩ rel,q3⟩)
def mergeK(kvs more:List (Key×V)):List (Key×V):=more.foldl (fun acc kv=>putK acc kv.1 kv.2) kvs
theorem KV.merge:∀ {more:List (Key×V)} {rs:List (Key×Value)} {kvs:List (Key×V)} {vs:List (Key×Value)},KV more rs->KV kvs vs->KV (mergeK kvs more) (merged vs rs):=by
 intro more rs kvs vs r;unfold KV at r;induction r generalizing kvs vs with
 | nil=>intro q;exact q
 | @cons p q ps qs h t ih=>
  intro r0
  have e:KV (putK kvs p.1 p.2) (stored vs q.1 q.2):=by
   have:=r0.put p.1 h.2;rw[<-h.1];exact this
  exact ih e
theorem length_mergeK:∀(more kvs:List (Key×V)),(mergeK kvs more).length<=kvs.length+more.length
 | [],kvs=>by show kvs.length<=kvs.length+0;omega
 | p::r,kvs=>by
  have h1:=length_mergeK r (putK kvs p.1 p.2);have h2:=length_putK kvs p.1 p.2;show(mergeK (putK kvs p.1 p.2) r).length<=_;rw[List.length_cons];omega
theorem carries_of{P:Program}{w:World}:∀ {kvs:List (Key×V)} {ws:List (Value×Value)},VV (kvs.map fun kv=>(kV kv.1,kv.2)) ws->∃rs,Carries (mixKind P w) ws rs/\KV kvs rs
 | [],_,r=>by rw[List.map_nil]at r;cases r;exact⟨[],True.intro,.nil⟩
 | p::kvs,_,r=>by
  rw[List.map_cons]at r;cases r with
  | @cons a b as bs h t=>
   obtain⟨rs,c,q⟩:=carries_of (P:=P) (w:=w) t;obtain⟨b1,b2⟩:=b;exact⟨(p.1,b2)::rs,⟨kV_is h.1,rfl,c⟩,.cons ⟨rfl,h.2⟩ q⟩
def tDisp(trs:List (TE×TE)):TE:=fun σ H Q=>∀p,H p=none->tPairs trs σ (upd H p (.dK [])) fun ps H2=>H2 p=some (.dK [])/\∃kvs:List (Key×V),ps=kvs.map (fun kv=>(kV kv.1,kv.2))/\kvs.length<=15/\Q (.ref p) (upd H2 p (.dK (mergeK [] kvs)))
theorem pe_disp{X:Cx}{pos:Pos}{keys:List (Option Expr)}{values:List Expr}{trs:List (TE×TE)}(h:PPs X pos keys values trs)(hall:keys.all (·.isSome)=true)(hl:keys.length=values.length)(h0:keys≠[])
  (h15:keys.length<=15):PE X (.Dict keys values pos) (tDisp trs):=by
 intro pins s σ H Q I q;have hn:=I.hok.fresh (Nat.le_refl s.heap.objs.size);have I1:=I.laid (a:=s.heap.objs.size) (o:=.dK []) (h':=s.heap.push { cls:=.type "dict", data:=.dict #[] }) (t':=s.toks) (fun _ _ q=>Heap.get?_push_of_some _ q) (Nat.le_refl _) (dk_empty s.heap I.big);refine wpAny_Dict_walk (knd:=mixKind X.prog X.w) hall hl h0 h15 (thn (h pins _ σ _ _ I1 (q _ hn)) fun ws s2 ⟨ps,H2,I2,rel,e,kvs,ep,lk,q2⟩=>?_);subst ep;obtain⟨rs,c,rk⟩:=carries_of (P:=X.prog) (w:=X.w) rel;obtain⟨z,hd,vs0,r0,dd⟩:=dk_of I2.hok e;cases r0;refine⟨rs,c,dd,fun h' dd' hs=>⟨.ref s.heap.objs.size,_,?_,rfl,q2⟩⟩
 have hz:(mergeK [] kvs).length<=sizeLine:=by
  have h1:=length_mergeK kvs [];rw[List.length_nil]at h1;rw[sizeLine_eq];omega
 have he:∃q,h'.get? s.heap.objs.size=some q:=let⟨q,_,_,hq,_⟩:=dd'; ⟨q,hq⟩
 exact d_write I2 (by rw[e];exact True.intro) hs he (dk_new hz hd (rk.merge .nil) dd')
structure M1(X:Cx)(o:Expr)(m:Str)(apos:Pos)(e:Expr)(cpos:Pos):Prop where
 base:attributeBase o m X.env (eval o X.env)=eval o X.env
 few:((backTo cpos (starEach [e] X.env)).all (fun x => !x.1)&&(backToKw cpos (keywordEach [] X.env)).all (fun x=>x.1.isSome)
  && decide (([e]:List Expr).length+([]:List Keyword).length+(if([]:List Keyword).isEmpty then 0 else 1)<30))=true
 line:(apos.endLine == cpos.line)=true
 trees:backTo cpos (starEach [e] X.env)=[(false,eval e X.env)]
structure M2(X:Cx)(o:Expr)(m:Str)(apos:Pos)(e f:Expr)(cpos:Pos):Prop where
 base:attributeBase o m X.env (eval o X.env)=eval o X.env
 few:((backTo cpos (starEach [e,f] X.env)).all (fun x => !x.1)&&(backToKw cpos (keywordEach [] X.env)).all (fun x=>x.1.isSome)
  && decide (([e,f]:List Expr).length+([]:List Keyword).length+(if([]:List Keyword).isEmpty then 0 else 1)<30))=true
 line:(apos.endLine == cpos.line)=true
 trees:backTo cpos (starEach [e,f] X.env)=[(false,eval e X.env),(false,eval f X.env)]
section
variable {X:Cx}{pins:List (Addr×Obj)}{σ:St}{H:Hp}{s:Shared}{a:Addr}{y d:V}{u r:Value}{o:Option V}{A:Around}{E:Value->Shared->Prop}
end
section
variable {X:Cx}{o e f:Expr}{apos cpos:Pos}{td ty tx:TE}
end
section
variable {X:Cx}{pins:List (Addr×Obj)}{σ:St}{H:Hp}{s:Shared}{a:Addr}{kvs:List (Key×V)}{A:Around}{E:Value->Shared->Prop}
end
section
variable {X:Cx}{pins:List (Addr×Obj)}{σ:St}{H:Hp}{s:Shared}{a:Addr}{y:V}{u:Value}{A:Around}{E:Value->Shared->Prop}
end
end L2
namespace HT
open PySem PyProof.Rows
section
open PySem.SeqAt
open PySem.AutoSeq1 (wpAny_loadPart')
open PySem.MeetsSeq PySem.MeetsSeq2 PySem.MeetsSeq3
end
section
variable {prog:Program}{w:World}{A:Around}{E:Value->Shared->Prop}{s:Shared}
def sIx(n d:Nat):Option Int->Nat
 | none=>d
 | some v=>if v<0 then (v+(n:Int)).toNat else min v.toNat n
theorem sIx_nat(n d k:Nat):sIx n d (some (k:Int))=min k n:=by
 show(if(k:Int)<0 then ((k:Int)+(n:Int)).toNat else min (k:Int).toNat n)=min k n;rw[if_neg (by omega),Int.toNat_natCast]
theorem sIx_le(n d:Nat)(hd:d<=n)(o:Option Int):sIx n d o<=n:=by
 cases o with
 | none=>exact hd
 | some v=>
  show(if v<0 then (v+(n:Int)).toNat else min v.toNat n)<=n;by_cases hv:v<0
  ·rw[if_pos hv];omega
  ·rw[if_neg hv];exact Nat.min_le_right _ _
theorem clip_eq(v:Int)(n d:Nat):(if v<0 then max (v+(n:Int)) 0 else min v (n:Int))=((sIx n d (some v):Nat):Int):=by
 show(if v<0 then max (v+(n:Int)) 0 else min v (n:Int))=(((if v<0 then (v+(n:Int)).toNat else min v.toNat n):Nat):Int);by_cases hv:v<0
 ·simp only[if_pos hv];omega
 ·simp only[if_neg hv];omega
theorem adjust_gen(lo hi:Option Int)(n:Nat):Builtin.Slice.sliceAdjust lo hi 1 (n:Int)=(((sIx n 0 lo:Nat):Int),((sIx n n hi:Nat):Int)):=by
 have h1:¬((1:Int)<0):=by omega
 unfold Builtin.Slice.sliceAdjust;simp only[h1,if_false];refine Prod.ext ?_ ?_
 ·cases lo with
  | none=>rfl
  | some v=>exact clip_eq v n 0
 ·cases hi with
  | none=>rfl
  | some v=>exact clip_eq v n n
theorem places_gen(i j:Nat):Builtin.Slice.slicePlaces (i:Int) (j:Int) 1=j - i:=by
 unfold Builtin.Slice.slicePlaces;have h1:(1:Int) > 0:=by omega
 simp only[h1,if_true,Int.ediv_one];split <;> omega
theorem slicePart_{v:Value}{o:Option Int}{Q:Option Int->Shared->Prop}(p:IsPart v o)(h:Q o s):wpAny (model prog w) A (Builtin.Slice.slicePartIndex v) Q E s:=by
 cases p with
 | none=>exact slicePart_none h
 | int i t=>exact slicePart_int h
theorem sliceApplied_gen{sl:Addr}{vl vu:Value}{lo hi:Option Int}{n:Nat}{Q:Int×Int×Nat->Shared->Prop}(hs:s.heap.IsSliceOf sl vl vu .none)(pl:IsPart vl lo)(pu:IsPart vu hi)
  (h:Q (((sIx n 0 lo:Nat):Int),1,sIx n n hi - sIx n 0 lo) s):wpAny (model prog w) A (Builtin.Slice.sliceApplied (.ref sl) (pure (n:Int))) Q E s:=by
 obtain⟨os,hos,hcs,hds⟩:=id hs;unfold Builtin.Slice.sliceApplied Builtin.Slice.sliceFields;refine wpAny_bind (wpAny_bind (wpAny_field hos hds (x:=vl) rfl (wpAny_bind (wpAny_field hos hds (x:=vu) rfl (wpAny_bind (wpAny_field hos hds (x:=.none) rfl (wpAny_pure ?_)))))));refine wpAny_bind (slicePart_none ?_);show wpAny _ _ (if((1:Int) == 0)=true then _ else _) _ _ s;rw[if_neg (by decide)];refine wpAny_bind (slicePart_ pl (wpAny_bind (slicePart_ pu (wpAny_bind (wpAny_pure ?_)))));show wpAny _ _ (match Builtin.Slice.sliceAdjust lo hi 1 (n:Int)with | (lo,hi)=>pure (lo,(1:Int),Builtin.Slice.slicePlaces lo hi 1)) _ _ s;rw[adjust_gen lo hi n];show wpAny _ _ (pure (((sIx n 0 lo:Nat):Int),(1:Int),Builtin.Slice.slicePlaces ((sIx n 0 lo:Nat):Int) ((sIx n n hi:Nat):Int) 1)) _ _ s;rw[places_gen];exact wpAny_pure h
theorem pick_gen(xs:Array Value)(i k:Nat):((List.range k).filterMap fun(m:Nat)=>xs[((i:Int)+(m:Int) * 1).toNat]?).toArray=((xs.toList.drop i).take k).toArray:=by
 have e:(fun(m:Nat)=>xs[((i:Int)+(m:Int) * 1).toNat]?)=fun m=>xs[i+m]?:=by
  funext m;have:((i:Int)+(m:Int) * 1).toNat=i+m:=by omega
  rw[this]
 rw[e];have:=pick_run xs i k;rw[List.filterMap_map]at this;have e2:((fun x=>xs[x]?) ∘ fun x=>i+x)=fun m=>xs[i+m]?:=rfl
 rw[e2]at this;rw[this]
theorem getItem_tuple_cut{t sl:Addr}{items:Array Value}{vl vu:Value}{lo hi:Option Int}{Q:Value->Shared->Prop}(ht:IsTup s.heap t items)(hs:s.heap.IsSliceOf sl vl vu .none)(pl:IsPart vl lo)(pu:IsPart vu hi)
  (hw:¬(sIx items.size 0 lo=0/\sIx items.size items.size hi=items.size))
  (h:Q (.ref s.heap.objs.size) { s with heap:=s.heap.push { cls:=.type "tuple", data:=.seq ((items.toList.drop (sIx items.size 0 lo)).take (sIx items.size items.size hi - sIx items.size 0 lo)).toArray } })
  (hsz:items.size<=sizeLine):wpAny (model prog w) A (getItem (.ref t) (.ref sl)) Q E s:=by
 have htake:sizeOk (.seq ((items.toList.drop (sIx items.size 0 lo)).take (sIx items.size items.size hi - sIx items.size 0 lo)).toArray):=by
  show((items.toList.drop (sIx items.size 0 lo)).take (sIx items.size items.size hi - sIx items.size 0 lo)).toArray.size<=sizeLine;rw[List.size_toArray,List.length_take,List.length_drop,Array.length_toList];omega
 have hj:sIx items.size items.size hi<=items.size:=sIx_le _ _ (Nat.le_refl _) hi;obtain⟨os,hos,hcs,hds⟩:=id hs;have hTs:s.TypeIs (.ref sl) "slice" := ⟨os,hos,hcs⟩;unfold getItem
 try with_reducible refine wpAny_holding ?_
 first | refine wpAny_bind (wpAny_pure ?_) | skip
 refine wpAny_bind (wpAny_sequenceKey ht.typeIs (by decide) ?_)
 refine wpAny_bind (wpAny_callSpecial?_slot (name:=Str.ofString "__getitem__") ht.typeIs PyProof.Rows.slot_tuple_getitem
  (wpAny_call_entry PyProof.Rows.slot_tuple_getitem ht.typeIs entry_tuple_getitem ?_ (args_tuple_getitem _ _)))
 show wpAny _ _ (Builtin.Tuple.tupleItemsOf (.ref t) >>= _) _ _ s;refine wpAny_bind (tupleItemsOf_ ht ?_);refine wpAny_bind (wpAny_typeOf hTs ?_);rw[if_pos (by decide)];refine wpAny_bind (sliceApplied_gen hs pl pu ?_)
 have hno:¬((((sIx items.size 0 lo:Nat):Int) == 0&&(1:Int) == 1&&(sIx items.size items.size hi - sIx items.size 0 lo) == items.size)=true):=by
  intro q;rw[Bool.and_eq_true,Bool.and_eq_true]at q;have q1:((sIx items.size 0 lo:Nat):Int)=0:=eq_of_beq q.1.1;have q2:sIx items.size items.size hi - sIx items.size 0 lo=items.size:=eq_of_beq q.2;exact hw ⟨by omega,by omega⟩
 show wpAny _ _ (if(((sIx items.size 0 lo:Nat):Int) == 0&&(1:Int) == 1&&(sIx items.size items.size hi - sIx items.size 0 lo) == items.size)=true then _ else _) _ _ s;rw[if_neg hno,pick_gen]
 first
  | exact wpAny_bind (m:=Builtin.Tuple.tupleExact _) (wpAny_newObj_type (wpAny_pure ⟨_,rfl,wpAny_pure h⟩) htake)
  | exact wpAny_bind (m:=Builtin.Tuple.tupleExact _) (wpAny_newObj_type (wpAny_bind (wpAny_pure (wpAny_pure ⟨_,rfl,wpAny_pure h⟩))) htake)
  | exact wpAny_bind (wpAny_bind (m:=Builtin.Tuple.tupleExact _) (wpAny_newObj_type (wpAny_pure (wpAny_pure ⟨_,rfl,wpAny_pure h⟩)) htake))
  | exact wpAny_bind (wpAny_bind (m:=Builtin.Tuple.tupleExact _) (wpAny_newObj_type (wpAny_pure ⟨_,rfl,wpAny_pure h⟩) htake))
end
end HT
namespace L2
open PySem PySem.Spec PyProof.Rows
abbrev TO:=St->Hp->(Option Int->Hp->Prop)->Prop
def PO(X:Cx)(e:Option Expr)(t:TO):Prop:=
 ∀(pins:List (Addr×Obj)) (s:Shared) (σ:St) (H:Hp) (Q:Option Int->Hp->Prop),Inv X pins σ H s->t σ H Q ->
  wpAny (model X.prog X.w) X.A (evalPart e X.env) (fun u s'=>∃o H',Inv X pins σ H' s'/\IsPart u o/\Q o H') X.xe s
def tNoPart:TO:=fun _ H Q=>Q none H
def tPart(t:TE):TO:=fun σ H Q=>t σ H fun x H1=>∃i,x=.int i/\Q (some i) H1
section
variable {X:Cx}{e:Expr}{te:TE}{lo hi:Option Expr}{tl th:TO}{pos p2:Pos}
theorem po_none:PO X none tNoPart:=by
 intro pins s σ H Q I h;rw[evalPart_none];exact wpAny_pure ⟨none,H,I,.none,h⟩
theorem po_some(h:PE X e te):PO X (some e) (tPart te):=by
 intro pins s σ H Q I hw;rw[evalPart_some];refine thn (h pins s σ H _ I hw) fun u s1 ⟨x,H1,I1,r1,q1⟩=>?_
 obtain⟨i,rfl,q⟩:=q1;obtain⟨t,rfl⟩:=r1;exact⟨some i,H1,I1,.int i t,q⟩
def SlR(X:Cx)(r:V->Option Int->Option Int->Hp->VK->Prop):Prop:=
 ∀(pins:List (Addr×Obj)) (s:Shared) (σ:St) (H:Hp) (x:V) (v vl vu:Value) (lo hi:Option Int) (sl:Addr) (Q:VK),Inv X pins σ H s->RelV x v->s.heap.IsSliceOf sl vl vu .none->IsPart vl lo->IsPart vu hi->r x lo hi H Q ->
  ∃T id,typeLookup (.type T) "__getitem__" = pure (some (.builtin id))/\s.TypeIs v T/\wpAny (model X.prog X.w) X.A (getItem v (.ref sl)) (EP X pins σ Q) X.xe s
theorem SlR.or{r r':V->Option Int->Option Int->Hp->VK->Prop}(h:SlR X r)(h':SlR X r'):SlR X (fun x lo hi H Q=>r x lo hi H Q\/r' x lo hi H Q):=by
 intro pins s σ H x v vl vu lo hi sl Q I rx hs pl pu q;rcases q with q | q
 ·exact h pins s σ H x v vl vu lo hi sl Q I rx hs pl pu q
 ·exact h' pins s σ H x v vl vu lo hi sl Q I rx hs pl pu q
def tSl(r:V->Option Int->Option Int->Hp->VK->Prop)(te:TE)(tl th:TO):TE:=fun σ H Q=>te σ H fun x H1=>tl σ H1 fun l H2=>th σ H2 fun u H3=>r x l u H3 Q
theorem pe_slice{r:V->Option Int->Option Int->Hp->VK->Prop}(hr:SlR X r)(he:PE X e te)(hl:PO X lo tl)(hu:PO X hi th):PE X (.Subscript e (.Slice lo hi none p2) pos) (tSl r te tl th):=by
 intro pins s σ H Q I h;refine Subscript_ (thn (he pins s σ H _ I h) fun v s1 ⟨x,H1,I1,r1,q1⟩=>?_);refine wpAny_Slice (thn (hl pins s1 σ H1 _ I1 q1) fun vl s2 ⟨l,H2,I2,pl,q2⟩=>thn (hu pins s2 σ H2 _ I2 q2) fun vu s3 ⟨u,H3,I3,pu,q3⟩=>?_);rw[evalPart_none];refine wpAny_pure ?_;have I4:Inv X pins σ H3 { s3 with heap:=s3.heap.push { cls:=.type "slice", data:=.fields #[vl,vu,.none] } }:=I3.kept (t':=s3.toks) fun b ob q=>Heap.get?_push_of_some _ q
 obtain⟨T,id,hT,ht,hg⟩:=hr pins { s3 with heap:=s3.heap.push { cls:=.type "slice", data:=.fields #[vl,vu,.none] } } σ H3 x v vl vu l u s3.heap.objs.size Q I4 r1 (Heap.IsSliceOf.new ..) pl pu q3;show wpAny (model X.prog X.w) X.A (subscriptTail e (.Slice lo hi none p2) v (.ref s3.heap.objs.size)) (EP X pins σ Q) X.xe { s3 with heap:=s3.heap.push { cls:=.type "slice", data:=.fields #[vl,vu,.none] } };exact tail_any (ops:=[.ref s3.heap.objs.size,v]) ht hT hg (by with_unfolding_all rfl)
def cutV(xs:List V)(lo hi:Option Int):List V:=(xs.drop (HT.sIx xs.length 0 lo)).take (HT.sIx xs.length xs.length hi - HT.sIx xs.length 0 lo)
theorem cutV_length(xs:List V)(lo hi:Option Int):(cutV xs lo hi).length<=xs.length:=by
 unfold cutV;rw[List.length_take,List.length_drop];omega
def rSlT(K:PySem.W.Frag):V->Option Int->Option Int->Hp->VK->Prop:=fun x lo hi H Q=>∃a xs,x=.ref a/\SqT K H a xs /\
 ¬(HT.sIx xs.length 0 lo=0/\HT.sIx xs.length xs.length hi=xs.length)/\∀p,H p=none->Q (.ref p) (upd H p (.tup (cutV xs lo hi)))
theorem sl_tup:SlR X (rSlT X.K):=by
 intro pins s σ H x v vl vu lo hi sl Q I rx hs pl pu h;obtain⟨a,xs,rfl,hx,hw,q⟩:=h;cases rx;obtain⟨its,r,ht,hz⟩:=I.tuple hx;have hlen:its.toArray.size=xs.length:=by rw[List.size_toArray];exact r.length.symm
 refine⟨"tuple", _,PyProof.Rows.slot_tuple_getitem.lookup,ht.typeIs,?_⟩;refine HT.getItem_tuple_cut ht hs pl pu (by rw[hlen];exact hw) ?_ (by rw[hlen];exact hz);rw[hlen];refine⟨.ref s.heap.objs.size,_,I.laid (t':=s.toks) (o:=.tup (cutV xs lo hi)) (fun b ob q=>Heap.get?_push_of_some _ q) (Nat.le_refl _) ?_,rfl,q _ (I.hok.fresh (Nat.le_refl _))⟩;exact⟨Nat.le_trans (cutV_length xs lo hi) hz,_,(r.drop (HT.sIx xs.length 0 lo)).take (HT.sIx xs.length xs.length hi - HT.sIx xs.length 0 lo),IsTup.new _ _⟩
end
end L2
namespace L2
open PySem PySem.Spec PyProof.Rows
def ixN(n:Nat)(i:Int):Option Nat:=if 0<=i then (if i<n then some i.toNat else none)else if -(n:Int)<=i then some (i+n).toNat else none
def atI{α:Type}(xs:List α)(i:Int):Option α:=(ixN xs.length i).bind fun j=>xs[j]?
theorem ixN_seq{n:Nat}{i:Int}{j:Nat}(h:ixN n i=some j):seqIndex? i n=some j/\j<n /\ -(n:Int)<=i/\i<n:=by
 unfold ixN at h;by_cases h0:0<=i
 ·rw[if_pos h0]at h
  by_cases h1:i<n
  ·rw[if_pos h1]at h
   have e:i.toNat=j:=Option.some.inj h;exact⟨by rw[seqIndex_of h0 h1,e],by omega,by omega,h1⟩
  ·rw[if_neg h1]at h;cases h
 ·rw[if_neg h0]at h
  by_cases h1 : -(n:Int)<=i
  ·rw[if_pos h1]at h
   have e:(i+n).toNat=j:=Option.some.inj h;exact⟨by rw[seqIndex_neg (by omega) h1,e],by omega,h1,by omega⟩
  ·rw[if_neg h1]at h;cases h
theorem atI_get{α:Type}{xs:List α}{i:Int}{v:α}(h:atI xs i=some v):∃j,seqIndex? i xs.length=some j/\xs[j]? = some v/\j<xs.length /\ -(xs.length:Int)<=i/\i<xs.length:=by
 unfold atI at h;cases e:ixN xs.length i with
 | none=>rw[e]at h;cases h
 | some j=>
  rw[e]at h;obtain⟨h1,h2,h3,h4⟩:=ixN_seq e;exact⟨j,h1,h,h2,h3,h4⟩
theorem atI_nat{α:Type}{xs:List α}{j:Nat}{v:α}(h:xs[j]? = some v):atI xs (j:Int)=some v:=by
 have hj:j<xs.length:=(List.getElem?_eq_some_iff.mp h).1
 have e:ixN xs.length (j:Int)=some j:=by
  unfold ixN;rw[if_pos (by omega),if_pos (by omega)];simp
 unfold atI;rw[e];exact h
def PlainIx(b:Expr):Prop:=∀o i,subscripted b false o i=operate [o,i] (getItem o i)
def IxR(X:Cx)(r:R2):Prop:=
 ∀(value slice:Expr) (pins:List (Addr×Obj)) (s:Shared) (σ:St) (H:Hp) (x y:V) (v u:Value) (Q:VK),Inv X pins σ H s->RelV x v->RelV y u->r x y H Q ->
  subscripted slice false v u=operate [v,u] (getItem v u)->wpAny (model X.prog X.w) X.A (subscriptTail value slice v u) (EP X pins σ Q) X.xe s
def MtR(X:Cx)(id:String)(r:V->List V->Hp->VK->Prop):Prop:=
 ∀(pins:List (Addr×Obj)) (s:Shared) (σ:St) (H:Hp) (x:V) (xs:List V) (v:Value) (us:List Value) (Q:VK),Inv X pins σ H s->RelV x v->Vals xs us->r x xs H Q ->
  wpAny (model X.prog X.w) X.A (call (.builtin id) (v::us)) (EP X pins σ Q) X.xe s
section
variable {X:Cx}{a b:Expr}{ta tb:TE}{pos:Pos}
theorem IxR.or{r r':R2}(h:IxR X r)(h':IxR X r'):IxR X (fun x y H Q=>r x y H Q\/r' x y H Q):=by
 intro value slice pins s σ H x y v u Q I rx ry q hs;rcases q with q | q
 ·exact h value slice pins s σ H x y v u Q I rx ry q hs
 ·exact h' value slice pins s σ H x y v u Q I rx ry q hs
theorem pe_ix{r:R2}(hr:IxR X r)(ha:PE X a ta)(hb:PE X b tb)(hs:PlainIx b):PE X (.Subscript a b pos) (tOp r ta tb):=by
 intro pins s σ H Q I h;exact Subscript_ (binT ha hb I h fun v u s2 x y H2 I2 rx ry q=>hr a b pins s2 σ H2 x y v u Q I2 rx ry q (hs _ _))
def rIxL(K:PySem.W.Frag):R2:=fun x y H Q=>∃p xs i v,x=.ref p/\y=.int i/\SqL K H p xs/\atI xs i=some v/\Q v H
def rIxT(K:PySem.W.Frag):R2:=fun x y H Q=>∃p xs i v,x=.ref p/\y=.int i/\SqT K H p xs/\atI xs i=some v/\Q v H
def rIxS:R2:=fun x y H Q=>∃z i c,x=.str z/\y=.int i/\z.length<=sizeLine/\atI z.cps.toList i=some c/\Q (.str ⟨#[c]⟩) H
theorem ix_list:IxR X (rIxL X.K):=by
 intro value slice pins s σ H x y v u Q I rx ry h hs;obtain⟨p,xs,i,z,rfl,rfl,hq,he,q⟩:=h;cases rx;obtain⟨t,rfl⟩:=ry;obtain⟨its,r,pl,hz⟩:=I.list hq;obtain⟨j,h1,h2,h3,h4,h5⟩:=atI_get he;obtain⟨w,ew,rw'⟩:=r.get h2;have hl:=r.length;have hn:=line63;have fin:EP X pins σ Q w s:=⟨z,H,I,rw',q⟩;by_cases h0:0<=i
 ·have hj:i.toNat=j:=by
   rw[seqIndex_of h0 h5]at h1;exact Option.some.inj h1
  exact item_listR pl.isList h0 (by omega) (by rw[hj];simpa using ew) fin hs
 ·have hj:(i+(its.toArray.size:Int)).toNat=j:=by
   rw[seqIndex_neg (by omega) h4]at h1;rw[List.size_toArray,<-hl];exact Option.some.inj h1
  exact subscriptTail_builtinR (x:=w) pl.isList.typeIs slot_list_getitem.lookup
   (wpAny_getItem_list_neg (Q:=fun r s'=>r=w/\EP X pins σ Q r s') pl.isList (by omega) (by rw[List.size_toArray] <;> omega) (by omega) (by rw[hj];simpa using ew) ⟨rfl,fin⟩) hs
theorem ix_tup:IxR X (rIxT X.K):=by
 intro value slice pins s σ H x y v u Q I rx ry h hs;obtain⟨p,xs,i,z,rfl,rfl,hq,he,q⟩:=h;cases rx;obtain⟨t,rfl⟩:=ry;obtain⟨its,r,pl,hz⟩:=I.tuple hq;obtain⟨j,h1,h2,h3,h4,h5⟩:=atI_get he;obtain⟨w,ew,rw'⟩:=r.get h2;have hl:=r.length;have hn:=line63;have fin:EP X pins σ Q w s:=⟨z,H,I,rw',q⟩
 exact subscriptTail_builtinR (x:=w) pl.typeIs slot_tuple_getitem.lookup
  (getItem_tuple (j:=j) (Q:=fun r s'=>r=w/\EP X pins σ Q r s') pl (by omega) (by omega) (by rw[List.size_toArray,<-hl];exact h1) (by simpa using ew) ⟨rfl,fin⟩) hs
theorem ix_str:IxR X rIxS:=by
 intro value slice pins s σ H x y v u Q I rx ry h hs;obtain⟨z,i,c,rfl,rfl,hz,he,q⟩:=h;obtain⟨t,rfl⟩:=rx;obtain⟨t',rfl⟩:=ry;obtain⟨j,h1,h2,h3,h4,h5⟩:=atI_get he;have hl:z.cps.toList.length=z.length:=by simp[Str.length]
 rw[hl]at h1 h4 h5;have hn:=line63
 exact tail_any (typeIs_str s z t) slot_str_getitem.lookup (getItem_str (c:=c) (by
  have e1:decide (i < -(2 ^ 63:Int))=false:=decide_eq_false (by omega);have e2:decide (i ≥ 2 ^ 63)=false:=decide_eq_false (by omega);rw[e1,e2,Bool.or_false]) (by rw[h1];simpa using h2) ⟨.str ⟨#[c]⟩,H,I.tok _,⟨_,rfl⟩,q⟩) hs
def rIx(K:PySem.W.Frag):R2:=fun x y H Q=>rIxL K x y H Q\/rIxT K x y H Q\/rIxS x y H Q
theorem ix_seq:IxR X (rIx X.K):=ix_list.or (ix_tup.or ix_str)
theorem mapSeq_set(its:List Value)(n j:Nat)(u:Value):Obj.mapSeq (·.setIfInBounds j u) { cls:=.type "list", data:=.seq its.toArray n }={ cls:=.type "list", data:=.seq (its.set j u).toArray n }:=by
 simp[Obj.mapSeq]
theorem Inv.lst{pins:List (Addr×Obj)}{σ:St}{H:Hp}{s:Shared}{p:Addr}{xs:List V}(I:Inv X pins σ H s)(h:H p=some (.lst xs)) :
  ∃(its:List Value) (n:Nat),Vals xs its/\s.heap.get? p=some { cls:=.type "list", data:=.seq its.toArray n }/\xs.length<=sizeLine:=by
 obtain⟨z,its,n,r,e⟩:=I.hok p _ h;exact⟨its,n,r,e,z⟩
theorem Inv.lstUpd{pins:List (Addr×Obj)}{σ:St}{H:Hp}{s:Shared}{p:Addr}{xs ys:List V}{its its':List Value}{n n':Nat}{f:Obj->Obj}(I:Inv X pins σ H s)(h:H p=some (.lst xs))
  (ho:s.heap.get? p=some { cls:=.type "list", data:=.seq its.toArray n }) (hf:f { cls:=.type "list", data:=.seq its.toArray n }={ cls:=.type "list", data:=.seq its'.toArray n' }) (r:Vals ys its') (hz:ys.length<=sizeLine) (t:Nat) :
  Inv X pins σ (upd H p (.lst ys)) { s with heap:=s.heap.update p f,toks:=t }:=by
 have e:(s.heap.update p f).get? p=some { cls:=.type "list", data:=.seq its'.toArray n' }:=by
  rw[Heap.get?_update_self f ho (by rw[hf] <;> rfl),hf]
 refine I.write (x:=p) (e:=p) (by rw[h];trivial) (.inl rfl) (fun b u hb q=>(Heap.get?_update_other _ _ (Ne.symm hb)).trans q) ⟨_,e⟩ ?_;exact⟨hz,its',n',r,e⟩
def rSetL:V->V->V->Hp->(Hp->Prop)->Prop:=fun o i v H Q=>∃p xs k j,o=.ref p/\i=.int k/\H p=some (.lst xs)/\ixN xs.length k=some j/\Q (upd H p (.lst (xs.set j v)))
theorem set_list:PSet X rSetL:=by
 intro pins s σ H o i v ov iv u Q I ro ri rv h;obtain⟨p,xs,k,j,rfl,rfl,hp,hj,q⟩:=h;cases ro;obtain⟨t,rfl⟩:=ri;obtain⟨its,n,r,ho,hz⟩:=I.lst hp;obtain⟨h1,h2,h3,h4⟩:=ixN_seq hj;have hl:=r.length;have hn:=line63
 have I':Inv X pins σ (upd H p (.lst (xs.set j v))) { s with heap:=s.heap.update p (Obj.mapSeq (·.setIfInBounds j u)) }:=
  I.lstUpd hp ho (mapSeq_set its n j u) (r.set rv j) (by rw[List.length_set];exact hz) s.toks
 by_cases h0:0<=k
 ·have hk:k.toNat=j:=by
   rw[seqIndex_of h0 h4]at h1;exact Option.some.inj h1
  exact PySem.W.ki_setAt ho h0 (by omega) (by rw[List.size_toArray,<-hl];exact h4) (by rw[hk];exact⟨_,I',q⟩)
 ·have hk:(k+(its.toArray.size:Int)).toNat=j:=by
   rw[seqIndex_neg (by omega) h3]at h1;rw[List.size_toArray,<-hl];exact Option.some.inj h1
  exact PySem.W.ki_setBack ho (by omega) (by rw[List.size_toArray,<-hl];exact h3) (by omega) (by rw[hk];exact⟨_,I',q⟩)
theorem slice_bounds(lo hi:Option Int)(n:Nat):(sliceBounds lo hi none n).1=((HT.sIx n 0 lo:Nat):Int)/\(sliceBounds lo hi none n).2.1=((HT.sIx n n hi:Nat):Int)/\(sliceBounds lo hi none n).2.2=1:=by
 refine⟨?_,?_,rfl⟩
 ·cases lo with
  | none=>simp[sliceBounds,HT.sIx]
  | some i=>
   simp only[sliceBounds,HT.sIx,Option.getD_none,show(1:Int) > 0 by decide,if_true];by_cases h:i<0
   ·simp only[h,if_true] <;> omega
   ·simp only[h,if_false] <;> omega
 ·cases hi with
  | none=>simp[sliceBounds,HT.sIx]
  | some i=>
   simp only[sliceBounds,HT.sIx,Option.getD_none,show(1:Int) > 0 by decide,if_true];by_cases h:i<0
   ·simp only[h,if_true] <;> omega
   ·simp only[h,if_false] <;> omega
theorem slicePick_cut(its:List Value)(lo hi:Option Int):slicePick its.toArray lo hi none=((its.drop (HT.sIx its.length 0 lo)).take (HT.sIx its.length its.length hi - HT.sIx its.length 0 lo)).toArray:=by
 obtain⟨h1,h2,h3⟩:=slice_bounds lo hi its.toArray.size;unfold slicePick;rw[h1,h2,h3];simp only[sliceRange_one,pick_run,List.size_toArray] <;> rfl
def rSlL(K:PySem.W.Frag):V->Option Int->Option Int->Hp->VK->Prop:=fun x lo hi H Q=>∃a xs,x=.ref a/\SqL K H a xs/\∀p,H p=none->Q (.ref p) (upd H p (.lst (cutV xs lo hi)))
theorem sl_list:SlR X (rSlL X.K):=by
 intro pins s σ H x v vl vu lo hi sl Q I rx hs pl pu h;obtain⟨a,xs,rfl,hx,q⟩:=h;cases rx;obtain⟨its,r,ht,hz⟩:=I.list hx;have hlen:=r.length;refine⟨"list", _,slot_list_getitem.lookup,ht.isList.typeIs,?_⟩;refine wpAny_getItem_list_slice ht.isList hs pl pu .none (by simp) ?_ (by rw[List.size_toArray] <;> omega);rw[slicePick_cut,<-hlen];refine⟨.ref s.heap.objs.size,_,I.laid (t':=s.toks) (o:=.lst (cutV xs lo hi)) (fun b ob q=>Heap.get?_push_of_some _ q) (Nat.le_refl _) ?_,rfl,q _ (I.hok.fresh (Nat.le_refl _))⟩;exact⟨Nat.le_trans (cutV_length xs lo hi) hz,_,0,(r.drop (HT.sIx xs.length 0 lo)).take (HT.sIx xs.length xs.length hi - HT.sIx xs.length 0 lo),Heap.get?_push_size _ rfl⟩
def flatV:V->Bool
 | .non=>true
 | .bl _=>true
 | .int _=>true
 | .str _=>true
 | _=>false
def eqV:V->V->Bool
 | .non,.non=>true
 | .bl a,.bl b=>a == b
 | .bl a,.int b=>(if a then 1 else 0) == b
 | .int a,.bl b=>a == (if b then 1 else 0)
 | .int a,.int b=>a == b
 | .str a,.str b=>a == b
 | _,_=>false
theorem eqAt_V{A:Around}{s:Shared}{y x:V}{u v:Value}(ry:RelV y u)(rx:RelV x v)(fy:flatV y=true)(fx:flatV x=true):SeqAt.EqAt A s u v (eqV y x):=by
 cases y with
 | non=>
  cases ry;cases x with
  | non=>cases rx;exact SeqAt.EqAt.same _
  | bl b=>cases rx;exact SeqAt.EqAt.none_bool b
  | int b=>obtain⟨t,rfl⟩:=rx;exact SeqAt.EqAt.none_int b t
  | str b=>obtain⟨t,rfl⟩:=rx;exact SeqAt.EqAt.none_str b t
  | _=>exact absurd (show false=true from fx) Bool.false_ne_true
 | bl a=>
  cases ry;cases x with
  | non=>cases rx;exact SeqAt.EqAt.bool_none a
  | bl b=>cases rx;exact SeqAt.EqAt.bool_bool a b
  | int b=>obtain⟨t,rfl⟩:=rx;exact SeqAt.EqAt.bool_int a b t
  | str b=>obtain⟨t,rfl⟩:=rx;exact SeqAt.EqAt.bool_str a b t
  | _=>exact absurd (show false=true from fx) Bool.false_ne_true
 | int a=>
  obtain⟨t',rfl⟩:=ry;cases x with
  | non=>cases rx;exact SeqAt.EqAt.int_none a t'
  | bl b=>cases rx;exact SeqAt.EqAt.int_bool a t' b
  | int b=>obtain⟨t,rfl⟩:=rx;exact SeqAt.EqAt.int_int a t' b t
  | str b=>obtain⟨t,rfl⟩:=rx;exact SeqAt.EqAt.int_str a t' b t
  | _=>exact absurd (show false=true from fx) Bool.false_ne_true
 | str a=>
  obtain⟨t',rfl⟩:=ry;cases x with
  | non=>cases rx;exact SeqAt.EqAt.str_none a t'
  | bl b=>cases rx;exact SeqAt.EqAt.str_bool a t' b
  | int b=>obtain⟨t,rfl⟩:=rx;exact SeqAt.EqAt.str_int a t' b t
  | str b=>obtain⟨t,rfl⟩:=rx;exact SeqAt.EqAt.str_str a t' b t
  | _=>exact absurd (show false=true from fx) Bool.false_ne_true
 | _=>exact absurd (show false=true from fy) Bool.false_ne_true
def eqU(x:V)(u:Value):Bool:=match u with
 | .none=>eqV .non x
 | .bool b=>eqV (.bl b) x
 | .int i _=>eqV (.int i) x
 | .str z _=>eqV (.str z) x
 | _=>false
theorem eqU_of{x y:V}{u:Value}(r:RelV y u)(f:flatV y=true):eqU x u=eqV y x:=by
 cases y with
 | non=>cases r;rfl
 | bl b=>cases r;rfl
 | int i=>obtain⟨t,rfl⟩:=r;rfl
 | str z=>obtain⟨t,rfl⟩:=r;rfl
 | _=>exact absurd (show false=true from f) Bool.false_ne_true
theorem any_eqU{x:V}:∀ {xs:List V} {us:List Value},Vals xs us->xs.all flatV=true->us.any (eqU x)=xs.any fun y=>eqV y x
 | _,_,.nil,_=>rfl
 | y::xs,u::us,.cons r t,f=>by
  rw[List.all_cons,Bool.and_eq_true]at f;rw[List.any_cons,List.any_cons,eqU_of r f.1,any_eqU t f.2]
theorem mem_eqAt{A:Around}{s:Shared}{x:V}{v:Value}(rx:RelV x v)(fx:flatV x=true):∀ {xs:List V} {us:List Value},Vals xs us->xs.all flatV=true->∀u∈us,SeqAt.EqAt A s u v (eqU x u)
 | _,_,.nil,_=>fun u hu=>by cases hu
 | y::xs,u::us,.cons r t,f=>fun u' hu=>by
  rw[List.all_cons,Bool.and_eq_true]at f;rcases List.mem_cons.mp hu with rfl | hu
  ·rw[eqU_of r f.1];exact eqAt_V r rx f.1 fx
  ·exact mem_eqAt rx fx t f.2 u' hu
def inV(x:V)(xs:List V):Bool:=xs.any fun y=>eqV y x
def rIn(K:PySem.W.Frag)(neg:Bool):R2:=fun x y H Q=>∃p xs,y=.ref p/\(SqL K H p xs\/SqT K H p xs)/\flatV x=true/\xs.all flatV=true/\Q (.bl (if neg then !inV x xs else inV x xs)) H
theorem op_in_seq:OpR X (compareOp .In) (rIn X.K false):=by
 intro pins s σ H x y v u Q I rx ry h;obtain⟨p,xs,rfl,hq,fx,fs,q⟩:=h;cases ry;rcases hq with hq | hq
 ·obtain⟨its,r,pl,hz⟩:=I.list hq
  refine SeqAt.in_listAt (eqU x) pl.isList (fun w hw=>mem_eqAt rx fx r fs w (by simpa using hw)) ⟨.bl _,H,I,rfl,?_⟩;rw[show its.toArray.any (eqU x)=its.any (eqU x) by simp,any_eqU r fs];exact q
 ·obtain⟨its,r,pl,hz⟩:=I.tuple hq
  refine SeqAt.in_tupleAt (eqU x) pl (fun w hw=>mem_eqAt rx fx r fs w (by simpa using hw)) ⟨.bl _,H,I,rfl,?_⟩;rw[show its.toArray.any (eqU x)=its.any (eqU x) by simp,any_eqU r fs];exact q
theorem op_notIn_seq:OpR X (compareOp .NotIn) (rIn X.K true):=by
 intro pins s σ H x y v u Q I rx ry h;obtain⟨p,xs,rfl,hq,fx,fs,q⟩:=h;cases ry;rcases hq with hq | hq
 ·obtain⟨its,r,pl,hz⟩:=I.list hq
  refine SeqAt.notIn_listAt (eqU x) pl.isList (fun w hw=>mem_eqAt rx fx r fs w (by simpa using hw)) ⟨.bl _,H,I,rfl,?_⟩;rw[show its.toArray.any (eqU x)=its.any (eqU x) by simp,any_eqU r fs];exact q
 ·obtain⟨its,r,pl,hz⟩:=I.tuple hq
  refine SeqAt.notIn_tupleAt (eqU x) pl (fun w hw=>mem_eqAt rx fx r fs w (by simpa using hw)) ⟨.bl _,H,I,rfl,?_⟩;rw[show its.toArray.any (eqU x)=its.any (eqU x) by simp,any_eqU r fs];exact q
theorem op_notIn_str:OpR X (compareOp .NotIn) (fun x y H Q=>∃i j,x=.str i/\y=.str j/\Q (.bl (!(!(Builtin.Str.occurrences j i 0 j.length 1).isEmpty))) H):=by
 intro pins s σ H x y v u Q I rx ry h;obtain⟨i,j,rfl,rfl,q⟩:=h;obtain⟨t,rfl⟩:=rx;obtain⟨t',rfl⟩:=ry;exact notIn_str ⟨.bl _,H,I,rfl,q⟩
theorem call_len_seq:CallR X (.builtin "len") (fun xs H Q=>∃p ys,xs=[.ref p]/\(SqL X.K H p ys\/SqT X.K H p ys)/\Q (.int ys.length) H):=by
 intro pins s σ H xs us Q I r h;obtain⟨p,ys,rfl,hq,q⟩:=h;obtain⟨u,rfl,rx⟩:=vals1 r;cases rx;have hn:=line63;rcases hq with hq | hq
 ·obtain⟨its,r',pl,hz⟩:=I.list hq
  have hlen:=r'.length;exact Calls.call_len_list pl.isList (by simp only[List.size_toArray] <;> omega) ⟨.int ys.length,H,I.tok _,⟨s.toks+1,by rw[List.size_toArray,hlen]⟩,q⟩
 ·obtain⟨its,r',pl,hz⟩:=I.tuple hq
  have hlen:=r'.length;exact len_tuple pl (by simp only[List.size_toArray] <;> omega) ⟨.int ys.length,H,I.tok _,⟨s.toks+1,by rw[List.size_toArray,hlen]⟩,q⟩
theorem call_len_str:CallR X (.builtin "len") (fun xs H Q=>∃z,xs=[.str z]/\z.length<=sizeLine/\Q (.int z.length) H):=by
 intro pins s σ H xs us Q I r h;obtain⟨z,rfl,hz,q⟩:=h;obtain⟨u,rfl,t,rfl⟩:=vals1 r;have hn:=line63;exact len_str (by omega) ⟨.int z.length,H,I.tok _,⟨_,rfl⟩,q⟩
theorem CallR.or{f:Value}{r r':List V->Hp->VK->Prop}(h:CallR X f r)(h':CallR X f r'):CallR X f (fun xs H Q=>r xs H Q\/r' xs H Q):=by
 intro pins s σ H xs us Q I rs q;rcases q with q | q
 ·exact h pins s σ H xs us Q I rs q
 ·exact h' pins s σ H xs us Q I rs q
theorem call_list_of:CallR X (.type "list") (fun xs H Q=>∃p ys,xs=[.ref p]/\(SqL X.K H p ys\/SqT X.K H p ys)/\∀l,H l=none->Q (.ref l) (upd H l (.lst ys))):=by
 intro pins s σ H xs us Q I r h;obtain⟨p,ys,rfl,hq,q⟩:=h;obtain⟨u,rfl,rx⟩:=vals1 r;cases rx
 have fin:∀(its:List Value),Vals ys its->ys.length<=sizeLine->∀(h':Heap) (c':Nat),(∀b o',s.heap.get? b=some o'->h'.get? b=some o') ->
   h'.get? s.heap.objs.size=some { cls:=.type "list", dict:=none,data:=.seq its.toArray c',slots := #[] }->EP X pins σ Q (.ref s.heap.objs.size) { s with heap:=h' }:=fun its r' hz h' c' kp e=>
  ⟨.ref s.heap.objs.size,_,I.laid (t':=s.toks) kp (Nat.le_refl _) (show ObjOk X.prog X.w _ h' _ (.lst ys)from⟨hz,its,c',r',e⟩),rfl,q _ (I.hok.fresh (Nat.le_refl _))⟩
 rcases hq with hq | hq
 ·obtain⟨its,r',pl,hz⟩:=I.list hq
  have hlen:=r'.length;obtain⟨o,ho,hc,n,hd⟩:=pl.isList;exact call_list_seq p (.inl rfl) ho hc hd (fun h' c' kp e=>fin its r' hz h' c' kp e) (by simp only[List.size_toArray] <;> omega)
 ·obtain⟨its,r',pl,hz⟩:=I.tuple hq
  have hlen:=r'.length;obtain⟨o,ho,hc,n,hd⟩:=pl;exact call_list_seq p (.inr rfl) ho hc hd (fun h' c' kp e=>fin its r' hz h' c' kp e) (by simp only[List.size_toArray] <;> omega)
def tyV(K:PySem.W.Frag)(T:String)(x:V)(H:Hp):Prop:=match x with
 | .str _=>T = "str"
 | .int _=>T = "int"
 | .ref p=>(T = "list" /\ ∃xs,SqL K H p xs)\/(T = "tuple" /\ ∃o,K.lookup p=some o/\o.cls=.type "tuple" /\ o.dict=none) \/
   (T = "dict" /\ ((∃kvs,H p=some (.dK kvs))\/∃kvs,H p=some (.dT kvs)))\/(T = "set" /\ ∃S n,H p=some (.set S n))
 | _=>False
theorem tyV_is{pins:List (Addr×Obj)}{σ:St}{H:Hp}{s:Shared}{T:String}{x:V}{v:Value}(I:Inv X pins σ H s)(r:RelV x v)(ty:tyV X.K T x H) :
  s.TypeIs v T/\∀a,v=.ref a->∃ob,s.heap.get? a=some ob/\ob.dict=none:=by
 cases x with
 | str z=>
  obtain⟨t,rfl⟩:=r;cases (show T = "str" from ty);exact⟨typeIs_str s z t,fun _ e=>nomatch e⟩
 | int i=>
  obtain⟨t,rfl⟩:=r;cases (show T = "int" from ty);exact⟨typeIs_int s i t,fun _ e=>nomatch e⟩
 | ref p=>
  cases r;rcases ty with ⟨rfl,xs,hq⟩ | ⟨rfl,o,hk,hc,hd⟩ | ⟨rfl,hk⟩ | ⟨rfl,S,n,hk⟩
  ·obtain⟨its,_,pl,_⟩:=I.list hq
   refine⟨pl.isList.typeIs,fun a e=>?_⟩;cases e;obtain⟨o,n,e,c,hd,_⟩:=pl;exact⟨o,e,hd⟩
  ·refine⟨⟨o,I.kIn p o hk,hc⟩,fun a e=>?_⟩
   cases e;exact⟨o,I.kIn _ o hk,hd⟩
  ·have z:∃o,s.heap.get? p=some o/\o.ExactDict:=by
    rcases hk with ⟨kvs,hk⟩ | ⟨kvs,hk⟩
    ·obtain⟨_,_,_,_,o,_,_,e,ex,_⟩:=I.hok p _ hk
     exact⟨o,e,ex⟩
    ·obtain⟨_,_,_,_,o,_,_,e,ex,_⟩:=I.hok p _ hk
     exact⟨o,e,ex⟩
   obtain⟨o,e,ex⟩:=z;refine⟨⟨o,e,ex.1⟩,fun a e2=>?_⟩;cases e2;exact⟨o,e,ex.2.1⟩
  ·obtain⟨o,_,_,_,e,ex,_⟩:=I.hok p _ hk
   refine⟨⟨o,e,ex.1⟩,fun a e2=>?_⟩;cases e2;exact⟨o,e,ex.2.1⟩
 | _=>exact False.elim ty
def tBM0(K:PySem.W.Frag)(T:String)(r:V->List V->Hp->VK->Prop)(to:TE):TE:=fun σ H Q=>to σ H fun x H1=>tyV K T x H1/\r x [] H1 Q
def tBM(K:PySem.W.Frag)(T:String)(r:V->List V->Hp->VK->Prop)(to:TE)(t:TA):TE:=fun σ H Q=>to σ H fun x H1=>tyV K T x H1/\t σ H1 fun xs H2=>r x xs H2 Q
variable {o e:Expr}{es:List Expr}{to:TE}{t:TA}{name:Str}{apos cpos:Pos}{T id:String}{r:V->List V->Hp->VK->Prop}
theorem pe_bm0(pa:PlainAttrs T)(slot:Slot T name id)(hty:typeOf (.builtin id)=pure (.type "method_descriptor"))(hm:MtR X id r)(ho:PE X o to)
  (hbase:attributeBase o name X.env (eval o X.env)=eval o X.env:=by rfl) (hline:(apos.endLine == cpos.line)=true:=by rfl):PE X (.Call (.Attribute o name apos) [] [] cpos) (tBM0 X.K T r to):=by
 intro pins s σ H Q I h;refine wpAny_Call_method0_late hbase hline (thn (ho pins s σ H _ I h) fun v s1 ⟨x,H1,I1,r1,ty,q1⟩=>?_);obtain⟨h1,h2⟩:=tyV_is I1 r1 ty;exact⟨T,id,pa,slot,hty,h1,h2,Calls.callWith_builtin rfl (PySem.evalArgs_none (hm pins s1 σ H1 x [] v [] Q I1 r1 .nil q1))⟩
theorem pe_bm(pa:PlainAttrs T)(slot:Slot T name id)(hty:typeOf (.builtin id)=pure (.type "method_descriptor"))(hm:MtR X id r)(ho:PE X o to)(ha:PA X (e::es) t)
  (hbase:attributeBase o name X.env (eval o X.env)=eval o X.env:=by rfl)
  (hfew:((backTo cpos (starEach (e::es) X.env)).all (fun x => !x.1)&&(backToKw cpos (keywordEach [] X.env)).all (fun x=>x.1.isSome)
   && decide ((e::es).length+([]:List Keyword).length+(if([]:List Keyword).isEmpty then 0 else 1)<30))=true:=by rfl)
  (hline:(apos.endLine == cpos.line)=true:=by rfl) (hs:starEach (e::es) X.env=(false,eval e X.env)::starEach es X.env:=by rfl) (hplain:(backTo cpos (starEach es X.env)).any (·.1)=false:=by rfl) :
  PE X (.Call (.Attribute o name apos) (e::es) [] cpos) (tBM X.K T r to t):=by
 intro pins s σ H Q I h;refine wpAny_Call_method_late hbase hfew hline rfl (thn (ho pins s σ H _ I h) fun v s1 ⟨x,H1,I1,r1,ty,q1⟩=>?_);obtain⟨h1,h2⟩:=tyV_is I1 r1 ty;refine⟨T,id,pa,slot,hty,h1,h2,?_⟩;have hA:=ha cpos pins s1 σ H1 _ I1 q1;rw[hs]at hA ⊢;refine Calls.callWith_builtin (by show(false||(backTo cpos (starEach es X.env)).any (·.1))=false;rw[hplain] <;> rfl) (Calls.evalArgs_plain ?_);exact thn hA fun us s2 ⟨vs,H2,I2,r2,q2⟩=>hm pins s2 σ H2 x vs v us Q I2 r1 r2 q2
end
end L2
namespace L2
open PySem PySem.Spec PyProof.Rows
def MtM(X:Cx)(id:String)(r:V->List V->Hp->VK->Prop):Prop:=
 ∀(pins:List (Addr×Obj)) (s:Shared) (σ:St) (H:Hp) (x:V) (xs:List V) (v:Value) (us:List Value) (Q:VK),Inv X pins σ H s->RelV x v->Vals xs us->r x xs H Q ->
  wpAny (model X.prog X.w) X.A (call (.builtin id) (v::us)) (EP X pins σ Q) X.xe s
theorem Vals.one:∀ {x:V} {us:List Value},Vals [x] us->∃u,us=[u]/\RelV x u
 | _,_,.cons r .nil=>⟨_,rfl,r⟩
theorem Vals.zero:∀ {us:List Value},Vals [] us->us=[]
 | _,.nil=>rfl
theorem Vals.dropLast{xs:List V}{us:List Value}(h:Vals xs us):Vals xs.dropLast us.dropLast:=by
 induction h with
 | nil=>exact .nil
 | cons r t ih=>
  cases t with
  | nil=>exact .nil
  | cons q t'=>exact .cons r ih
theorem Vals.reverse{xs:List V}{us:List Value}(h:Vals xs us):Vals xs.reverse us.reverse:=by
 induction h with
 | nil=>exact .nil
 | cons r t ih=>rw[List.reverse_cons,List.reverse_cons];exact Vals.append ih (.cons r .nil)
theorem erase_last{α:Type}(l:List α):l.eraseIdx (l.length - 1)=l.dropLast:=by
 induction l with
 | nil=>rfl
 | cons a r ih=>
  cases r with
  | nil=>rfl
  | cons b r=>
   have e:(a::b::r).length - 1=((b::r).length - 1)+1:=by
    have h1:(a::b::r).length=r.length+2:=rfl;have h2:(b::r).length=r.length+1:=rfl;omega
   rw[e,List.eraseIdx_cons_succ,ih];all_goals rfl
section
variable {X:Cx}{pins:List (Addr×Obj)}{σ:St}{H:Hp}{s:Shared}{l b:Addr}{xs ys zs:List V}
theorem Inv.lset{its its':List Value}{n:Nat}{f:Array Value->Array Value}{t':Nat}(I:Inv X pins σ H s)(hH:H l=some (.lst xs))
  (e:s.heap.get? l=some { cls:=.type "list", data:=.seq its.toArray n }) (hf:f its.toArray=its'.toArray) (hv:Vals ys its') (hz:ys.length<=sizeLine) :
  Inv X pins σ (upd H l (.lst ys)) { s with heap:=s.heap.update l (Obj.mapSeq f),toks:=t' }:=by
 have q:=PySem.IsL.update e f;rw[hf]at q;refine I.write (x:=l) (e:=l) (by rw[hH];exact trivial) (.inl rfl) (fun b' u hb hu=>(Heap.get?_update_other s.heap (Obj.mapSeq f) (Ne.symm hb)).trans hu) ⟨_,q⟩ ?_;exact⟨hz,its',_,hv,q⟩
theorem Inv.lnew{its:List Value}{t':Nat}(I:Inv X pins σ H s)(hv:Vals ys its)(hz:ys.length<=sizeLine) :
  Inv X pins σ (upd H s.heap.objs.size (.lst ys)) { s with heap:=s.heap.push { cls:=.type "list", data:=.seq its.toArray },toks:=t' }:=
 I.laid (fun _ _ q=>Heap.get?_push_of_some _ q) (Nat.le_refl _) ⟨hz,its,0,hv,Heap.get?_push_size _ rfl⟩
theorem Inv.fresh(I:Inv X pins σ H s):H s.heap.objs.size=none:=I.hok.fresh (Nat.le_refl _)
theorem Inv.lstM(I:Inv X pins σ H s)(hH:H l=some (.lst xs)):xs.length<=sizeLine/\∃(its:List Value) (n:Nat),Vals xs its/\xs.length=its.length/\s.heap.get? l=some { cls:=.type "list", data:=.seq its.toArray n }:=by
 obtain⟨z,its,n,r,e⟩:=I.hok l _ hH;exact⟨z,its,n,r,r.length,e⟩
theorem notLongL{n:Nat}(h:n<=sizeLine):Builtin.List.listTooLong n=false:=by
 unfold Builtin.List.listTooLong;exact decide_eq_false (by omega)
end
section
variable {X:Cx}
def rAppend:V->List V->Hp->VK->Prop:=fun x vs H Q=>∃l xs y,x=.ref l/\vs=[y]/\H l=some (.lst xs)/\xs.length<sizeLine/\Q .non (upd H l (.lst (xs++[y])))
theorem mt_append:MtM X "list.append" rAppend:=by
 intro pins s σ H x vs v us Q I rx rv h;obtain⟨l,xs,y,rfl,rfl,hH,hz,q⟩:=h;cases rx;obtain⟨u,rfl,ru⟩:=rv.one;obtain⟨z,its,n,r,hl,e⟩:=I.lstM hH;refine call_meets F.slot_list_append ⟨_,e,rfl⟩ F.entry_list_append (F.args_list_append_2 _ _) (PySem.list_append l its.toArray n u (by rw[List.size_toArray];omega)) ⟨e,?_⟩
 refine⟨.non,_,I.lset (its':=its++[u]) hH e (by simp) (r.append (.cons ru .nil)) ?_,rfl,q⟩;rw[List.length_append,List.length_singleton];omega
def rExtend:V->List V->Hp->VK->Prop:=fun x vs H Q=>∃l b xs zs,x=.ref l/\vs=[.ref b]/\H l=some (.lst xs)/\H b=some (.lst zs)/\xs.length+zs.length<=sizeLine/\Q .non (upd H l (.lst (xs++zs)))
theorem mt_extend:MtM X "list.extend" rExtend:=by
 intro pins s σ H x vs v us Q I rx rv h;obtain⟨l,b,xs,zs,rfl,rfl,hH,hB,hz,q⟩:=h;cases rx;obtain⟨u,rfl,ru⟩:=rv.one;cases ru;obtain⟨z,its,n,r,hl,e⟩:=I.lstM hH;obtain⟨z2,its2,n2,r2,hl2,e2⟩:=I.lstM hB;have hsz:its.toArray.size+its2.toArray.size<=sizeLine:=by rw[List.size_toArray,List.size_toArray];omega
 have hlong:¬(!its.toArray.isEmpty&&Builtin.List.listTooLong (its.toArray.size+its2.toArray.size))=true:=by
  rw[notLongL hsz,Bool.and_false];exact Bool.false_ne_true
 refine call_meets F.slot_list_extend ⟨_,e,rfl⟩ F.entry_list_extend (F.args_list_extend_2 _ _)
  (AutoSeq1.list_extend_list_list_0 l its.toArray n b its2.toArray n2 hlong (by rw[List.size_toArray];omega) (by omega)) ⟨e,e2,?_⟩
 refine⟨.non,_,I.lset (its':=its++its2) hH e (by simp) (r.append r2) ?_,rfl,q⟩;rw[List.length_append];omega
def rPop:V->List V->Hp->VK->Prop:=fun x vs H Q=>∃l xs y,x=.ref l/\vs=[]/\H l=some (.lst xs)/\xs[xs.length - 1]? = some y/\Q y (upd H l (.lst xs.dropLast))
theorem mt_pop:MtM X "list.pop" rPop:=by
 intro pins s σ H x vs v us Q I rx rv h;obtain⟨l,xs,y,rfl,rfl,hH,hy,q⟩:=h;cases rx;have hus:=rv.zero;subst hus;obtain⟨z,its,n,r,hl,e⟩:=I.lstM hH;obtain⟨u,hu,ru⟩:=r.get hy
 have hy':its.toArray[its.toArray.size - 1]? = some u:=by
  show its.toArray[its.length - 1]? = some u;rw[<-Array.getElem?_toList,<-hl];exact hu
 refine call_meets F.slot_list_pop ⟨_,e,rfl⟩ F.entry_list_pop (F.args_list_pop_1 _) (MeetsSeq.list_pop_last l its.toArray n u hy' (by rw[List.size_toArray];omega)) ⟨e,?_⟩
 refine⟨y,_,I.lset (its':=its.dropLast) hH e ?_ r.dropLast ?_,ru,q⟩
 ·show its.toArray.eraseIdxIfInBounds (its.toArray.size - 1)=its.dropLast.toArray
  rw[List.size_toArray,List.eraseIdxIfInBounds_toArray,erase_last]
 ·rw[List.length_dropLast]
  omega
def rReverse:V->List V->Hp->VK->Prop:=fun x vs H Q=>∃l xs,x=.ref l/\vs=[]/\H l=some (.lst xs)/\Q .non (upd H l (.lst xs.reverse))
theorem mt_reverse:MtM X "list.reverse" rReverse:=by
 intro pins s σ H x vs v us Q I rx rv h;obtain⟨l,xs,rfl,rfl,hH,q⟩:=h;cases rx;have hus:=rv.zero;subst hus;obtain⟨z,its,n,r,hl,e⟩:=I.lstM hH;refine call_meets F.slot_list_reverse ⟨_,e,rfl⟩ F.entry_list_reverse (F.args_list_reverse_1 _) (AutoSeq1.list_reverse_list_0 l its.toArray n (by rw[List.size_toArray];omega)) ⟨e,?_⟩
 refine⟨.non,_,I.lset (its':=its.reverse) hH e (by simp) r.reverse ?_,rfl,q⟩;rw[List.length_reverse];omega
def rClear:V->List V->Hp->VK->Prop:=fun x vs H Q=>∃l xs,x=.ref l/\vs=[]/\H l=some (.lst xs)/\Q .non (upd H l (.lst []))
theorem mt_clear:MtM X "list.clear" rClear:=by
 intro pins s σ H x vs v us Q I rx rv h;obtain⟨l,xs,rfl,rfl,hH,q⟩:=h;cases rx;have hus:=rv.zero;subst hus;obtain⟨z,its,n,r,hl,e⟩:=I.lstM hH;refine call_meets F.slot_list_clear ⟨_,e,rfl⟩ F.entry_list_clear (F.args_list_clear_1 _) (AutoSeq1.list_clear_list_0 l its.toArray n (by rw[List.size_toArray];omega)) ⟨e,?_⟩
 exact⟨.non,_,I.lset (its':=[]) (ys:=[]) hH e rfl .nil (Nat.zero_le _),rfl,q⟩
def rCat:R2:=fun x y H Q=>∃l b xs zs,x=.ref l/\y=.ref b/\H l=some (.lst xs)/\H b=some (.lst zs)/\xs.length+zs.length<=sizeLine/\∀p,H p=none->Q (.ref p) (upd H p (.lst (xs++zs)))
theorem op_cat:OpR X (binaryOp .Add) rCat:=by
 intro pins s σ H x y v u Q I rx ry h;obtain⟨l,b,xs,zs,rfl,rfl,hH,hB,hz,q⟩:=h;cases rx;cases ry;obtain⟨z,its,n,r,hl,e⟩:=I.lstM hH;obtain⟨z2,its2,n2,r2,hl2,e2⟩:=I.lstM hB;refine PySem.P.add_list e e2 ?_ (by rw[List.size_toArray,List.size_toArray];omega);have ea:its.toArray++its2.toArray=(its++its2).toArray:=by simp
 rw[ea];exact⟨.ref _,_,I.lnew (t':=s.toks) (r.append r2) (by rw[List.length_append];omega),rfl,q _ I.fresh⟩
end
section
variable {prog:Program}{w:World}{A:Around}{E:Value->Shared->Prop}{s:Shared}
set_option maxRecDepth 100000 in
end
section
variable {X:Cx}
end
end L2
namespace Att
open PySem PySem.W PySem.Calls PyProof.Rows
theorem ints_of_wellAll{P:Params}{h:Heap}:∀(ns:List Int) (vs:List Value),WellAll P h vs (ns.map WData.int)->IntsAre vs ns:=by
 intro ns;induction ns with
 | nil=>
  intro vs w;rw[List.map_nil]at w;cases w;exact .nil
 | cons n ns ih=>
  intro vs w;rw[List.map_cons]at w;cases w with
  | cons a b=>
   cases a;exact .cons _ _ (ih _ b)
theorem script_of{l:OpenLaw}{n:Nat}(hn:l.most=some n){P:Params}{h:Heap}{args:List WData}{vals:List Value}
  (hpre:l.row.toRowW.claim.pre args=true) (hwl:WellAll P h vals args) :
  ∃a vs ns,vals=[Value.ref a]/\args=[WData.list (ns.map WData.int)]/\h.get? a=some { cls:=.type "list", data:=.seq vs.toArray }/\IntsAre vs ns/\ns.length<=n:=by
 have hsh:WShape.hasAll [] args [.list .int]=true:=(pre_splitW hpre).1;have hc:l.pre.holds [] { args:=args }=true:=(pre_splitW hpre).2;obtain⟨d,r,rfl,h1,h2⟩:=hasAllW_cons hsh;obtain rfl:=hasAllW_nil h2;obtain⟨xs,rfl,h3⟩:=hasW_list h1;obtain⟨ns,rfl⟩:=items_int h3
 have hlen:ns.length<=n:=by
  unfold OpenLaw.pre at hc
  have h4:(WTm.not (.lt (.lit (.int (n:Int))) (.len (.arg 0)))).holds [] { args:=[.list (ns.map .int)] }=true:=by
   have h4:=(holds_andW hc).1;rw[hn]at h4;exact h4
  have h5:=condW_of h4 (w_not (w_lt w_lit (w_len_list (w_arg rfl))));rw[List.length_map]at h5;refine Nat.le_of_not_lt fun q=>?_
  have q':(n:Int)<((ns.length:Nat):Int):=by omega
  first
   | (rw[decide_eq_true q']at h5;exact absurd h5 (by decide))
   | (simp at h5;omega)
 cases hwl with
 | cons w1 w2=>
  cases w2;cases w1 with
  | list ho hall=>exact⟨_,_,ns,rfl,rfl,ho,ints_of_wellAll ns _ hall,hlen⟩
theorem post_true(l:OpenLaw)(args:List WData):l.row.toRowW.claim.post args (.bool true) args=true:=
 postW_of (r:=l.row.toRowW) (X:=(true == true))
  (show WShape.has [] (.bool true) .bool=true by first | rfl | decide | simp[WShape.has,WShape.arms,WShape.armsAll])
  (show(WTm.eq .res (.lit (.bool true))).value [] { args:=args,res:=some (.bool true),after:=args }=some (.bool (true == true))from w_eq_bool (w_res rfl) w_lit) rfl
theorem attach_call{l:OpenLaw}{n:Nat}{q:Program}{loose:List Str}{XP:(Str->Option Value)->Heap->Prop}{YP:World->Heap->Prop}{d:DefRec}
  (hn:l.most=some n) (hdf:d.params.defaults=[])
  (call:∀(w:World) (s₀ s₁:Shared) (mg mb:Str->Option Value) (fa:Addr) (o:Obj) (pm cd doc:Value) (a:Addr) (vs:List Value) (ns:List Int),
   Ground q loose [] XP w s₀ mg mb s₁.heap->YP w s₁.heap ->
   s₁.heap.get? fa=some o->o.data=.func (docDef d.name d.params d.body d.scope pm cd doc)->s₁.heap.CodeRec cd d.name->mg d.name=some (.ref fa) ->
   s₁.heap.get? a=some { cls:=.type "list", data:=.seq vs.toArray }->IntsAre vs ns->ns.length<=n->s₁.gens = #[] ->
   codeAny (model l.prog w) callerA (.call (.ref fa) ⟨[.ref a],[]⟩) (fun r s'=>r=.ok (.ret (.bool true))/\OldK s₁.heap s'.heap/\s'.os=s₁.os/\AllBare s'.gens) s₁) :
  WalkO q loose XP YP l.row.toRowW d [] (fun f vs=>PySem.call f vs):=by
 intro w s₀ s₁ mg mb G Y fa o pm cd doc dV kV ho hd hcd hD hmg hg args vals as hpre hlay hrd hwl hlo;obtain rfl:dV=.none:=Dflts.none hD hdf;obtain rfl:kV=.none:=Dflts.noKw hD;obtain⟨a,vs,ns,rfl,rfl,hobj,hints,hlen⟩:=script_of hn hpre hwl;refine enter_call (codeAny_mono (call w s₀ s₁ mg mb fa o pm cd doc a vs ns G Y ho (fd_plain hd) hcd hmg hobj hints hlen hg) fun r s' hq=>?_);obtain⟨rfl,h2,h3,h4⟩:=hq;exact⟨.inl ⟨.bool true,.bool true,[],rfl,fun _=>rfl,.bool true,post_true l _,fun _=>⟨List.Pairwise.nil,fun _ hm=>(nomatch hm)⟩⟩,h2,h3,h4⟩
section
variable {prog:Program}{w:World}{A:Around}{E:Value->Shared->Prop}{s:Shared}{K:Frag}
end
end Att
namespace L2
open PySem PySem.Spec PyProof.Rows
theorem vals_ints:∀ {vs:List Value} {ns:List Int},IntsAre vs ns->Vals (ns.map V.int) vs
 | _,_,.nil=>.nil
 | _,_,.cons n t h=>.cons ⟨t,rfl⟩ (vals_ints h)
def Only(H:Hp):Prop:=∀b,H b=none\/∃o xs,H b=some (.frz o (.lst xs))
theorem law_call{P:Program}{w:World}{K:PySem.W.Frag}{mg mb:Str->Option Value}{CX:CXT}{k:Nat}{fa a:Addr}{fd:FuncData}{x:Str}{sp:Sp}{s₁:Shared}{vs:List Value}{ns:List Int}
  (KX:K.In s₁.heap) (hns:s₁.heap.Ns mainGlobals mg) (hb:s₁.heap.Ns builtinsNs mb) (hbb:∀x:Str,x ≠ "__name__" -> mb x=bootBuiltins x) (hlim:s₁.heap.NoLimit) (hg:s₁.gens = #[])
  (ha:s₁.heap.get? a=some { cls:=.type "list", data:=.seq vs.toArray }) (hi:IntsAre vs ns) (hl:ns.length<=sizeLine) (hr:Room k callerA)
  (F:∀base:Heap,K.In base->base.Ns mainGlobals mg->FnOk P w K mg base CX k fa fd [x] sp) (hbind:∀(s:Shared) (u:Value),BindsTo s fd ⟨[u],[]⟩ [(x,u)])
  (hsp:∀H:Hp,Only H->SqL K H a (ns.map V.int)->sp [.ref a] H (fun v _=>v=.bl true) fun _ _ _=>False)
  (hCX:∀H e s',CX [] H s₁ (fun _ _ _=>False) e s'->False) :
  codeAny (model P w) callerA (.call (.ref fa) ⟨[.ref a],[]⟩) (fun r s'=>r=.ok (.ret (.bool true))/\OldK s₁.heap s'.heap/\s'.os=s₁.os/\AllBare s'.gens) s₁:=by
 have rv:=vals_ints hi;have lenV:=hi.length
 have core:∀H:Hp,Only H->SqL K H a (ns.map V.int)->HOk P w H s₁.heap->(∀b,H b≠none->b=a)->(H a≠none->K.lookup a=none) ->
   codeAny (model P w) callerA (.call (.ref fa) ⟨[.ref a],[]⟩) (fun r s'=>r=.ok (.ret (.bool true))/\OldK s₁.heap s'.heap/\s'.os=s₁.os/\AllBare s'.gens) s₁:=by
  intro H hO hS hok hA hK;have base_of:∀ {b:Addr} {o:Obj},s₁.heap.get? b=some o->H b=none->(hidT s₁.heap H).get? b=some o:=fun e n=>hidT_get e n
  have noA:∀ {b:Addr} {o:Obj} {es:Array DictEntry} {ep:Nat},s₁.heap.get? b=some o->o.data=.dict es ep->H b=none:=fun {b o es ep} e d=>by
   cases q:H b with
   | none=>rfl
   | some u=>
    have e':b=a:=hA b (by rw[q];simp);subst e';rw[ha]at e;cases e;have d':Data.seq vs.toArray _=Data.dict es ep:=d;cases d'
  have nsK:∀ {b:Addr} {m:Str->Option Value},s₁.heap.Ns b m->(hidT s₁.heap H).Ns b m:=fun {b m} ⟨o,es,ep,e,d,r⟩=>⟨o,es,ep,base_of e (noA e d),d,r⟩
  have hKb:K.In (hidT s₁.heap H):=fun b o e=>base_of (KX b o e) (by
   cases q:H b with
   | none=>rfl
   | some u=>
    have e':b=a:=hA b (by rw[q];simp);subst e';rw[hK (by rw[q];simp)]at e;cases e)
  have hM:Mod K mg (hidT s₁.heap H):=⟨hKb,nsK hns,⟨mb,nsK hb,hbb⟩,let⟨mc,h1,h2⟩:=hlim; ⟨mc,nsK h1,h2⟩⟩;have e0:Env0 P w K mg (hidT s₁.heap H) callerA [] s₁ H:=⟨rfl,hM,fun b o e=>of_hidT e,Nat.le_of_eq (hidT_size _ _),trivial,fun b hb=>absurd (show b∈([]:List Addr)from hb) (by simp),hok,.of_eq hg⟩;refine codeAny_mono ((F _ hKb (nsK hns)).run callerA [] s₁ H ⟨[.ref a],[]⟩ [.ref a] [.ref a] _ _ hr e0 (hbind s₁ (.ref a)) (.cons rfl .nil) (hsp H hO hS)) fun r s' h=>?_
  cases r with
  | error e=>exact(hCX H e s' h).elim
  | ok fl=>
   cases fl with
   | next=>exact False.elim h
   | brk=>exact False.elim h
   | cont=>exact False.elim h
   | ret u=>
    obtain⟨v,H',os,bare,un,hok',r',q⟩:=h;have q':v=.bl true:=q;subst q';obtain rfl:u=Value.bool true:=r';refine⟨rfl,OldK.of_keep fun b o e=>?_,os,bare⟩;cases q:H b with
    | none=>exact un.keep b o e q (by intro z;exact absurd (show b∈([]:List Addr)from z) (by simp)) (by simp)
    | some u=>
     rcases hO b with z | ⟨ob,xs,z⟩
     ·rw[q]at z;cases z
     ·have z2:=un.frzs b ob _ z
      obtain⟨e1,_⟩:=hok b _ z;obtain⟨e2,_⟩:=hok' b _ z2;rw[e]at e1;cases e1;exact e2
 cases hk:K.lookup a with
 | some o=>
  have e:=KX a o hk;rw[ha]at e;cases e;refine core (fun _=>none) (fun _=>.inl rfl) (.inr ⟨_,vs.toArray,_,hk,rfl,rfl,rfl,by rw[List.size_toArray,lenV];exact hl,by simpa using rv⟩) (fun b u z=>by have z':(none:Option HO)=some u:=z;cases z') (fun b z=>absurd rfl z) fun z=>absurd rfl z
 | none=>
  refine core (fun b=>if b=a then some (.frz { cls:=.type "list", data:=.seq vs.toArray } (.lst (ns.map V.int)))else none) (fun b=>?_) (.inl (.inr ⟨{ cls:=.type "list", data:=.seq vs.toArray },if_pos rfl⟩)) (fun b u z=>?_) (fun b z=>?_) fun _=>hk
  ·by_cases hb:b=a
   ·exact .inr ⟨_,_,if_pos hb⟩
   ·exact .inl (if_neg hb)
  ·by_cases hb:b=a
   ·have z':=(if_pos hb).symm.trans z
    cases z';subst hb;exact⟨ha,by rw[List.length_map];exact hl,vs,_,rv,ha⟩
   ·have z':=(if_neg hb).symm.trans z
    cases z'
  ·by_cases hb:b=a
   ·exact hb
   ·exact absurd (if_neg hb) z
end L2
namespace L2
open PySem PySem.Spec PyProof.Rows
theorem walk_of{l:PySem.W.OpenLaw}{n k:Nat}{q:Program}{loose:List Str}{XP:(Str->Option Value)->Heap->Prop}{YP:World->Heap->Prop}{d:DefRec}{K:Params->PySem.W.Frag}{CX:World->CXT}{sp:World->Sp}{x:Str}
  (hn:l.most=some n) (hn2:n<=sizeLine) (hdf:d.params.defaults=[]) (hr:Room k callerA)
  (hY:∀(w:World) (h:Heap),YP w h->(K w.params).In h)
  (F:∀(w:World) (mg:Str->Option Value) (fa:Addr) (h:Heap),(K w.params).In h->h.Ns mainGlobals mg->mg d.name=some (.ref fa) ->
   ∃fd:FuncData,(∀(s:Shared) (u:Value),BindsTo s fd ⟨[u],[]⟩ [(x,u)]) /\
    ∀base:Heap,(K w.params).In base->base.Ns mainGlobals mg->FnOk l.prog w (K w.params) mg base (CX w) k fa fd [x] (sp w))
  (hsp:∀(w:World) (H:Hp) (a:Addr) (ns:List Int),ns.length<=n->Only H->SqL (K w.params) H a (ns.map V.int)->sp w [.ref a] H (fun v _=>v=.bl true) fun _ _ _=>False)
  (hCX:∀(w:World) (H:Hp) (s:Shared) (e:Value) (s':Shared),CX w [] H s (fun _ _ _=>False) e s'->False) :
  PySem.W.WalkO q loose XP YP l.row.toRowW d [] (fun f vs=>PySem.call f vs):=by
 refine Att.attach_call hn hdf fun w s₀ s₁ mg mb fa o pm cd doc a vs ns G Y ho hd hcd hmg hobj hints hlen hg=>?_
 have KX:=hY w _ Y;obtain⟨fd,hb,hF⟩:=F w mg fa _ KX G.T.g hmg;exact law_call KX G.T.g G.T.b G.T.builtins G.T.nolimit hg hobj hints (Nat.le_trans hlen hn2) hr hF hb (fun H hO hS=>hsp w H a ns hlen hO hS) fun H e s'=>hCX w H s₁ e s'
end L2
namespace L2
open PySem PySem.Spec PyProof.Rows
def inClass(s:Stmt)(j:Nat):Stmt:=match s with
 | .ClassDef _ _ _ body _ _ _ _ _ _ _=>body.getD j (.Pass ⟨0,0,0,0⟩)
 | _=>.Pass ⟨0,0,0,0⟩
def defArgs(s:Stmt):Arguments:=match s with
 | .FunctionDef _ a _ _ _ _ _ _ _ _=>a
 | _=>{ posonlyargs:=[],args:=[],vararg:=none,kwonlyargs:=[],kw_defaults:=[],kwarg:=none,defaults:=[] }
def defBody(s:Stmt):List Stmt:=match s with
 | .FunctionDef _ _ b _ _ _ _ _ _ _=>b
 | _=>[]
def defScope(s:Stmt):Scope:=match s with
 | .FunctionDef _ _ _ _ _ _ sc _ _ _=>sc
 | _=>{ kind:=.function,names:=[],isGenerator:=false,isCoroutine:=false }
abbrev CX0:CXT:=fun _ _ _ _ _ _=>False
abbrev E0:XK:=fun _ _ _=>False
theorem pass0{X:Cx}:Passes CX0 X E0:=fun _ _ _ _ _ _ _ h=>h.elim
structure Fun(K:PySem.W.Frag)(x qual:Str)(st:Stmt)(f:Addr)(fd:FuncData):Prop where
 ex:∃(oc:Value) (od:Option Addr) (kV doc pm:Value) (an:Option Addr) (cdv ct:Value) (osl:Array (Option Value)),
  fd=PySem.W.fnOf x qual (defArgs st) (defBody st) (defScope st) .none kV doc pm an cdv ct/\K.lookup f=some ⟨oc,od,.func fd,osl⟩/\PySem.W.codeIn K cdv qual=true
 kp:PySem.W.keepIn K (.ref f)=true
section
variable {P:Program}{w:World}{K:PySem.W.Frag}{mg:Str->Option Value}{base:Heap}
theorem Fun.ok{x qual:Str}{st:Stmt}{f:Addr}{fd:FuncData}{N ps:List Str}{k:Nat}{sp:Sp}(F:Fun K x qual st f fd)(S:FnScope N ps (defScope st))(len:∀vs H Q E,sp vs H Q E->vs.length=ps.length)
  (hbody:∀(cdv:Value) (A:Around) (outer:List Env) (s:Shared) (H:Hp) (vs:List V) (Q:VK) (E:XK),Room k (A.deeper (envOfC qual (defScope st) s.heap.objs.size f cdv))->sp vs H Q E ->
   ∃t,PSs (cxOf CX0 P w K mg base N qual (defScope st) f cdv A outer s H E).nox (defBody st) t/\t { nx:=fun _ H'=>Q .non H',rt:=Q } (start N vs) H):FnOk P w K mg base CX0 (k+1) f fd ps sp:=by
 obtain⟨oc,od,kV,doc,pm,an,cdv,ct,osl,rfl,lk,hcd⟩:=F.ex;refine fn_of lk hcd S len fun A outer s H vs Q E hr hsp=>?_
 obtain⟨t,h,q⟩:=hbody cdv A outer s H vs Q E hr hsp;exact⟨t,h.nox,q⟩
theorem Fun.binds{x qual:Str}{st:Stmt}{f:Addr}{fd:FuncData}{ps:List Str}(F:Fun K x qual st f fd)
  (h:∀(kV doc pm:Value) (an:Option Addr) (cdv ct:Value) (us:List Value),us.length=ps.length->bindArgs (PySem.W.fnOf x qual (defArgs st) (defBody st) (defScope st) .none kV doc pm an cdv ct) ⟨us,[]⟩=pure (ps.zip us)):Binds K fd ps []:=by
 obtain⟨oc,od,kV,doc,pm,an,cdv,ct,osl,rfl,lk,hcd⟩:=F.ex;exact .all (h kV doc pm an cdv ct)
theorem fun_mk{x qual:Str}{st:Stmt}{f:Addr}{oc:Value}{od an:Option Addr}{osl:Array (Option Value)}{kV doc pm cdv ct:Value}(l:K.lookup f=some ⟨oc,od,.func (PySem.W.fnOf x qual (defArgs st) (defBody st) (defScope st) .none kV doc pm an cdv ct),osl⟩)
  (c:PySem.W.codeIn K cdv qual=true) (k:PySem.W.keepIn K (.ref f)=true):Fun K x qual st f (PySem.W.fnOf x qual (defArgs st) (defBody st) (defScope st) .none kV doc pm an cdv ct):=⟨⟨oc,od,kV,doc,pm,an,cdv,ct,osl,rfl,l,c⟩,k⟩
end
theorem hu_of{A:Around}{k:Nat}(hr:Room k A):A.units+1<cLine:=Nat.lt_of_le_of_lt (Nat.add_le_add_left (by decide:1<=64) _) hr.units
section
variable {X:Cx}
end
theorem iteF{A B:Prop}(h:B):if false=true then A else B:=by
 rw[if_neg Bool.false_ne_true];exact h
theorem iteT{A B:Prop}(h:A):if true=true then A else B:=by
 rw[if_pos rfl];exact h
theorem ite2{c A B:Prop}[Decidable c](h1:c->A)(h2:¬c->B):if c then A else B:=by
 by_cases h:c
 ·rw[if_pos h]
  exact h1 h
 ·rw[if_neg h]
  exact h2 h
def Same(H H':Hp):Prop:=∀b o,H b=some o->H' b=some o
theorem Same.refl(H:Hp):Same H H:=fun _ _ h=>h
theorem Same.trans{H H1 H2:Hp}(a:Same H H1)(b:Same H1 H2):Same H H2:=fun c o h=>b c o (a c o h)
theorem Same.free{H H':Hp}(e:Same H H'){l:Addr}(h:H' l=Option.none):H l=Option.none:=by
 cases q:H l with
 | none=>rfl
 | some o=>
  rw[e l o q]at h;cases h
section
variable {κ:Type}[DecidableEq κ]
theorem valV_in{kvs:List (κ×V)}{k:κ}{v:V}(h:valV kvs k=some v):k∈kvs.map (·.1):=by
 have q:(kvs.any fun kv=>decide (kv.1=k))=true:=by
  rw[valV_any,h];all_goals rfl
 obtain⟨p,hp,e⟩:=List.any_eq_true.mp q;exact List.mem_map.mpr ⟨p,hp,of_decide_eq_true e⟩
end
end L2
set_option maxHeartbeats 0
namespace HD
open PySem PySem.W L2
abbrev P : Program := PySem.Challenge.pw_oncedone_k45_two_deeds_by_turns
def top (i : Nat) : Stmt := P.main.body.getD i (.Pass ⟨0, 0, 0, 0⟩)
def kE (Q : Params) (n : Str) (t : Nat) (v : Value) : DictEntry := ⟨PyData.keyHash Q n, .str n t, v⟩
def kD (es : List DictEntry) (n : Nat) : Obj := ⟨.type "dict", none, .dict es.toArray n, #[]⟩
def kF (x qual : Str) (st : Stmt) (pm cd : Value) : Obj := ⟨.type "function", none, .func (fnOf x qual (defArgs st) (defBody st) (defScope st) .none .none .none pm none cd .none), #[]⟩
def kC (n q : Str) (a b c : Nat) (i3 i4 i5 i6 i7 : Int) (r8 : Nat) (i10 : Int) (r11 r13 r14 r15 : Nat) (i16 i17 : Int) (d : Nat) : Obj := ⟨.type "code", none, .fields ([.str n a, .str q b, .str "/claim/cut.py" c, .int i3 0, .int i4 0, .int i5 0, .int i6 0, .int i7 0, .ref r8, .bool true, .int i10 0, .ref r11, .none, .ref r13, .ref r14, .ref r15, .int i16 0, .int i17 0, .str "/claim/cut.py" d] : List Value).toArray, ([] : List (Option Value)).toArray⟩
def kN (n q : Str) (a b c : Nat) (i3 i4 i5 i6 i7 : Int) (r8 : Nat) (i10 : Int) (r11 r15 : Nat) (i16 i17 : Int) (d : Nat) : Obj := ⟨.type "code", none, .fields ([.str n a, .str q b, .str "/claim/cut.py" c, .int i3 0, .int i4 0, .int i5 0, .int i6 0, .int i7 0, .ref r8, .bool true, .int i10 0, .ref r11, .none, .none, .none, .ref r15, .int i16 0, .int i17 0, .str "/claim/cut.py" d] : List Value).toArray, ([] : List (Option Value)).toArray⟩
abbrev kc' (n q : Str) (a l m r i j : Nat) : Obj := kC n q a (a + 1) (a + 2) l m 0 0 3 r i (r + 1) (r + 2) (r + 3) (r + 4) j l (j + 1)
abbrev kc (n : Str) (a l m r i j : Nat) : Obj := kc' n n a l m r i j
abbrev kn' (n q : Str) (a l m r i j : Nat) : Obj := kN n q a (a + 1) (a + 2) l m 0 0 3 r i (r + 1) (r + 2) j l (j + 1)
abbrev kn (n : Str) (a l m r i j : Nat) : Obj := kn' n n a l m r i j
abbrev kg (n : Str) (i : Nat) (m : Value) (c : Nat) : Obj := kF n n (top i) m (.ref c)
abbrev m0 : Value := (.str "__main__" 164)
abbrev m1 : Value := (.str "oncedone.words" 194)
abbrev m2 : Value := (.str "oncedone.deeds" 253)
abbrev m3 : Value := (.str "oncedone.errors" 285)
abbrev m4 : Value := (.str "oncedone.checks" 405)
abbrev m5 : Value := (.str "oncedone.plans" 435)
abbrev m6 : Value := (.str "oncedone.ways" 565)
abbrev m7 : Value := (.str "oncedone.ready" 607)
abbrev m8 : Value := (.str "oncedone.wanted" 705)
abbrev m9 : Value := (.str "law_oncedone_k45_two_deeds_by_turns" 787)
abbrev kM (Q : Params) (a : Nat) (m : Value) (l : Int) (r : List DictEntry) : List DictEntry := kE Q "__module__" a m :: kE Q "__firstlineno__" (a + 4) (.int l (a + 3)) :: r
abbrev kQ (Q : Params) (a : Nat) (m : Value) (n : Str) (l : Int) (r : List DictEntry) : List DictEntry := kE Q "__module__" a m :: kE Q "__qualname__" (a + 2) (.str n (a + 1)) :: kE Q "__firstlineno__" (a + 4) (.int l (a + 3)) :: r
abbrev kW (Q : Params) (s r : Nat) : List DictEntry := [kE Q "__static_attributes__" s (.ref r), kE Q "__dict__" (s + 2) (.ref (r + 3)), kE Q "__weakref__" (s + 4) (.ref (r + 4)), kE Q "__doc__" (s + 5) .none]
abbrev kU (n : Str) (s x : Nat) : Obj := ⟨.type "type", none, .cls { name := n, bases := [.type "object"], mro := [.ref (s + 1), .type "object"], ns := s, qualname := n, hasDict := true, subclasses := [] }, ([none, none, some (.str n x), some (.str n (x + 8)), some (.builtin "object.__new__"), some (.bool true)] : List (Option Value)).toArray⟩
abbrev kV (n : Str) (s p x : Nat) : Obj := ⟨.type "type", none, .cls { name := n, bases := [.ref 100], mro := [.ref (s + 1), .ref 100, .type "ValueError", .type "Exception", .type "BaseException", .type "object"], ns := s, qualname := n, hasDict := true, subclasses := [] }, ([some (.ref p), none, some (.str n x), some (.str n (x + 8)), some (.builtin "ValueError.__new__"), some (.bool true)] : List (Option Value)).toArray⟩
def K1 (Q : Params) : Frag := [
  (3, kD [kE Q "__name__" 165 m9, kE Q "__doc__" 166 .none, kE Q "__package__" 167 .none, kE Q "__loader__" 168 (.builtin "__main__.__loader__#opaque"), kE Q "__spec__" 169 .none, kE Q "__annotations__" 170 (.ref 6), kE Q "__builtins__" 171 (.ref 4), kE Q "__file__" 173 (.str "/claim/cut.py" 172), kE Q "__cached__" 174 .none, kE Q "_wall" 193 (.ref 21), kE Q "BOUND" 197 (.int (1000000000000) 196), kE Q "LETTERS" 199 (.str "abcdefghijklmnopqrstuvwxyz" 198), kE Q "FIGURES" 201 (.str "0123456789" 200), kE Q "LONGEST_NAME" 203 (.int (8) 202), kE Q "DEED_KINDS" 209 (.ref 22), kE Q "is_whole" 216 (.ref 29), kE Q "is_value" 223 (.ref 36), kE Q "is_name" 229 (.ref 41), kE Q "is_operand" 236 (.ref 48), kE Q "is_deed" 243 (.ref 55), kE Q "is_row" 252 (.ref 62), kE Q "deed_of" 261 (.ref 69), kE Q "set_by" 268 (.ref 76), kE Q "does" 276 (.ref 83), kE Q "spoils" 284 (.ref 90), kE Q "OnceError" 304 (.ref 100), kE Q "Wrong" 329 (.ref 120), kE Q "NoThing" 354 (.ref 139), kE Q "TooMany" 379 (.ref 158), kE Q "NoWay" 404 (.ref 177), kE Q "MOST" 408 (.int (400) 407), kE Q "is_below" 416 (.ref 186), kE Q "check_length" 425 (.ref 193), kE Q "check_each" 434 (.ref 200), kE Q "FIRST_STEP" 440 (.ref 201), kE Q "are_nexts" 446 (.ref 206), kE Q "check_nexts" 452 (.ref 211), kE Q "stops_of" 458 (.ref 216), kE Q "turned" 464 (.ref 221), kE Q "reached" 475 (.ref 228), kE Q "check_ways" 485 (.ref 235), kE Q "steps_of" 491 (.ref 240), kE Q "Plan" 564 (.ref 297), kE Q "way_to" 580 (.ref 308), kE Q "traced" 589 (.ref 315), kE Q "way_on" 595 (.ref 320), kE Q "followed" 606 (.ref 327), kE Q "pass_on" 620 (.ref 334), kE Q "unready_steps" 633 (.ref 341), kE Q "Ready" 704 (.ref 391), kE Q "unwanted_ends" 717 (.ref 402), kE Q "unwanted_steps" 723 (.ref 407), kE Q "Wanted" 786 (.ref 450), kE Q "_law_bag" 794 (.ref 459), kE Q "_law_take" 807 (.ref 466), kE Q "_law_net" 820 (.ref 473), kE Q "_law_mended" 826 (.ref 478), kE Q "_law_base" 832 (.ref 483), kE Q "_law_names" 849 (.ref 490), kE Q "_law_value" 856 (.ref 497), kE Q "_law_operand" 864 (.ref 504), kE Q "_law_deed" 873 (.ref 511), kE Q "_law_row" 885 (.ref 518), kE Q "_law_plan" 891 (.ref 523), kE Q "_law_lists" 897 (.ref 528), kE Q "_law_made" 908 (.ref 535), kE Q "_law_told" 919 (.ref 542), kE Q "_law_second" 933 (.ref 549), kE Q "law" 961 (.ref 556)] 69),
  (20, kc "_wall" 187 1 1 15 181 191),
  (21, kg "_wall" 0 m0 20),
  (22, ⟨(.type "tuple"), none, .seq ([(.str "plus" 204), (.str "minus" 205), (.str "times" 206), (.str "less" 207), (.str "same" 208)] : List Value).toArray 0, ([] : List (Option Value)).toArray⟩),
  (28, kc "is_whole" 210 10 1 23 181 214),
  (29, kg "is_whole" 7 m1 28),
  (35, kc "is_value" 217 12 1 30 181 221),
  (36, kg "is_value" 8 m1 35),
  (40, kn "is_name" 224 14 1 37 181 227),
  (41, kg "is_name" 9 m1 40),
  (47, kc "is_operand" 230 18 1 42 181 234),
  (48, kg "is_operand" 10 m1 47),
  (54, kc "is_deed" 237 20 1 49 181 241),
  (55, kg "is_deed" 11 m1 54),
  (61, kc "is_row" 244 24 1 56 181 250),
  (62, kg "is_row" 12 m1 61),
  (68, kc "deed_of" 255 39 1 63 181 259),
  (69, kg "deed_of" 14 m2 68),
  (75, kc "set_by" 262 41 1 70 181 266),
  (76, kg "set_by" 15 m2 75),
  (82, kc "does" 269 43 2 77 181 274),
  (83, kg "does" 16 m2 82),
  (89, kc "spoils" 277 45 2 84 181 282),
  (90, kg "spoils" 17 m2 89),
  (99, kD (kM Q 294 m3 48 [kE Q "__static_attributes__" 299 (.ref 98), kE Q "__weakref__" 301 (.ref 101), kE Q "__doc__" 302 .none]) 3),
  (100, ⟨(.type "type"), none, .cls { name := "OnceError", bases := [(.type "ValueError")], mro := [(.ref 100), (.type "ValueError"), (.type "Exception"), (.type "BaseException"), (.type "object")], ns := 99, qualname := "OnceError", hasDict := true, subclasses := [(.ref 120), (.ref 139), (.ref 158), (.ref 177)] }, ([some (.ref 91), none, some (.str "OnceError" 287), some (.str "OnceError" 295), some (.builtin "ValueError.__new__"), some (.bool true)] : List (Option Value)).toArray⟩),
  (116, kc' "__init__" "Wrong.__init__" 317 52 2 111 181 322),
  (117, kF "__init__" "Wrong.__init__" (inClass (top 20) 0) m3 (.ref 116)),
  (119, kD (kM Q 312 m3 50 [kE Q "__init__" 324 (.ref 117), kE Q "__static_attributes__" 326 (.ref 118), kE Q "__doc__" 327 .none]) 2),
  (120, kV "Wrong" 119 104 305),
  (135, kc' "__init__" "NoThing.__init__" 342 56 2 130 181 347),
  (136, kF "__init__" "NoThing.__init__" (inClass (top 21) 0) m3 (.ref 135)),
  (138, kD (kM Q 337 m3 54 [kE Q "__init__" 349 (.ref 136), kE Q "__static_attributes__" 351 (.ref 137), kE Q "__doc__" 352 .none]) 2),
  (139, kV "NoThing" 138 123 330),
  (154, kc' "__init__" "TooMany.__init__" 367 60 2 149 181 372),
  (155, kF "__init__" "TooMany.__init__" (inClass (top 22) 0) m3 (.ref 154)),
  (157, kD (kM Q 362 m3 58 [kE Q "__init__" 374 (.ref 155), kE Q "__static_attributes__" 376 (.ref 156), kE Q "__doc__" 377 .none]) 2),
  (158, kV "TooMany" 157 142 355),
  (173, kc' "__init__" "NoWay.__init__" 392 64 2 168 181 397)]
def adr1 : List Addr := [3, 20, 21, 22, 28, 29, 35, 36, 40, 41, 47, 48, 54, 55, 61, 62, 68, 69, 75, 76, 82, 83, 89, 90, 99, 100, 116, 117, 119, 120, 135, 136, 138, 139, 154, 155, 157, 158, 173]
def K2 (Q : Params) : Frag := [
  (174, kF "__init__" "NoWay.__init__" (inClass (top 23) 0) m3 (.ref 173)),
  (176, kD (kM Q 387 m3 62 [kE Q "__init__" 399 (.ref 174), kE Q "__static_attributes__" 401 (.ref 175), kE Q "__doc__" 402 .none]) 2),
  (177, kV "NoWay" 176 161 380),
  (185, kc "is_below" 409 68 2 180 181 414),
  (186, kg "is_below" 26 m4 185),
  (192, kc "check_length" 417 70 3 187 181 423),
  (193, kg "check_length" 27 m4 192),
  (199, kc "check_each" 426 75 1 194 181 432),
  (200, kg "check_each" 28 m4 199),
  (201, ⟨(.type "tuple"), none, .seq ([(.int (-1) 438), (.int (0) 439)] : List Value).toArray 0, ([] : List (Option Value)).toArray⟩),
  (205, kn "are_nexts" 441 81 3 202 181 444),
  (206, kg "are_nexts" 31 m5 205),
  (210, kn "check_nexts" 447 86 2 207 181 450),
  (211, kg "check_nexts" 32 m5 210),
  (215, kn "stops_of" 453 90 1 212 181 456),
  (216, kg "stops_of" 33 m5 215),
  (220, kn "turned" 459 92 1 217 181 462),
  (221, kg "turned" 34 m5 220),
  (227, kc "reached" 465 98 2 222 181 473),
  (228, kg "reached" 35 m5 227),
  (234, kc "check_ways" 476 107 1 229 181 483),
  (235, kg "check_ways" 36 m5 234),
  (239, kn "steps_of" 486 113 1 236 181 489),
  (240, kg "steps_of" 37 m5 239),
  (251, kn' "__init__" "Plan.__init__" 504 120 3 248 181 507),
  (252, kF "__init__" "Plan.__init__" (inClass (top 38) 0) m5 (.ref 251)),
  (258, kc' "steps" "Plan.steps" 510 131 1 253 181 514),
  (259, kF "steps" "Plan.steps" (inClass (top 38) 1) m5 (.ref 258)),
  (265, kc' "leads_to" "Plan.leads_to" 517 134 2 260 181 522),
  (266, kF "leads_to" "Plan.leads_to" (inClass (top 38) 2) m5 (.ref 265)),
  (272, kc' "steps_into" "Plan.steps_into" 525 139 2 267 181 530),
  (273, kF "steps_into" "Plan.steps_into" (inClass (top 38) 3) m5 (.ref 272)),
  (279, kc' "stops" "Plan.stops" 533 142 1 274 181 537),
  (280, kF "stops" "Plan.stops" (inClass (top 38) 4) m5 (.ref 279)),
  (286, kc' "deeds" "Plan.deeds" 540 145 1 281 181 544),
  (287, kF "deeds" "Plan.deeds" (inClass (top 38) 5) m5 (.ref 286)),
  (293, kc' "names" "Plan.names" 547 148 1 288 181 551),
  (294, kF "names" "Plan.names" (inClass (top 38) 6) m5 (.ref 293)),
  (296, kD (kM Q 499 m5 118 ([kE Q "__init__" 509 (.ref 252), kE Q "steps" 516 (.ref 259), kE Q "leads_to" 524 (.ref 266), kE Q "steps_into" 532 (.ref 273), kE Q "stops" 539 (.ref 280), kE Q "deeds" 546 (.ref 287), kE Q "names" 553 (.ref 294)] ++ kW Q 557 295)) 4)]
def adr2 : List Addr := [174, 176, 177, 185, 186, 192, 193, 199, 200, 201, 205, 206, 210, 211, 215, 216, 220, 221, 227, 228, 234, 235, 239, 240, 251, 252, 258, 259, 265, 266, 272, 273, 279, 280, 286, 287, 293, 294, 296]
def K3 (Q : Params) : Frag := [
  (297, kU "Plan" 296 492),
  (307, kc "way_to" 567 151 2 302 181 578),
  (308, kg "way_to" 40 m6 307),
  (314, kc "traced" 581 163 2 309 181 587),
  (315, kg "traced" 41 m6 314),
  (319, kn "way_on" 590 169 2 316 181 593),
  (320, kg "way_on" 42 m6 319),
  (326, kc "followed" 596 181 3 321 181 604),
  (327, kg "followed" 43 m6 326),
  (333, kc "pass_on" 609 189 4 328 181 618),
  (334, kg "pass_on" 45 m7 333),
  (340, kc "unready_steps" 621 194 3 335 181 631),
  (341, kg "unready_steps" 46 m7 340),
  (352, kn' "__init__" "Ready.__init__" 646 209 3 349 181 649),
  (353, kF "__init__" "Ready.__init__" (inClass (top 47) 0) m7 (.ref 352)),
  (359, kc' "ready_at" "Ready.ready_at" 652 215 2 354 181 657),
  (360, kF "ready_at" "Ready.ready_at" (inClass (top 47) 1) m7 (.ref 359)),
  (366, kc' "ready_behind" "Ready.ready_behind" 660 218 2 361 181 666),
  (367, kF "ready_behind" "Ready.ready_behind" (inClass (top 47) 2) m7 (.ref 366)),
  (373, kc' "ready_on" "Ready.ready_on" 669 224 2 368 181 674),
  (374, kF "ready_on" "Ready.ready_on" (inClass (top 47) 3) m7 (.ref 373)),
  (380, kc' "begins_unready" "Ready.begins_unready" 677 227 2 375 181 682),
  (381, kF "begins_unready" "Ready.begins_unready" (inClass (top 47) 4) m7 (.ref 380)),
  (387, kc' "way_unready" "Ready.way_unready" 685 230 2 382 181 691),
  (388, kF "way_unready" "Ready.way_unready" (inClass (top 47) 5) m7 (.ref 387)),
  (390, kD (kM Q 641 m7 207 ([kE Q "__init__" 651 (.ref 353), kE Q "ready_at" 659 (.ref 360), kE Q "ready_behind" 668 (.ref 367), kE Q "ready_on" 676 (.ref 374), kE Q "begins_unready" 684 (.ref 381), kE Q "way_unready" 693 (.ref 388)] ++ kW Q 697 389)) 4),
  (391, kU "Ready" 390 634),
  (401, kc "unwanted_ends" 707 241 2 396 181 715),
  (402, kg "unwanted_ends" 49 m8 401),
  (406, kn "unwanted_steps" 718 247 2 403 181 721),
  (407, kg "unwanted_steps" 50 m8 406),
  (420, kc' "__init__" "Wanted.__init__" 736 261 3 415 181 742),
  (421, kF "__init__" "Wanted.__init__" (inClass (top 51) 0) m8 (.ref 420)),
  (427, kc' "wanted_at" "Wanted.wanted_at" 745 265 2 422 181 750),
  (428, kF "wanted_at" "Wanted.wanted_at" (inClass (top 51) 1) m8 (.ref 427)),
  (432, kn' "wanted_behind" "Wanted.wanted_behind" 753 268 2 429 181 756),
  (433, kF "wanted_behind" "Wanted.wanted_behind" (inClass (top 51) 2) m8 (.ref 432)),
  (439, kc' "wanted_on" "Wanted.wanted_on" 759 272 2 434 181 764),
  (440, kF "wanted_on" "Wanted.wanted_on" (inClass (top 51) 3) m8 (.ref 439))]
def adr3 : List Addr := [297, 307, 308, 314, 315, 319, 320, 326, 327, 333, 334, 340, 341, 352, 353, 359, 360, 366, 367, 373, 374, 380, 381, 387, 388, 390, 391, 401, 402, 406, 407, 420, 421, 427, 428, 432, 433, 439, 440]
def K4 (Q : Params) : Frag := [
  (446, kc' "way_unwanted" "Wanted.way_unwanted" 767 275 2 441 181 774),
  (447, kF "way_unwanted" "Wanted.way_unwanted" (inClass (top 51) 4) m8 (.ref 446)),
  (449, kD (kM Q 731 m8 259 ([kE Q "__init__" 744 (.ref 421), kE Q "wanted_at" 752 (.ref 428), kE Q "wanted_behind" 758 (.ref 433), kE Q "wanted_on" 766 (.ref 440), kE Q "way_unwanted" 776 (.ref 447)] ++ kW Q 779 448)) 4),
  (450, kU "Wanted" 449 724),
  (458, kn "_law_bag" 789 282 1 455 181 792),
  (459, kg "_law_bag" 53 m9 458),
  (465, kc "_law_take" 795 284 2 460 181 805),
  (466, kg "_law_take" 54 m9 465),
  (472, kc "_law_net" 808 303 2 467 181 818),
  (473, kg "_law_net" 55 m9 472),
  (477, kn "_law_mended" 821 321 1 474 181 824),
  (478, kg "_law_mended" 56 m9 477),
  (482, kn "_law_base" 827 336 2 479 181 830),
  (483, kg "_law_base" 57 m9 482),
  (489, kc "_law_names" 833 340 2 484 181 847),
  (490, kg "_law_names" 58 m9 489),
  (496, kc "_law_value" 850 355 1 491 181 854),
  (497, kg "_law_value" 59 m9 496),
  (503, kc "_law_operand" 857 357 2 498 181 862),
  (504, kg "_law_operand" 60 m9 503),
  (510, kc "_law_deed" 865 361 2 505 181 871),
  (511, kg "_law_deed" 61 m9 510),
  (517, kc "_law_row" 874 364 4 512 181 883),
  (518, kg "_law_row" 62 m9 517),
  (522, kn "_law_plan" 886 376 1 519 181 889),
  (523, kg "_law_plan" 63 m9 522),
  (527, kn "_law_lists" 892 391 1 524 181 895),
  (528, kg "_law_lists" 64 m9 527),
  (534, kc "_law_made" 898 393 2 529 181 906),
  (535, kg "_law_made" 65 m9 534),
  (541, kc "_law_told" 909 400 5 536 181 917),
  (542, kg "_law_told" 66 m9 541),
  (548, kc "_law_second" 920 416 2 543 181 931),
  (549, kg "_law_second" 67 m9 548),
  (555, kc "law" 934 425 1 550 181 959),
  (556, kg "law" 68 m9 555)]
def adr4 : List Addr := [446, 447, 449, 450, 458, 459, 465, 466, 472, 473, 477, 478, 482, 483, 489, 490, 496, 497, 503, 504, 510, 511, 517, 518, 522, 523, 527, 528, 534, 535, 541, 542, 548, 549, 555, 556]
def K (Q : Params) : Frag := K1 Q ++ (K2 Q ++ (K3 Q ++ K4 Q))
def adr : List Addr := adr1 ++ (adr2 ++ (adr3 ++ adr4))
def q : Program := view P [68]
def loose : List Str := (["_wall", "BOUND", "LETTERS", "FIGURES", "LONGEST_NAME", "DEED_KINDS", "is_whole", "is_value", "is_name", "is_operand", "is_deed", "is_row", "deed_of", "set_by", "does", "spoils", "OnceError", "Wrong", "NoThing", "TooMany", "NoWay", "MOST", "is_below", "check_length", "check_each", "FIRST_STEP", "are_nexts", "check_nexts", "stops_of", "turned", "reached", "check_ways", "steps_of", "Plan", "way_to", "traced", "way_on", "followed", "pass_on", "unready_steps", "Ready", "unwanted_ends", "unwanted_steps", "Wanted", "_law_bag", "_law_take", "_law_net", "_law_mended", "_law_base", "_law_names", "_law_value", "_law_operand", "_law_deed", "_law_row", "_law_plan", "_law_lists", "_law_made", "_law_told", "_law_second"] : List String).map Str.ofString
theorem left_one {p q : Program} {loose : List Str} {Xt : Shared → Bool} {α : Type} {Yf : Shared → α} {Ya : World → α} {N m₀ : Nat} {ann : Option Value} (e : opening p = plainProg p.main.scope.names) (hN : Nat.ble 600 N = true) (f : ∀ s, fenceModules? p s = some s)
    (size : ∀ w : World, ((boot_heap w.params).isNs mainGlobals, (boot_heap w.params).objs.size, (boot_heap w.params).nsMap mainGlobals "__annotations__") = (true, m₀, ann))
    {r : World → OsState → Option Shared} (hr : ∀ w os x, r w os = some x → topRun treeTable p w m₀ ann N ⟨boot_heap w.params, Array.mk [], boot_drawn, boot_toks, os⟩ (topStub p) = some x)
    (ra : ∀ w os, (r w os).map (fun s₁ => staticsOk (importedModules p.main.body) (boot_heap w.params) s₁.heap && namesBound p s₁.heap && gensDone s₁ && laidKept (boot_heap w.params) s₁.heap) = some true)
    (rb : ∀ w os, (r w os).map (openSeen q loose (importedModules p.main.body) Xt true) = some (openGood q loose))
    (rc : ∀ w os, (r w os).map Yf = some (Ya w)) :
    LeftO p q loose Xt Yf Ya N := fun w => by
  obtain ⟨⟨h, gs, d, k, os⟩, e1, e2⟩ := Option.map_eq_some_iff.mp (boot_open e hN f w);obtain ⟨rfl, rfl, rfl, rfl⟩ : h = boot_heap w.params ∧ gs = Array.mk [] ∧ d = boot_drawn ∧ k = boot_toks := by simpa using e2
  obtain ⟨z1, z2, z3⟩ : _ ∧ _ ∧ _ := by simpa only [Prod.mk.injEq] using size w
  obtain ⟨s₁, r1, r3⟩ := Option.map_eq_some_iff.mp (ra w os);have rb := rb w os;have rc := rc w os;rw [r1] at rb rc;have r1 := hr w os _ r1;have r4 : (openSeen q loose (importedModules p.main.body) Xt true s₁, Yf s₁) = (openGood q loose, Ya w) := Prod.ext (Option.some.inj rb) (Option.some.inj rc)
  have t : topFrom treeTable p w N ⟨boot_heap w.params, Array.mk [], boot_drawn, boot_toks, os⟩ = some s₁ := by
    unfold topFrom;dsimp only;rw [z1, z2, z3, r1];show (match staticsOk (importedModules p.main.body) (boot_heap w.params) s₁.heap && namesBound p s₁.heap && gensDone s₁ && laidKept (boot_heap w.params) s₁.heap with | true => some s₁ | false => none) = _;rw [r3]
  unfold openEnds;rw [e1];show (topFrom treeTable p w N _).map _ = _;rw [t];exact congrArg some r4
abbrev hook : Hook := kHook K adr (fun _ => by kernel_rfl)
abbrev row : OpenLaw := PySem.Challenge.rw_oncedone_k45_two_deeds_by_turns
def kZ (x q : Str) (st : Stmt) : Obj := ⟨.none, none, .func { fnOf x q (defArgs st) (defBody st) (defScope st) .none .none .none .none none .none .none with globals := 0 }, #[]⟩
def kS (xs : List Value) (n : Nat) : Obj := ⟨.type "tuple", none, .seq xs.toArray n, ([] : List (Option Value)).toArray⟩
noncomputable section
def kk (a : Addr) (Q : Params) : Obj := ((K Q).lookup a).getD (boot_o_4 Q)
abbrev kY (n : Str) (i : Nat) : Obj := kZ n n (top i)
abbrev k0 : Obj := ⟨.none, none, .fields ([] : List Value).toArray, ([] : List (Option Value)).toArray⟩
abbrev kf (xs : List Value) (z : Obj) (a : Nat) (Q : Params) (r : List Obj) : List Obj := kS [] 0 :: k0 :: kS xs 0 :: kS [] 0 :: z :: kk a Q :: kk (a + 1) Q :: r
abbrev ke (z : Obj) (a : Nat) (Q : Params) (r : List Obj) : List Obj := kS [] 0 :: k0 :: z :: kk a Q :: kk (a + 1) Q :: r
abbrev kw (c : String) (xs : List Value) : Obj := ⟨.type c, none, .fields xs.toArray, ([] : List (Option Value)).toArray⟩
abbrev kl (n : Str) (a l r : Nat) : Obj := kw "code" [.str n a, .str n (a + 1), .str "/claim/cut.py" (a + 2), .int l 0, .int 0 0, .int 0 0, .int 0 0, .int 0 0, .ref r, .bool false, .int 181 0, .ref (r + 1), .none, .none, .none, .none, .int (a + 3 : Nat) 0, .int l 0, .str "/claim/cut.py" (a + 4)]
abbrev kb (b : String) (v : Value) : Obj := kw "builtin_function_or_method" [.builtin b, v]
abbrev ku (r : Nat) : Obj := kw "super" [.ref r, .ref r, .ref r]
abbrev kr (c l : Nat) (m : Value) : Obj := ⟨.type "frame", none, .plain, ([some (.ref c), some (.ref 3), some (.ref l), none, some m, none, some (.ref 0)] : List (Option Value)).toArray⟩
abbrev kt (xs : List (Nat × Nat × Nat)) : Obj := ⟨.none, none, .fields (xs.flatMap fun x => ([.int x.1 0, .int x.2.1 0, .ref x.2.2] : List Value)).toArray, ([] : List (Option Value)).toArray⟩
abbrev kx (o : Obj) (r : List Obj) : List Obj := o :: r
def h1 (Q : Params) : List Obj :=
kx (boot_o_0 Q) <|
kx (boot_o_1 Q) <|
kx (boot_o_2 Q) <|
kx (kD [kE Q "__name__" 165 m5, kE Q "__doc__" 166 .none, kE Q "__package__" 167 .none, kE Q "__loader__" 168 (.builtin "__main__.__loader__#opaque"), kE Q "__spec__" 169 .none, kE Q "__annotations__" 170 (.ref 6), kE Q "__builtins__" 171 (.ref 4), kE Q "__file__" 173 (.str "/claim/cut.py" 172), kE Q "__cached__" 174 .none, kE Q "_wall" 193 (.ref 21), kE Q "BOUND" 197 (.int (1000000000000) 196), kE Q "LETTERS" 199 (.str "abcdefghijklmnopqrstuvwxyz" 198), kE Q "FIGURES" 201 (.str "0123456789" 200), kE Q "LONGEST_NAME" 203 (.int (8) 202), kE Q "DEED_KINDS" 209 (.ref 22), kE Q "is_whole" 216 (.ref 29), kE Q "is_value" 223 (.ref 36), kE Q "is_name" 229 (.ref 41), kE Q "is_operand" 236 (.ref 48), kE Q "is_deed" 243 (.ref 55), kE Q "is_row" 252 (.ref 62), kE Q "deed_of" 261 (.ref 69), kE Q "set_by" 268 (.ref 76), kE Q "does" 276 (.ref 83), kE Q "spoils" 284 (.ref 90), kE Q "OnceError" 304 (.ref 100), kE Q "Wrong" 329 (.ref 120), kE Q "NoThing" 354 (.ref 139), kE Q "TooMany" 379 (.ref 158), kE Q "NoWay" 404 (.ref 177), kE Q "MOST" 408 (.int (400) 407), kE Q "is_below" 416 (.ref 186), kE Q "check_length" 425 (.ref 193), kE Q "check_each" 434 (.ref 200), kE Q "FIRST_STEP" 440 (.ref 201), kE Q "are_nexts" 446 (.ref 206), kE Q "check_nexts" 452 (.ref 211), kE Q "stops_of" 458 (.ref 216), kE Q "turned" 464 (.ref 221), kE Q "reached" 475 (.ref 228), kE Q "check_ways" 485 (.ref 235), kE Q "steps_of" 491 (.ref 240), kE Q "Plan" 564 (.ref 297)] 43) <|
kx (boot_o_4 Q) <|
kx (boot_o_5 Q) <|
kx (boot_o_6 Q) <|
kx (boot_o_7 Q) <|
kx (boot_o_8 Q) <|
kx (boot_o_9 Q) <|
kx (boot_o_10 Q) <|
kx (kS [] 0) <|
kx (kt [(1, 0, 20), (10, 0, 28), (12, 0, 35), (14, 0, 40), (18, 0, 47), (20, 0, 54), (24, 0, 61), (39, 0, 68), (41, 0, 75), (43, 0, 82), (45, 0, 89), (48, 0, 96), (50, 0, 109), (54, 0, 128), (58, 0, 147), (62, 0, 166), (68, 0, 185), (70, 0, 192), (75, 0, 199), (81, 0, 205), (86, 0, 210), (90, 0, 215), (92, 0, 220), (98, 0, 227), (107, 0, 234), (113, 0, 239), (118, 0, 246)]) <|
kx (kl "<module>" 182 1 11) <|
kx (kr 13 3 m0) <|
kf [(.str "k" 190)] (kY "_wall" 0) 20 Q <|
kx (kk 22 Q) <|
kf [(.str "thing" 213)] (kY "is_whole" 7) 28 Q <|
kf [(.str "thing" 220)] (kY "is_value" 8) 35 Q <|
ke (kY "is_name" 9) 40 Q <|
kf [(.str "thing" 233)] (kY "is_operand" 10) 47 Q <|
kf [(.str "thing" 240)] (kY "is_deed" 11) 54 Q <|
kf [(.str "thing" 247), (.str "kind" 248), (.str "rest" 249)] (kY "is_row" 12) 61 Q <|
kf [(.str "row" 258)] (kY "deed_of" 14) 68 Q <|
kf [(.str "row" 265)] (kY "set_by" 15) 75 Q <|
kf [(.str "row" 272), (.str "deed" 273)] (kY "does" 16) 82 Q <|
kf [(.str "row" 280), (.str "deed" 281)] (kY "spoils" 17) 89 Q <|
kx (kS [(.type "ValueError")] 0) <|
kx (kb "type.__prepare__" (.type "type")) <|
kx (kD (kQ Q 294 m3 "OnceError" 48 [kE Q "__static_attributes__" 299 (.ref 98)]) 4) <|
kx (kS [] 0) <|
kx k0 <|
kx (kl "OnceError" 289 48 94) <|
kx (kr 96 93 m3) <|
kx (kS [] 0) <|
kx (kk 99 Q) <|
kx (kk 100 Q) <|
kx ⟨(.type "getset_descriptor"), none, .fields ([(.str "__weakref__" 300), (.ref 100), (.builtin "ExceptionGroup.__weakref__"), .none] : List Value).toArray, ([] : List (Option Value)).toArray⟩ <|
kx (ku 100) <|
kx (kb "object.__init_subclass__" (.ref 100)) <|
kx (kS [(.ref 100)] 0) <|
kx (kb "type.__prepare__" (.type "type")) <|
kx (kD (kQ Q 312 m3 "Wrong" 50 [kE Q "__init__" 324 (.ref 117), kE Q "__static_attributes__" 326 (.ref 118)]) 5) <|
kx (kS [] 0) <|
kx (kt [(52, 4, 116)]) <|
kx (kl "Wrong" 307 50 107) <|
kx (kr 109 106 m3) <|
kf [(.str "self" 320), (.str "at" 321)] (kZ "__init__" "Wrong.__init__" (inClass (top 20) 0)) 116 Q <|
kx (kS [(.str "at" 325)] 0) <|
kx (kk 119 Q) <|
kx (kk 120 Q) <|
kx (ku 120) <|
kx (kb "object.__init_subclass__" (.ref 120)) <|
kx (kS [(.ref 100)] 0) <|
kx (kb "type.__prepare__" (.type "type")) <|
kx (kD (kQ Q 337 m3 "NoThing" 54 [kE Q "__init__" 349 (.ref 136), kE Q "__static_attributes__" 351 (.ref 137)]) 5) <|
kx (kS [] 0) <|
kx (kt [(56, 4, 135)]) <|
kx (kl "NoThing" 332 54 126) <|
kx (kr 128 125 m3) <|
kf [(.str "self" 345), (.str "at" 346)] (kZ "__init__" "NoThing.__init__" (inClass (top 21) 0)) 135 Q <|
kx (kS [(.str "at" 350)] 0) <|
kx (kk 138 Q) <|
kx (kk 139 Q) <|
kx (ku 139) <|
kx (kb "object.__init_subclass__" (.ref 139)) <|
kx (kS [(.ref 100)] 0) <|
kx (kb "type.__prepare__" (.type "type")) <|
kx (kD (kQ Q 362 m3 "TooMany" 58 [kE Q "__init__" 374 (.ref 155), kE Q "__static_attributes__" 376 (.ref 156)]) 5) <|
kx (kS [] 0) <|
kx (kt [(60, 4, 154)]) <|
kx (kl "TooMany" 357 58 145) <|
kx (kr 147 144 m3) <|
kf [(.str "self" 370), (.str "most" 371)] (kZ "__init__" "TooMany.__init__" (inClass (top 22) 0)) 154 Q <|
kx (kS [(.str "most" 375)] 0) <|
kx (kk 157 Q) <|
kx (kk 158 Q) <|
kx (ku 158) <|
kx (kb "object.__init_subclass__" (.ref 158)) <|
kx (kS [(.ref 100)] 0) <|
kx (kb "type.__prepare__" (.type "type")) <|
kx (kD (kQ Q 387 m3 "NoWay" 62 [kE Q "__init__" 399 (.ref 174), kE Q "__static_attributes__" 401 (.ref 175)]) 5) <|
kx (kS [] 0) <|
kx (kt [(64, 4, 173)]) <|
kx (kl "NoWay" 382 62 164) <|
kx (kr 166 163 m3) <|
kf [(.str "self" 395), (.str "at" 396)] (kZ "__init__" "NoWay.__init__" (inClass (top 23) 0)) 173 Q <|
kx (kS [(.str "at" 400)] 0) <|
kx (kk 176 Q) <|
kx (kk 177 Q) <|
kx (ku 177) <|
kx (kb "object.__init_subclass__" (.ref 177)) <|
kf [(.str "thing" 412), (.str "many" 413)] (kY "is_below" 26) 185 Q <|
kf [(.str "things" 420), (.str "at" 421), (.str "least" 422)] (kY "check_length" 27) 192 Q <|
kf [(.str "rights" 429), (.str "k" 430), (.str "right" 431)] (kY "check_each" 28) 199 Q <|
kx (kk 201 Q) <|
ke (kY "are_nexts" 31) 205 Q <|
ke (kY "check_nexts" 32) 210 Q <|
ke (kY "stops_of" 33) 215 Q <|
ke (kY "turned" 34) 220 Q <|
kf [(.str "begins" 468), (.str "leads" 469), (.str "seen" 470), (.str "waiting" 471), (.str "place" 472)] (kY "reached" 35) 227 Q <|
kf [(.str "nexts" 479), (.str "begun" 480), (.str "ending" 481), (.str "place" 482)] (kY "check_ways" 36) 234 Q <|
ke (kY "steps_of" 37) 239 Q <|
kx (kS [] 0) <|
kx (kb "type.__prepare__" (.type "type")) <|
kx (kD (kQ Q 499 m5 "Plan" 118 [kE Q "__init__" 509 (.ref 252), kE Q "steps" 516 (.ref 259), kE Q "leads_to" 524 (.ref 266), kE Q "steps_into" 532 (.ref 273), kE Q "stops" 539 (.ref 280), kE Q "deeds" 546 (.ref 287), kE Q "names" 553 (.ref 294), kE Q "__static_attributes__" 557 (.ref 295)]) 11) <|
kx (kS [] 0) <|
kx (kt [(120, 4, 251), (131, 4, 258), (134, 4, 265), (139, 4, 272), (142, 4, 279), (145, 4, 286), (148, 4, 293)]) <|
kx (kl "Plan" 494 118 244) <|
kx (kr 246 243 m5) <|
ke (kZ "__init__" "Plan.__init__" (inClass (top 38) 0)) 251 Q <|
kf [(.str "self" 513)] (kZ "steps" "Plan.steps" (inClass (top 38) 1)) 258 Q <|
kf [(.str "self" 520), (.str "step" 521)] (kZ "leads_to" "Plan.leads_to" (inClass (top 38) 2)) 265 Q <|
kf [(.str "self" 528), (.str "place" 529)] (kZ "steps_into" "Plan.steps_into" (inClass (top 38) 3)) 272 Q <|
kf [(.str "self" 536)] (kZ "stops" "Plan.stops" (inClass (top 38) 4)) 279 Q <|
kf [(.str "self" 543)] (kZ "deeds" "Plan.deeds" (inClass (top 38) 5)) 286 Q <|
kf [(.str "self" 550)] (kZ "names" "Plan.names" (inClass (top 38) 6)) 293 Q <|
kx (kS [(.str "entries" 554), (.str "nexts" 555), (.str "rows" 556)] 0) <|
kx (kk 296 Q) <|
kx (kk 297 Q) <|
kx ⟨(.type "getset_descriptor"), none, .fields ([(.str "__dict__" 558), (.ref 297), (.builtin "function.__dict__"), (.builtin "function.__dict__#set")] : List Value).toArray, ([] : List (Option Value)).toArray⟩ <|
kx ⟨(.type "getset_descriptor"), none, .fields ([(.str "__weakref__" 560), (.ref 297), (.builtin "ExceptionGroup.__weakref__"), .none] : List Value).toArray, ([] : List (Option Value)).toArray⟩ <|
kx (ku 297) <|
kx (kb "object.__init_subclass__" (.ref 297)) <| []
abbrev bd : List Stmt := behindTheImports P
abbrev en : Env := { scope := P.main.scope, locals := mainNs, globals := mainNs, cells := [], code := (.ref 13), frame := some 14 }
abbrev cE : Code := .body bd en
abbrev fB : List Frame := [topFrame ⟨0, 0, 0, 0⟩]
abbrev s0 (w : World) (os : OsState) : Shared := ⟨boot_heap w.params, Array.mk [], boot_drawn, boot_toks, os⟩
def sa (w : World) (os : OsState) : Shared := ((topGo treeTable P w 11 (some (.ref 6)) 12 (s0 w os) (topStub P)).map (·.1)).getD (s0 w os)
abbrev s1 (w : World) (os : OsState) : Shared := ⟨⟨Array.mk (h1 w.params), (boot_heap w.params).life⟩, Array.mk [], boot_drawn, 565, os⟩
abbrev rn (w : World) (os : OsState) : Option Shared := PySem.W.Fast.tw14082659384304107361 PySem.W.Fast.tw14364793385576792824 P w 11 (some (.ref 6)) 6089 (s1 w os) (restOf (bd.drop 39) en cE ⟨118, 0, 149, 16⟩ fB)
end
theorem go_a (w : World) (os : OsState) : topGo treeTable P w 11 (some (.ref 6)) 12 (s0 w os) (topStub P) = some (sa w os, ⟨denote treeTable cE, cE, ⟨0, 0, 0, 0⟩, fB⟩) := by kernel_rfl
theorem go_b (w : World) (os : OsState) : segRun treeTable P w 11 (some (.ref 6)) 1 1 (sa w os) (blockOf bd en cE ⟨0, 0, 0, 0⟩ fB) = some (.next, sa w os, cE, ⟨0, 0, 0, 0⟩) := by kernel_rfl
theorem go_c (w : World) (os : OsState) : segRun treeTable P w 11 (some (.ref 6)) 1 2304 (sa w os) (piecesOf (bd.take 39) en cE ⟨0, 0, 0, 0⟩ fB) = some (.next, s1 w os, cE, ⟨118, 0, 149, 16⟩) := by kernel_rfl
theorem go_d (w : World) (os : OsState) (x : Shared) (h : rn w os = some x) : topRun treeTable P w 11 (some (.ref 6)) 8406 (s0 w os) (topStub P) = some x := by
  have h : topRun treeTable P w 11 (some (.ref 6)) 6089 (s1 w os) (restOf (bd.drop 39) en cE ⟨118, 0, 149, 16⟩ fB) = some x := by rw [PySem.W.Fast.te14082659384304107361, PySem.W.Fast.te14364793385576792824]; exact h
  have h := piece_app (go_c w os) h;rw [List.take_append_drop] at h;exact go_top (go_a w os) (piece_block (go_b w os) h)
theorem left_a (w : World) (os : OsState) : (rn w os).map (fun s₁ => staticsOk (importedModules P.main.body) (boot_heap w.params) s₁.heap && namesBound P s₁.heap && gensDone s₁ && laidKept (boot_heap w.params) s₁.heap) = some true := by kernel_rfl
theorem left_b (w : World) (os : OsState) : (rn w os).map (PySem.W.Fast.tw4187177175401517315 q loose (importedModules P.main.body) (fun s => xlAt q [] s && recOk (RowW.records row.row.toRowW) s) true) = some (openGood q loose) := by kernel_rfl
theorem left_c1 (w : World) (os : OsState) : (rn w os).map (fun s => adr1.map s.heap.get?) = some ((K1 w.params).map fun p => some p.2) := by kernel_rfl
theorem left_c2 (w : World) (os : OsState) : (rn w os).map (fun s => adr2.map s.heap.get?) = some ((K2 w.params).map fun p => some p.2) := by kernel_rfl
theorem left_c3 (w : World) (os : OsState) : (rn w os).map (fun s => adr3.map s.heap.get?) = some ((K3 w.params).map fun p => some p.2) := by kernel_rfl
theorem left_c4 (w : World) (os : OsState) : (rn w os).map (fun s => adr4.map s.heap.get?) = some ((K4 w.params).map fun p => some p.2) := by kernel_rfl
theorem left_e (w : World) (os : OsState) : (rn w os).map (Hook.obs hook) = some (Hook.val hook w) := by
  obtain ⟨s, h1, h2⟩ := Option.map_eq_some_iff.mp (left_c1 w os);have h3 := left_c2 w os;have h4 := left_c3 w os;have h5 := left_c4 w os;rw [h1] at h3 h4 h5 ⊢;have h3 : adr2.map s.heap.get? = _ := Option.some.inj h3;have h4 : adr3.map s.heap.get? = _ := Option.some.inj h4;have h5 : adr4.map s.heap.get? = _ := Option.some.inj h5;show some ((adr1 ++ (adr2 ++ (adr3 ++ adr4))).map s.heap.get?) = some ((K1 w.params ++ (K2 w.params ++ (K3 w.params ++ K4 w.params))).map fun p => some p.2);rw [List.map_append, List.map_append, List.map_append, List.map_append, List.map_append, List.map_append, h2, h3, h4, h5]
theorem left : LeftO P q loose (fun s => xlAt q [] s && recOk (RowW.records row.row.toRowW) s) (Hook.obs hook) (Hook.val hook) 8406 :=
  left_one (m₀ := 11) (ann := (some (.ref 6))) (r := rn) (by kernel_rfl) (by kernel_rfl) (fun s => by kernel_rfl) (fun w => by kernel_rfl) go_d left_a (by rw [PySem.W.Fast.te4187177175401517315]; exact left_b) left_e
theorem said0 : row.wellSaid = true := by
  rw [PySem.W.Fast.te9446332074065402090];kernel_rfl
theorem fin (hc : ∀ d : DefRec, d.name = "law" → d.params.defaults = [] → WalkO q loose (XL q []) (Hook.says hook) row.row.toRowW d [] (fun f vs => PySem.call f vs)) : row.Holds := by
  refine holds_law (l := row) said0 fun said => ?_
  refine holds_open (q := q) (loose := loose) (Xt := fun s => xlAt q [] s && recOk (RowW.records row.row.toRowW) s) (XP := XL q []) (Yf := Hook.obs hook) (Ya := Hook.val hook) (YP := Hook.says hook) (N := 8406) left (Hook.of hook) (Hook.keeps hook) (fun s e => xl_of s (Bool.and_eq_true_iff.mp e).1) XL.keeps (by rfl) (by rfl) (by rfl) (fun s e => recFacts_of (Bool.and_eq_true_iff.mp e).2) (by rfl) said (by decide +kernel) ⟨rfl, rfl, rfl, rfl, rfl, by decide +kernel⟩ ?hw (hc _ rfl rfl)
  case hw => w_witness2
end HD
set_option maxHeartbeats 4000000
namespace L2
open PySem PySem.Spec PyProof.Rows
theorem clos_ex{env:Env}:∀(names:List (Str×NameKind)) (cs:List (Str×Addr)),(∀y∈names,y.2=.free->∃c,env.cells.lookup y.1=some c) ->
  (∀y c,cs.lookup y=some c->env.cells.lookup y=some c) ->
  ∃cl,(forIn names cs (fun(x:Str×NameKind) (r:List (Str×Addr))=>(if(x.2 == NameKind.free)=true then (do let c <-cellOf env x.1;pure (ForInStep.yield ((x.1,c)::r)))else pure (ForInStep.yield r):Sem (ForInStep (List (Str×Addr)))))=(pure cl:Sem (List (Str×Addr)))) /\
   (∀y c,cl.lookup y=some c->env.cells.lookup y=some c)/\(∀y,(y,NameKind.free)∈names\/(cs.lookup y).isSome=true->(cl.lookup y).isSome=true)
 | [],cs,_,h=>⟨cs,rfl,h,fun y q=>q.elim (fun z=>absurd z (by simp)) id⟩
 | (n,k)::r,cs,hc,h=>by
  by_cases e:(k == NameKind.free)=true
  ·have ek:k=.free:=by simpa using e
   obtain⟨c,hcc⟩:=hc (n,k) List.mem_cons_self ek
   have h':∀y d,((n,c)::cs).lookup y=some d->env.cells.lookup y=some d:=by
    intro y d q;rw[List.lookup_cons]at q;cases eq:y == n with
    | true=>
     rw[eq]at q;have e2:y=n:=by simpa using eq
     cases q;rw[e2];exact hcc
    | false=>rw[eq]at q;exact h y d q
   obtain⟨cl,h1,h2,h3⟩:=clos_ex r ((n,c)::cs) (fun y hy=>hc y (List.mem_cons_of_mem _ hy)) h';refine⟨cl,?_,h2,fun y q=>h3 y ?_⟩
   ·rw[List.forIn_cons]
    show((if(k == NameKind.free)=true then (do let c <-cellOf env n;pure (ForInStep.yield ((n,c)::cs)))else pure (ForInStep.yield cs):Sem (ForInStep (List (Str×Addr)))) >>= _)=_;rw[if_pos e];have ec:cellOf env n=pure c:=by unfold cellOf;rw[hcc]
    rw[ec];exact h1
   ·rcases q with q | q
    ·rcases List.mem_cons.mp q with q | q
     ·cases q
      right;simp[List.lookup_cons]
     ·exact .inl q
    ·right
     rw[List.lookup_cons];cases y == n
     ·exact q
     ·rfl
  ·obtain⟨cl,h1,h2,h3⟩:=clos_ex r cs (fun y hy=>hc y (List.mem_cons_of_mem _ hy)) h
   refine⟨cl,?_,h2,fun y q=>h3 y ?_⟩
   ·rw[List.forIn_cons]
    show((if(k == NameKind.free)=true then (do let c <-cellOf env n;pure (ForInStep.yield ((n,c)::cs)))else pure (ForInStep.yield cs):Sem (ForInStep (List (Str×Addr)))) >>= _)=_;rw[if_neg e];exact h1
   ·rcases q with q | q
    ·rcases List.mem_cons.mp q with q | q
     ·cases q
      exact absurd rfl e
     ·exact .inl q
    ·exact .inr q
theorem closure_ex{scope:Scope}{env:Env}(hc:∀y∈scope.names,y.2=.free->∃c,env.cells.lookup y.1=some c) :
  ∃cl,closureFor scope env=pure cl/\(∀y c,cl.lookup y=some c->env.cells.lookup y=some c)/\∀y,(y,NameKind.free)∈scope.names->(cl.lookup y).isSome=true:=by
 obtain⟨cl,h1,h2,h3⟩:=clos_ex scope.names [] hc (fun y c q=>by cases q);refine⟨cl,?_,h2,fun y q=>h3 y (.inl q)⟩;unfold closureFor
 first
  | exact h1
  | (show(forIn scope.names [] _ >>= fun r=>pure r)=_;rw[h1];rfl)
theorem lookup_relabel{env:Env}:∀ {names:List (Str×NameKind)} {y:Str} {k:NameKind},
  (names.map fun(n,k)=>if(k == NameKind.free&&env.scope.kind == .function&&env.kindOf n == some .cell)then (n,NameKind.cell)else (n,k)).lookup y=some k ->
  names.lookup y=some k\/(names.lookup y=some .free/\k=.cell)
 | [],_,_,h=>by cases h
 | (n,k0)::r,y,k,h=>by
  have ih := @lookup_relabel env r y k;rw[List.map_cons]at h;rw[List.lookup_cons];cases hx:y == n with
  | true=>
   by_cases hc:(k0 == NameKind.free&&env.scope.kind == .function&&env.kindOf n == some .cell)=true
   ·have e2:k0=.free:=by simp at hc;exact hc.1.1
    dsimp only at h;rw[if_pos hc,List.lookup_cons,hx]at h;cases h;exact .inr ⟨by rw[e2],rfl⟩
   ·dsimp only at h
    rw[if_neg hc,List.lookup_cons,hx]at h;exact .inl h
  | false=>
   by_cases hc:(k0 == NameKind.free&&env.scope.kind == .function&&env.kindOf n == some .cell)=true
   ·dsimp only at h
    rw[if_pos hc,List.lookup_cons,hx]at h;exact ih h
   ·dsimp only at h
    rw[if_neg hc,List.lookup_cons,hx]at h;exact ih h
def hid(x:Str)(N:List Str):List Str:=N.map fun y=>if y=x then ("." : Str)++x else y
def cxComp(X:Cx)(scope:Scope)(cl:List (Str×Addr))(C:Addr)(x:Str)(fp:List Addr)(s3:Shared)(H3:Hp):Cx:=
 { X with N:=x::hid x X.N,s₀:=s3,H₀:=H3,env:=compEnvC scope cl C X.env,outer:=X.stack,stack:=X.stack,ex:=fp,fn:=fun _=>false,pn:=[],xe:=fun _ _=>False }
structure CompOk(N:List Str)(osc sc:Scope)(x:Str):Prop where
 kind:sc.kind=.function
 cell:∀y∈sc.names,y.2≠.cell
 names:∀y∈sc.names,y.2=.local->sc.names.lookup y.1=some .local
 own:sc.names.lookup x=some .local
 fr:∀y∈sc.names,y.2=.free->osc.names.lookup y.1=some .cell\/osc.names.lookup y.1=some .free
 see:∀y∈hid x N,sc.names.lookup y≠some .local
 dot:sc.names.lookup (("." : Str)++x)=none
 nd:(x::hid x N).Nodup
def tComp(wi:TI)(tt:TT)(te:TE):TE:=fun σ H Q=>wi σ H fun J H1=>∀D,H1 D=none->∃W:Nat->Nat->List V->Hp->Prop,
 (∃m,W 0 m [] (upd H1 D (.lst [])))/\∀i m ys H2,W i m ys H2->H2 D=some (.lst ys) /\
  ((J.stop i H2 ∧ Q (.ref D) H2) ∨ (J.go i H2 ∧ ∀ x H3, J.yld i H2 x H3 → tt (some x :: σ) H3 fun ok H4 => if ok = true then
    te (some x::σ) H4 (fun y H5=>H5 D=some (.lst ys)/\ys.length<sizeLine/\∃m',m'<m/\W (i+1) m' (ys++[y]) (upd H5 D (.lst (ys++[y]))))
    else ∃m',m'<m/\W (i+1) m' ys H4))
def PTs(X:Cx)(ifs:List Expr)(t:TT):Prop:=
 ∀(pins:List (Addr×Obj)) (s:Shared) (σ:St) (H:Hp) (Q:Bool->Hp->Prop),Inv X pins σ H s->t σ H Q ->
  wpAny (model X.prog X.w) X.A (forIn ifs true fun c r=>if r=true then do let ok <-isTrue c X.env (eval c X.env);pure (ForInStep.yield ok)else pure (ForInStep.yield r)) (TP X pins σ Q) X.xe s
def tTrue:TT:=fun _ H Q=>Q true H
theorem pts_nil{X:Cx}:PTs X [] tTrue:=fun _ _ _ H _ I h=>wpAny_tests_nil ⟨H,I,h⟩
theorem pts_one{X:Cx}{c:Expr}{t:TT}(h:PT X c t):PTs X [c] t:=fun pins s σ H Q I hq=>wpAny_tests_one (h pins s σ H Q I hq)
theorem comp_loop{prog:Program}{w:World}{A:Around}{R:Result->Shared->Prop}{s:Shared}{elt target iter:Expr}{ifs:List Expr}{scope:Scope}{pos:Pos}{it acc:Value}{env:Env}(I:Nat->Shared->Prop)
  (turn:∀n s,I n s->wpAny (model prog w) A (pyNext it) (fun r s₁=>match r with
   | none=>R (.ok .next) s₁
   | some v=>wpAny (model prog w) A (letOwnedTupleGo target it v) (fun _ s₂=>wpAny (model prog w) A (assign target env v) (fun _ s₃=>
     wpAny (model prog w) A (forIn ifs true fun c r=>if r=true then do let ok <-isTrue c env (eval c env);pure (ForInStep.yield ok)else pure (ForInStep.yield r)) (fun ok s₄=>
      if ok=true then wpAny (model prog w) A (eval elt env) (fun x s₅=>
       wpAny (model prog w) A (call (.builtin "list.append") [acc,x]) (fun _ s₆=>∃m,m<n/\I m s₆) (fun _ _=>False) s₅) (fun _ _=>False) s₄
      else ∃m,m<n/\I m s₄) (fun _ _=>False) s₃) (fun _ _=>False) s₂) (fun _ _=>False) s₁) (fun _ _=>False) s)
  (n:Nat) (h:I n s) :
  codeAny (model prog w) A (.compLoop (.ListComp elt [⟨target,iter,ifs,0⟩] scope pos) 0 it acc env) R s:=by
 have up:∀ {α:Type} {m:Sem α} {Q:α->Shared->Prop} {E:Value->Shared->Prop} {s:Shared},wpAny (model prog w) A m Q (fun _ _=>False) s->wpAny (model prog w) A m Q E s:=
  fun h=>wpAny_mono h (fun _ _ q=>q) fun _ _ f=>f.elim
 refine codeAny_loop rfl I (fun n s hI=>?_) n h;refine wpAny_noted ?_;rw[compTurn_list];refine wpAny_bind (wpAny_standAt (wpAny_bind (up (thn (turn n s hI) fun r s₁ h₁=>?_))));cases r with
 | none=>exact wpAny_pure h₁
 | some v=>
  refine wpAny_bind (up (thn h₁ fun _ s₂ h₂=>wpAny_bind (up (thn h₂ fun _ s₃ h₃=>wpAny_bind (up (thn h₃ fun ok s₄ h₄=>?_))))));cases ok with
  | false=>exact wpAny_pure ⟨rfl,by simpa using h₄⟩
  | true=>
   rw[if_pos rfl]at h₄;exact wpAny_bind (wpAny_bind (up (thn h₄ fun x s₅ h₅=>wpAny_bind (up (thn h₅ fun _ s₆ h₆=>wpAny_pure (wpAny_pure ⟨rfl,h₆⟩))))))
section
variable {X:Cx}{elt iter:Expr}{x:Str}{px pos:Pos}{ifs:List Expr}{scope:Scope}
theorem comp_inv{pins:List (Addr×Obj)}{σ:St}{H:Hp}{s3:Shared}{cl:List (Str×Addr)}{fp:List Addr}{h4:Heap}{tk:Nat}(hc:CompOk X.N X.env.scope scope x)(I:Inv X pins σ H s3)
  (hcl:∀y c,cl.lookup y=some c->X.env.cells.lookup y=some c) (hcl2:∀y,(y,NameKind.free)∈scope.names->(cl.lookup y).isSome=true)
  (fpo:∀b∈fp,FpOk X pins H b) (fpl:∀b∈fp,b<s3.heap.objs.size)
  (hn:h4.Ns s3.heap.objs.size (fun _=>none)) (k:∀b o,s3.heap.get? b=some o->h4.get? b=some o) :
  Inv (cxComp X scope cl s3.heap.objs.size x fp s3 H) [] (none::σ) H { s3 with heap:=h4,toks:=tk }:=by
 have low:∀x y,(cxComp X scope cl s3.heap.objs.size x fp s3 H).env.cells.lookup y=cl.lookup y:=fun _ _=>rfl
 have below:∀y c,cl.lookup y=some c->c<s3.heap.objs.size:=fun y c e=>by
  obtain⟨v,q⟩:=I.cell y c (hcl y c e);exact q.lt
 have kinds:∀y,((cxComp X scope cl s3.heap.objs.size x fp s3 H).env.kindOf y=some .cell\/(cxComp X scope cl s3.heap.objs.size x fp s3 H).env.kindOf y=some .free)->scope.names.lookup y=some .free:=by
  intro y hy;rcases hy with hy | hy
  ·rcases lookup_relabel hy with q | ⟨q,_⟩
   ·exact absurd rfl (hc.cell _ (PySem.mem_of_lookup q))
   ·exact q
  ·rcases lookup_relabel hy with q | ⟨q,z⟩
   ·exact q
   ·cases z
 refine⟨⟨I.ok.mod,?_,I.ok.glob,I.ok.blt,Nat.le_refl _,fun y z c h1 h2=>?_,fun y hy=>?_,fun y c h=>?_,I.ok.hd,I.ok.frames,.inl rfl,fun b hb=>⟨?_,fun y c e z=>?_⟩,fun b o e=>I.bs b o e,Nat.le_trans I.ok.bsz I.sz,fun b o e hb=>?_,fun b hb hf=>?_,I.stack,I.stkFree⟩,
  rfl,I.bare,Un.kept k,⟨_,hn,fun i y v h1 h2 h3=>?_⟩,fun y c e=>?_,I.fresh,fun y c e=>?_,fun p hp=>absurd (show p∈([]:List (Addr×Obj))from hp) (by simp),I.hok.kept k,?_⟩
 ·exact hc.kind
 ·exact I.ok.inj y z c (hcl _ _ h1) (hcl _ _ h2)
 ·have:=hcl2 y (PySem.mem_of_lookup (kinds y hy))
  exact Option.isSome_iff_exists.mp this
 ·cases h
 ·exact Nat.ne_of_lt (fpl b hb)
 ·exact(fpo b hb).2.2.2.2.1 y c (hcl y c e) z
 ·rcases(fpo b hb).2.2.2.1 with q | q
  ·exact I.ok.noex b o e q
  ·exact absurd (Nat.lt_of_lt_of_le (Heap.lt_size (I.ok.bs b o e).1) q) (Nat.lt_irrefl _)
 ·rcases List.mem_cons.mp (I.stkSub b hf)with e | e
  ·exact(fpo b hb).2.1 e
  ·exact(fpo b hb).2.2.1 e
 ·-- the names
  have h1:(x::hid x X.N)[i]? = some y:=h1;cases i with
  | zero=>cases h2
  | succ i=>
   have h1:(hid x X.N)[i]? = some y:=h1;have h2:σ[i]? = some (some v):=h2;have my:y∈hid x X.N:=List.mem_of_getElem? h1;have h3:(relabel scope X.env).names.lookup y=some .local\/(relabel scope X.env).names.lookup y=some .cell\/(relabel scope X.env).names.lookup y=some .free:=h3
   have hf:scope.names.lookup y=some .free:=by
    rcases h3 with q | q
    ·rcases lookup_relabel q with q | ⟨_,z⟩
     ·exact absurd q (hc.see y my)
     ·cases z
    ·exact kinds y q
   have hy:X.N[i]? = some y:=by
    unfold hid at h1;rw[List.getElem?_map]at h1;cases e:X.N[i]? with
    | none=>rw[e]at h1;cases h1
    | some z=>
     rw[e]at h1;by_cases ez:z=x
     ·rw[Option.map_some,if_pos ez]at h1
      have h1:=Option.some.inj h1;subst h1;rw[hc.dot]at hf;cases hf
     ·rw[Option.map_some,if_neg ez]at h1
      exact h1
   obtain⟨m,_,hl⟩:=I.loc;obtain⟨c,hcc⟩:=Option.isSome_iff_exists.mp (hcl2 y (PySem.mem_of_lookup hf))
   have vis:Vis X.env.scope y:=by
    rcases hc.fr _ (PySem.mem_of_lookup hf) rfl with q | q
    ·exact .inr (.inl q)
    ·exact .inr (.inr q)
   obtain⟨u,ru,lk⟩:=hl i y v hy h2 vis;refine⟨u,ru,.inr ⟨?_,c,hcc,?_⟩⟩
   ·rcases h3 with q | q
    ·rcases lookup_relabel q with q | ⟨_,z⟩
     ·exact absurd q (hc.see y my)
     ·cases z
    ·exact q
   ·have hce:=hcl y c hcc
    rcases lk with ⟨q,_⟩ | ⟨_,c',e',z⟩
    ·rcases hc.fr _ (PySem.mem_of_lookup hf) rfl with q' | q'
     ·have q:X.env.scope.names.lookup y=some .local:=q
      rw[show X.env.scope.names.lookup y=some NameKind.cell from q']at q;cases q
     ·have q:X.env.scope.names.lookup y=some .local:=q
      rw[show X.env.scope.names.lookup y=some NameKind.free from q']at q;cases q
    ·rw[e']at hce
     cases hce;obtain⟨o,ho,hd⟩:=z;exact⟨o,k _ _ ho,hd⟩
 ·obtain⟨v,o,ho,hd⟩:=I.cell y c (hcl y c e)
  exact⟨v,o,k _ _ ho,hd⟩
 ·exact I.freeC y c (hcl y c e)
 ·show(none::σ).length=(x::hid x X.N).length
  have:=I.len;simp[hid,this]
theorem comp_block{pins:List (Addr×Obj)}{σ:St}{H1:Hp}{s2:Shared}{cl:List (Str×Addr)}{fp:List Addr}{it:Addr}{tn:Nat->Heap->Prop}{J:It}{tt:TT}{te:TE}{Q:VK}{E:Value->Shared->Prop}
  {RR:Value->Addr->Result->Shared->Prop} (hc:CompOk X.N X.env.scope scope x) (hcalm:X.calm=true)
  (hcl:∀y c,cl.lookup y=some c->X.env.cells.lookup y=some c) (hcl2:∀y,(y,NameKind.free)∈scope.names->(cl.lookup y).isSome=true)
  (ht:∀C fp s3 H3,PTs (cxComp X scope cl C x fp s3 H3) ifs tt) (he:∀C fp s3 H3,PE (cxComp X scope cl C x fp s3 H3) elt te)
  (I:Inv X pins σ H1 s2) (T:Turn X.prog X.w X.K (.Name x px) J fp it tn) (st:tn 0 s2.heap) (fpo:∀b∈fp,FpOk X pins H1 b)
  (h:∀D,H1 D=none->∃W:Nat->Nat->List V->Hp->Prop,
   (∃m,W 0 m [] (upd H1 D (.lst [])))/\∀i m ys H2,W i m ys H2->H2 D=some (.lst ys) /\
   ((J.stop i H2 ∧ Q (.ref D) H2) ∨ (J.go i H2 ∧ ∀ x H3, J.yld i H2 x H3 → tt (some x :: σ) H3 fun ok H4 => if ok = true then
     te (some x::σ) H4 (fun y H5=>H5 D=some (.lst ys)/\ys.length<sizeLine/\∃m',m'<m/\W (i+1) m' (ys++[y]) (upd H5 D (.lst (ys++[y]))))
     else ∃m',m'<m/\W (i+1) m' ys H4)))
  (hRR:∀D C s' H' m,Inv X pins σ H' s'->s'.heap.Ns C m->H' C=none->C≠X.env.locals->X.s₀.heap.objs.size<=C->(∀y c,X.env.cells.lookup y=some c->c≠C)->(∀p∈X.pn++pins,p.1≠C)->Q (.ref D) H'->RR (.ref D) C (.ok .next) s') :
  wpAny (model X.prog X.w) X.A (newList []) (fun acc s₃=>wpAny (model X.prog X.w) X.A (newFunctionEnv scope X.env.globals cl [] X.env.qual none .none (some X.env)) (fun cenv s₄=>
   codeAny (model X.prog X.w) X.A (.compStart (.ListComp elt [⟨.Name x px,iter,ifs,0⟩] scope pos) 0 (.ref it) acc { cenv with scope:=relabel scope X.env }) (RR acc cenv.locals) s₄) E s₃) E s2:=by
 refine wpAny_newObj_type (hd:=by size_fits) ?_;have I3:=I.lnew (ys:=[]) (its:=[]) (t':=s2.toks) .nil (by show 0<=sizeLine;exact Nat.zero_le _);obtain⟨W,⟨m0,w0⟩,turn⟩:=h _ I.fresh;generalize hD:s2.heap.objs.size=D at I3 w0 turn ⊢;generalize hs3:({ s2 with heap:=s2.heap.push { cls:=.type "list", data:=.seq ([]:List Value).toArray } }:Shared)=s3;have hs3':({ s2 with heap:=s2.heap.push { cls:=.type "list", data:=.seq ([]:List Value).toArray },toks:=s2.toks }:Shared)=s3:=hs3;rw[hs3']at I3;have keep3:∀b o,s2.heap.get? b=some o->s3.heap.get? b=some o:=fun b o e=>by rw[<-hs3];exact Heap.get?_push_of_some _ e
 have fpl:∀b∈fp,b<s3.heap.objs.size:=fun b hb=>by
  obtain⟨o,e,_⟩:=T.obj _ _ st b hb;exact Heap.lt_size (keep3 b o e)
 have fpD:∀b∈fp,b≠D:=fun b hb z=>by
  obtain⟨o,e,_⟩:=T.obj _ _ st b hb;exact absurd (Heap.lt_size e) (by rw[z,hD];exact Nat.lt_irrefl _)
 have fpo3:∀b∈fp,FpOk X pins (upd H1 D (.lst [])) b:=fun b hb=>⟨by rw[upd_ne (fpD b hb)];exact(fpo b hb).1,(fpo b hb).2⟩
 show wpAny _ _ _ _ _ s3;refine wpAny_newFunctionEnv hc.cell (by intro y hy;simp at hy) (fun h₁ hns₁ hsb₁=>?_) hc.kind;dsimp only[newEnv]at hns₁ hsb₁ ⊢;have keep4:∀b o,s3.heap.get? b=some o->h₁.get? b=some o:=fun b o e=>hsb₁.extBut b o (Nat.ne_of_lt (Heap.lt_size e)) (Heap.get?_push_of_some _ e)
 have I4:=comp_inv (tk:=s3.toks+([]:List (Str×Value)).length) hc I3 hcl hcl2 fpo3 fpl hns₁ keep4;have st4:tn 0 h₁:=T.keep _ _ _ st fun b hb o e=>keep4 b o (keep3 b o e)
 have loop:∀s₄:Shared,s₄={ s3 with heap:=h₁,toks:=s3.toks+([]:List (Str×Value)).length } ->
   codeAny (model X.prog X.w) X.A (.compLoop (.ListComp elt [⟨.Name x px,iter,ifs,0⟩] scope pos) 0 (.ref it) (.ref D) (compEnvC scope cl s3.heap.objs.size X.env)) (RR (.ref D) s3.heap.objs.size) s₄:=by
  rintro s₄ rfl
  have stat:∀ {H':Hp},(∀b∈fp,H' b=none)->∀b∈fp,FpOk (cxComp X scope cl s3.heap.objs.size x fp s3 (upd H1 D (.lst []))) [] H' b:=fun hn b hb=>
   ⟨hn b hb,Nat.ne_of_lt (fpl b hb),fun hf=>by
    rcases List.mem_cons.mp (I3.stkSub b hf)with e | e
    ·exact(fpo b hb).2.1 e
    ·exact(fpo b hb).2.2.1 e,.inl hb,fun y c e=>(fpo b hb).2.2.2.2.1 y c (hcl y c e),fun p hp=>absurd (show p∈([]:List (Addr×Obj))from hp) (by simp)⟩
  refine comp_loop (env:=compEnvC scope cl s3.heap.objs.size X.env) (fun n s'=>∃i ys H',Inv (cxComp X scope cl s3.heap.objs.size x fp s3 (upd H1 D (.lst []))) [] (none::σ) H' s'/\tn i s'.heap/\(∀b∈fp,H' b=none)/\W i n ys H') ?_ m0
   ⟨0,[],_,I4,st4,fun b hb=>(fpo3 b hb).1,w0⟩
  rintro n s5 ⟨i,ys,H5,I5,st5,fr5,w5⟩;obtain⟨hDy,alt⟩:=turn i n ys H5 w5;rcases alt with ⟨stop,q⟩ | ⟨go,step⟩
  ·refine wpAny_mono (T.done (cxComp X scope cl s3.heap.objs.size x fp s3 (upd H1 D (.lst []))) rfl rfl rfl hcalm i [] s5 _ H5 (fun _ _=>False) I5 (stat fr5) st5 stop) (fun r s6 ⟨hr,I6⟩=>?_) fun _ _ f=>f
   subst hr;obtain⟨m6,n6,_⟩:=I6.loc
   have J6:Inv X pins σ H5 s6:=by
    refine I3.call' (ch:=fp) I6.os I6.base I6.hok I6.bare fun b hb=>?_
    obtain⟨_,f1,f2,f3,f4,f5⟩:=fpo3 b hb;exact⟨f3,f1,f4,f5⟩
   refine hRR D _ s6 H5 m6 J6 n6 I6.free (Nat.ne_of_gt I3.lt) I3.sz (fun y c e z=>?_) (fun p hp z=>?_) q
   ·obtain⟨v,q⟩:=I3.cell y c e
    exact absurd q.lt (by rw[z];exact Nat.lt_irrefl _)
   ·exact absurd (Heap.lt_size (I3.pin p hp).1) (by rw[z];exact Nat.lt_irrefl _)
  ·refine wpAny_mono (T.item (cxComp X scope cl s3.heap.objs.size x fp s3 (upd H1 D (.lst []))) rfl rfl rfl hcalm i [] s5 _ H5 (fun _ _=>False) I5 (stat fr5) st5 go) (fun r s6 ⟨u,hr,h6⟩=>?_) fun _ _ f=>f
   subst hr;refine thn h6 fun _ s6 ⟨xv,H6,I6,r6,y6,st6,fr6⟩=>?_
   have I6':=I6.pinned (stat fr6) (T.obj _ _ st6);refine wpAny_assign_Name (store_ok (i:=0) I6' ?nd rfl (.inl ?loc) r6 (fun s7 I7=>?_) (.inr ?loc))
   case nd=>exact hc.nd
   case loc=>exact lookup_relabel_local hc.own
   have I7:Inv (cxComp X scope cl s3.heap.objs.size x fp s3 (upd H1 D (.lst []))) ([]++pinsAt fp s6.heap) (some xv::σ) H6 s7:=I7
   have again:∀ {s8:Shared} {H8:Hp} {ys8:List V},Inv (cxComp X scope cl s3.heap.objs.size x fp s3 (upd H1 D (.lst []))) ([]++pinsAt fp s6.heap) (some xv::σ) H8 s8->(∃m',m'<n/\W (i+1) m' ys8 H8) ->
     ∃m,m<n/\∃i ys H',Inv (cxComp X scope cl s3.heap.objs.size x fp s3 (upd H1 D (.lst []))) [] (none::σ) H' s8/\tn i s8.heap/\(∀b∈fp,H' b=none)/\W i m ys H':=by
    rintro s8 H8 ys8 I8 ⟨m',hm,w8⟩;refine⟨m',hm,i+1,ys8,H8,(I8.unpinned (pins:=[])).weak rfl (fun j v e=>?_),T.keep _ _ _ st6 fun b hb o e=>(I8.pin (b,o) (List.mem_append_right _ (List.mem_append_right _ (mem_pinsAt hb e)))).1,fun b hb=>?_,w8⟩
    ·cases j with
     | zero=>cases e
     | succ j=>exact e
    ·obtain⟨o,e,d⟩:=T.obj _ _ st6 b hb
     exact(I8.pin (b,o) (List.mem_append_right _ (List.mem_append_right _ (mem_pinsAt hb e)))).2.1
   refine thn (ht _ fp s3 _ _ s7 _ H6 _ I7 (step xv H6 y6)) (fun ok s8 ⟨H8,I8,q8⟩=>?_);cases ok with
   | false=>exact again I8 (by simpa using q8)
   | true=>
    rw[if_pos rfl]at q8;rw[if_pos rfl];refine thn (he _ fp s3 _ _ s8 _ H8 _ I8 q8) (fun v s9 ⟨y,H9,I9,r9,hD9,hz9,w9⟩=>?_);refine wpAny_mono (mt_append (X:=cxComp X scope cl s3.heap.objs.size x fp s3 (upd H1 D (.lst []))) _ s9 _ H9 (.ref D) [y] (.ref D) [v] (fun _ H'=>H'=upd H9 D (.lst (ys++[y]))) I9 rfl (.cons r9 .nil) ⟨D,ys,y,rfl,rfl,hD9,hz9,rfl⟩) (fun _ s10 ⟨_,H10,I10,_,e10⟩=>?_) fun _ _ f=>f
    subst e10;exact again I10 w9
 exact codeAny_compStart_list (loop _ rfl) (T.self X.A 0 _ _ _ st4 (loop _ rfl))
theorem comp_cells{pins:List (Addr×Obj)}{σ:St}{H:Hp}{s:Shared}(hc:CompOk X.N X.env.scope scope x)(I:Inv X pins σ H s):∀y∈scope.names,y.2=.free->∃c,X.env.cells.lookup y.1=some c:=by
 intro y hy e;rcases hc.fr y hy e with q | q
 ·exact I.ok.has y.1 (.inl q)
 ·exact I.ok.has y.1 (.inr q)
theorem pe_comp{wi:TI}{tt:TT}{te:TE}(hc:CompOk X.N X.env.scope scope x)(hcalm:X.calm=true)(hi:PI X (.Name x px) iter wi)
  (ht:∀cl C fp s3 H3,PTs (cxComp X scope cl C x fp s3 H3) ifs tt) (he:∀cl C fp s3 H3,PE (cxComp X scope cl C x fp s3 H3) elt te)
  (hs:∀x,foldedSetIterable iter X.env x=pure x:=by intro _;rfl) :
  PE X (.ListComp elt [⟨.Name x px,iter,ifs,0⟩] scope pos) (tComp wi tt te):=by
 intro pins s σ H Q I h;obtain⟨cl,hclos,hcl,hcl2⟩:=closure_ex (comp_cells hc I);rw[eval_ListComp];refine wpAny_comprehension_free (use:=none) rfl hs hclos hc.kind hc.names (thn (hi pins s σ H _ I h) fun v s1 h1=>thn h1 fun itv s2 ⟨it,fp,tn,J,H2,e,I2,T,st,fpo,R⟩=>?_);subst e;refine comp_block (RR:=fun acc C=>compPost (model X.prog X.w) X.A X.xe none (EP X pins σ Q) acc C) (Q:=Q) hc hcalm hcl hcl2 (ht cl) (he cl) I2 T st fpo R ?_;intro D C s' H' m I' n f1 f2 f3 f4 f5 q;exact⟨m,n,fun h' sb=>⟨.ref D,H',I'.turned (t':=s'.toks) (fun b o hb e=>(sb.2 b hb).trans e) f1 f2 (.inr f3) f4 f5,rfl,q⟩⟩
theorem ps_setcomp{wi:TI}{tt:TT}{te:TE}{i:Nat}{y:Str}{py spos:Pos}(hN:X.N.Nodup)(hiy:X.N[i]? = some y)(hy:X.env.scope.names.lookup y=some .local)(hc:CompOk X.N X.env.scope scope x)(hcalm:X.calm=true)(hi:PI X (.Name x px) iter wi)
  (ht:∀cl C fp s3 H3,PTs (cxComp X scope cl C x fp s3 H3) ifs tt) (he:∀cl C fp s3 H3,PE (cxComp X scope cl C x fp s3 H3) elt te)
  (hsw:swapsWith (.ListComp elt [⟨.Name x px,iter,ifs,0⟩] scope pos) (some (.Name y py)) spos.line X.env=pure true:=by rfl)
  (hs:∀x,foldedSetIterable iter X.env x=pure x:=by intro _;rfl) :
  PS X (.Assign [.Name y py] (.ListComp elt [⟨.Name x px,iter,ifs,0⟩] scope pos) spos) (fun D σ H=>tComp wi tt te σ H fun v H1=>D.nx (σ.set i (some v)) H1):=by
 intro pins s σ H D I h;obtain⟨cl,hclos,hcl,hcl2⟩:=closure_ex (comp_cells hc I);rw[exec_Assign_Name_used _ _ _ _ hsw];refine wpAny_bind (wpAny_standAt (wpAny_bind ?_));show wpAny _ X.A (do let _ <-comprehension (.ListComp elt [⟨.Name x px,iter,ifs,0⟩] scope pos) scope X.env _ (newList []) false (eval iter X.env) (some (assign (.Name y py) X.env))) _ _ s
 refine wpAny_bind (wpAny_mono (wpAny_comprehension_free (use:=some (assign (.Name y py) X.env)) (Q:=fun _ s'=>SP X pins D .next s') rfl hs hclos hc.kind hc.names
  (thn (hi pins s σ H _ I h) fun v s1 h1=>thn h1 fun itv s2 ⟨it,fp,tn,J,H2,e,I2,T,st,fpo,R⟩=>?_)) (fun _ s' hq=>wpAny_pure (wpAny_pure hq)) fun _ _ e=>e)
 subst e;refine comp_block (RR:=fun acc C=>compPost (model X.prog X.w) X.A X.xe (some (assign (.Name y py) X.env)) (fun _ s'=>SP X pins D .next s') acc C) (Q:=fun v H1=>D.nx (σ.set i (some v)) H1) hc hcalm hcl hcl2 (ht cl) (he cl) I2 T st fpo R ?_;intro E C s' H' m I' n f1 f2 f3 f4 f5 q;show wpAny _ _ (assign (.Name y py) X.env (.ref E)) _ _ _;refine wpAny_assign_Name (store_ok2 (v:=.ref E) I' hN hiy (.inl hy) rfl (fun s'' I'' ch=>?_) (.inr hy));obtain⟨a,sb,ha⟩:=ch
 have hCa:C≠a:=by
  rcases ha with e | e
  ·rw[e];exact f2
  ·exact fun z=>f4 y a e z.symm
 exact⟨m,n.sameBut sb hCa,fun h' sb'=>⟨_,_,I''.turned (t':=s''.toks) (fun b o hb e=>(sb'.2 b hb).trans e) f1 f2 (.inr f3) f4 f5,q⟩⟩
end
end L2
namespace L2
open PySem PySem.Spec PyProof.Rows
section
variable {X:Cx}
theorem OpR.imp{f:Value->Value->Sem Value}{r r':R2}(h:OpR X f r)(i:∀x y H Q,r' x y H Q->r x y H Q):OpR X f r':=fun pins s σ H x y u v Q I rx ry q=>h pins s σ H x y u v Q I rx ry (i _ _ _ _ q)
theorem CallR.imp{f:Value}{r r':List V->Hp->VK->Prop}(h:CallR X f r)(i:∀xs H Q,r' xs H Q->r xs H Q):CallR X f r':=fun pins s σ H xs us Q I rx q=>h pins s σ H xs us Q I rx (i _ _ _ q)
theorem IxR.imp{r r':R2}(h:IxR X r)(i:∀x y H Q,r' x y H Q->r x y H Q):IxR X r':=by
 intro value slice pins s σ H x y v u Q I rx ry q hs;exact h value slice pins s σ H x y v u Q I rx ry (i _ _ _ _ q) hs
theorem SlR.imp{r r':V->Option Int->Option Int->Hp->VK->Prop}(h:SlR X r)(i:∀x lo hi H Q,r' x lo hi H Q->r x lo hi H Q):SlR X r':=fun pins s σ H x v vl vu lo hi sl Q I rx hs pl pu q=>h pins s σ H x v vl vu lo hi sl Q I rx hs pl pu (i _ _ _ _ _ q)
def qAdd:R2:=fun x y H Q=>match x,y with
 | .int i,.int j=>Q (.int (i+j)) H
 | .str i,.str j=>i.length+j.length<=sizeLine/\Q (.str (i++j)) H
 | .ref a,.ref b=>match H a,H b with
  | some (.lst xs),some (.lst ys)=>xs.length+ys.length<=sizeLine/\∀p,H p=none->Q (.ref p) (upd H p (.lst (xs++ys)))
  | _,_=>False
 | _,_=>False
theorem op_qadd:OpR X (binaryOp .Add) qAdd:=by
 refine(op_add.or (op_add_str.or op_cat)).imp fun x y H Q h=>?_
 unfold qAdd at h;split at h
 ·exact .inl ⟨_,_,rfl,rfl,h⟩
 ·exact .inr (.inl ⟨_,_,rfl,rfl,h.1,h.2⟩)
 ·split at h
  ·exact .inr (.inr ⟨_,_,_,_,rfl,rfl,by assumption,by assumption,h.1,h.2⟩)
  ·exact h.elim
 ·exact h.elim
def q2I(C:Int->Int->Prop)(g:Int->Int->V):R2:=fun x y H Q=>match x,y with
 | .int i,.int j=>C i j/\Q (g i j) H
 | _,_=>False
def q2I0(g:Int->Int->V):R2:=fun x y H Q=>match x,y with
 | .int i,.int j=>Q (g i j) H
 | _,_=>False
theorem q2I_of{f:Value->Value->Sem Value}{C:Int->Int->Prop}{g:Int->Int->V}(h:OpR X f (rI C g)):OpR X f (q2I C g):=h.imp fun x y H Q q=>by
 unfold q2I at q;split at q
 ·exact⟨_,_,rfl,rfl,q.1,q.2⟩
 ·exact q.elim
theorem q2I0_of{f:Value->Value->Sem Value}{g:Int->Int->V}(h:OpR X f (rI0 g)):OpR X f (q2I0 g):=h.imp fun x y H Q q=>by
 unfold q2I0 at q;split at q
 ·exact⟨_,_,rfl,rfl,q⟩
 ·exact q.elim
abbrev qSub:R2:=q2I0 fun i j=>.int (i - j)
abbrev qMul:R2:=q2I CMul fun i j=>.int (i * j)
abbrev qMod:R2:=q2I (fun _ j=>0<j) fun i j=>.int (i % j)
abbrev qDiv:R2:=q2I (fun _ j=>0<j/\j<2 ^ 64) fun i j=>.int (i / j)
abbrev qLt:R2:=q2I0 fun i j=>.bl (decide (i<j))
abbrev qLe:R2:=q2I0 fun i j=>.bl (decide (i<=j))
abbrev qGt:R2:=q2I0 fun i j=>.bl (decide (j<i))
abbrev qGe:R2:=q2I0 fun i j=>.bl (decide (j<=i))
theorem op_qsub:OpR X (binaryOp .Sub) qSub:=q2I0_of op_sub
theorem op_qmul:OpR X (binaryOp .Mult) qMul:=q2I_of op_mul
theorem op_qmod:OpR X (binaryOp .Mod) qMod:=q2I_of op_mod
theorem op_qdiv:OpR X (binaryOp .FloorDiv) qDiv:=q2I_of (opI fun i j _ _ _ _ _ hc q=>by
 have hl:j.natAbs.log2<9000:=by
  have:j.natAbs<2 ^ 64:=by have:=hc.1;have:=hc.2;omega
  by_cases h0:j.natAbs=0
  ·rw[h0];decide +kernel
  ·exact Nat.lt_trans ((Nat.log2_lt h0).mpr this) (by decide)
 refine floordiv_int (by omega) ?_ (.inl (PyProof.noPylong_of_log2 hl));rw[Int.fdiv_eq_ediv_of_nonneg _ (by omega)];exact q)
theorem op_qlt:OpR X (compareOp .Lt) qLt:=q2I0_of op_lt
theorem op_qle:OpR X (compareOp .LtE) qLe:=q2I0_of op_le
theorem op_qgt:OpR X (compareOp .Gt) qGt:=q2I0_of op_gt
theorem op_qge:OpR X (compareOp .GtE) qGe:=q2I0_of op_ge
def qIx:R2:=fun x y H Q=>match x,y with
 | .ref p,.int i=>match H p with
  | some (.lst xs)=>∃v,atI xs i=some v/\Q v H
  | some (.tup xs)=>∃v,atI xs i=some v/\Q v H
  | _=>False
 | .str z,.int i=>z.length<=sizeLine/\∃c,atI z.cps.toList i=some c/\Q (.str ⟨#[c]⟩) H
 | _,_=>False
theorem ix_q:IxR X qIx:=ix_seq.imp fun x y H Q h=>by
 unfold qIx at h;split at h
 ·split at h
  ·obtain⟨v,e,q⟩:=h
   exact .inl ⟨_,_,_,v,rfl,rfl,SqL.of (by assumption),e,q⟩
  ·obtain⟨v,e,q⟩:=h
   exact .inr (.inl ⟨_,_,_,v,rfl,rfl,SqT.of (by assumption),e,q⟩)
  ·exact h.elim
 ·obtain⟨z,c,e,q⟩:=h
  exact .inr (.inr ⟨_,_,c,rfl,rfl,z,e,q⟩)
 ·exact h.elim
def qSl:V->Option Int->Option Int->Hp->VK->Prop:=fun x lo hi H Q=>match x with
 | .ref a=>match H a with
  | some (.lst xs)=>∀p,H p=none->Q (.ref p) (upd H p (.lst (cutV xs lo hi)))
  | some (.tup xs)=>¬(HT.sIx xs.length 0 lo=0/\HT.sIx xs.length xs.length hi=xs.length)/\∀p,H p=none->Q (.ref p) (upd H p (.tup (cutV xs lo hi)))
  | _=>False
 | _=>False
theorem sl_q:SlR X qSl:=(sl_list.or sl_tup).imp fun x lo hi H Q h=>by
 unfold qSl at h;split at h
 ·split at h
  ·exact .inl ⟨_,_,rfl,SqL.of (by assumption),h⟩
  ·exact .inr ⟨_,_,rfl,SqT.of (by assumption),h.1,h.2⟩
  ·exact h.elim
 ·exact h.elim
def qLen:List V->Hp->VK->Prop:=fun xs H Q=>match xs with
 | [.ref p]=>match H p with
  | some (.lst ys)=>Q (.int ys.length) H
  | some (.tup ys)=>Q (.int ys.length) H
  | _=>False
 | [.str z]=>z.length<=sizeLine/\Q (.int z.length) H
 | _=>False
theorem call_qlen:CallR X (.builtin "len") qLen:=(call_len_seq.or call_len_str).imp fun xs H Q h=>by
 unfold qLen at h;split at h
 ·split at h
  ·exact .inl ⟨_,_,rfl,.inl (SqL.of (by assumption)),h⟩
  ·exact .inl ⟨_,_,rfl,.inr (SqT.of (by assumption)),h⟩
  ·exact h.elim
 ·exact .inr ⟨_,rfl,h.1,h.2⟩
 ·exact h.elim
def qAbs:List V->Hp->VK->Prop:=fun xs H Q=>match xs with
 | [.int i]=>Q (.int (if i<0 then -i else i)) H
 | _=>False
theorem call_qabs:CallR X (.builtin "abs") qAbs:=call_abs.imp fun xs H Q h=>by
 unfold qAbs at h;split at h
 ·exact⟨_,rfl,h⟩
 ·exact h.elim
def qSet:V->V->V->Hp->(Hp->Prop)->Prop:=fun o i v H Q=>match o,i with
 | .ref p,.int k=>match H p with
  | some (.lst xs)=>∃j,ixN xs.length k=some j/\Q (upd H p (.lst (xs.set j v)))
  | _=>False
 | _,_=>False
theorem set_q:PSet X qSet:=by
 intro pins s σ H o i v u1 u2 u3 Q I r1 r2 r3 h;refine set_list pins s σ H o i v u1 u2 u3 Q I r1 r2 r3 ?_;unfold qSet at h;split at h
 ·split at h
  ·obtain⟨j,e,q⟩:=h
   exact⟨_,_,_,j,rfl,rfl,by assumption,e,q⟩
  ·exact h.elim
 ·exact h.elim
def flatEq(xs ys:List V):Bool:=(List.range (min xs.length ys.length)).all (fun j=>eqV (xs.getD j .non) (ys.getD j .non))&&xs.length == ys.length
def eqO(x y:V)(H:Hp):Option Bool:=if scal x y=true then some (decide (x=y))else match x,y with
 | .ref a,.ref b=>match H a,H b with
  | some (.tup xs),some (.tup ys)=>if xs.all flatV=true/\ys.all flatV=true then some (flatEq xs ys)else none
  | some (.lst xs),some (.lst ys)=>if xs.all flatV=true/\ys.all flatV=true then some (flatEq xs ys)else none
  | _,_=>none
 | .non,.ref a=>match H a with
  | some (.tup _)=>some false
  | _=>none
 | .ref a,.non=>match H a with
  | some (.tup _)=>some false
  | _=>none
 | _,_=>none
def qEq:R2:=fun x y H Q=>∃b,eqO x y H=some b/\Q (.bl b) H
def qNe:R2:=fun x y H Q=>∃b,eqO x y H=some b/\Q (.bl (!b)) H
theorem flat_at{A:Around}{s:Shared}{xs ys:List V}{us ws:List Value}(rx:Vals xs us)(ry:Vals ys ws)(fx:xs.all flatV=true)(fy:ys.all flatV=true) :
  ∀j (h1:j<us.toArray.size) (h2:j<ws.toArray.size),SeqAt.EqAt A s us.toArray[j] ws.toArray[j] (eqV (xs.getD j .non) (ys.getD j .non)):=by
 intro j h1 h2;have l1:=rx.length;have l2:=ry.length;have h1':j<us.length:=by simpa using h1
 have h2':j<ws.length:=by simpa using h2
 have e1:xs[j]? = some (xs[j]'(by omega)):=by simp
 have e2:ys[j]? = some (ys[j]'(by omega)):=by simp
 obtain⟨u,hu,ru⟩:=rx.get e1;obtain⟨w,hw,rw'⟩:=ry.get e2
 have z1:us.toArray[j]=u:=by
  have:us[j]? = some us[j]:=by simp
  rw[this]at hu;simpa using hu
 have z2:ws.toArray[j]=w:=by
  have:ws[j]? = some ws[j]:=by simp
  rw[this]at hw;simpa using hw
 rw[z1,z2];have g1:xs.getD j .non=xs[j]'(by omega):=by simp[List.getD,e1]
 have g2:ys.getD j .non=ys[j]'(by omega):=by simp[List.getD,e2]
 rw[g1,g2];exact eqAt_V ru rw' (List.all_eq_true.mp fx _ (List.getElem_mem _)) (List.all_eq_true.mp fy _ (List.getElem_mem _))
theorem rc_of{pins:List (Addr×Obj)}{s:Shared}{σ:St}{H:Hp}{x y:V}{v u:Value}{k:Bool}(I:Inv X pins σ H s)(hu:X.A.units<cLine)(rx:RelV x v)(ry:RelV y u)(hs:¬scal x y=true)(e:eqO x y H=some k) :
  SeqAt.RcAt X.A s v u k/\SeqAt.RcNeAt X.A s v u (!k):=by
 unfold eqO at e;rw[if_neg hs]at e;split at e
 ·rename_i a b
  cases rx;cases ry;split at e
  ·rename_i xs ys ha hb
   split at e
   ·rename_i hf
    cases e;obtain⟨us,r1,t1,_⟩:=I.tuple (SqT.of ha);obtain⟨ws,r2,t2,_⟩:=I.tuple (SqT.of hb);have l1:=r1.length;have l2:=r2.length;have q1:=SeqAt.RcAt.tuples (A:=X.A) t1 t2 hu (flat_at r1 r2 hf.1 hf.2);have q2:=SeqAt.RcNeAt.tuples (A:=X.A) t1 t2 hu (flat_at r1 r2 hf.1 hf.2);simp only[List.size_toArray,<-l1,<-l2]at q1 q2;exact⟨q1,q2⟩
   ·cases e
  ·rename_i xs ys ha hb
   split at e
   ·rename_i hf
    cases e;obtain⟨us,r1,t1,_⟩:=I.list (SqL.of ha);obtain⟨ws,r2,t2,_⟩:=I.list (SqL.of hb);have l1:=r1.length;have l2:=r2.length;by_cases hl:us.toArray.size=ws.toArray.size
    ·have q1:=SeqAt.RcAt.lists (A:=X.A) t1.isList t2.isList hl hu (flat_at r1 r2 hf.1 hf.2)
     have q2:=SeqAt.RcNeAt.lists (A:=X.A) t1.isList t2.isList hl hu (flat_at r1 r2 hf.1 hf.2);have hl':xs.length=ys.length:=by simpa[<-l1,<-l2]using hl
     have ef:flatEq xs ys=(List.range us.toArray.size).all fun j=>eqV (xs.getD j .non) (ys.getD j .non):=by
      unfold flatEq;rw[hl',Nat.min_self,List.size_toArray,<-l1,hl'];simp
     rw[ef];exact⟨q1,q2⟩
    ·have hl2:(us.toArray.size != ws.toArray.size)=true:=by simpa using hl
     have q1:=SeqAt.RcAt.lists_lengths (A:=X.A) t1.isList t2.isList hl2 hu;have q2:=SeqAt.RcNeAt.lists_lengths (A:=X.A) t1.isList t2.isList hl2 hu
     have ef:flatEq xs ys=false:=by
      unfold flatEq;have:¬xs.length=ys.length:=by simpa[<-l1,<-l2]using hl
      simp[this]
     rw[ef];exact⟨q1,q2⟩
   ·cases e
  ·cases e
 ·cases rx
  cases ry;split at e
  ·cases e
   obtain⟨us,_,t1,_⟩:=I.tuple (SqT.of (by assumption));exact⟨SeqAt.RcAt.none_tuple t1 hu,SeqAt.RcNeAt.none_tuple t1 hu⟩
  ·cases e
 ·cases rx
  cases ry;split at e
  ·cases e
   obtain⟨us,_,t1,_⟩:=I.tuple (SqT.of (by assumption));exact⟨SeqAt.RcAt.tuple_none t1 hu,SeqAt.RcNeAt.tuple_none t1 hu⟩
  ·cases e
 ·cases e
theorem op_qeq(hu:X.A.units<cLine):OpR X (compareOp .Eq) qEq:=by
 intro pins s σ H x y v u Q I rx ry h;obtain⟨k,e,q⟩:=h;by_cases hs:scal x y=true
 ·unfold eqO at e
  rw[if_pos hs]at e;cases e;exact op_eq pins s σ H x y v u Q I rx ry ⟨hs,q⟩
 ·exact(rc_of I hu rx ry hs e).1 _ _ _ _ ⟨.bl k,H,I,rfl,q⟩
theorem op_qne(hu:X.A.units<cLine):OpR X (compareOp .NotEq) qNe:=by
 intro pins s σ H x y v u Q I rx ry h;obtain⟨k,e,q⟩:=h;by_cases hs:scal x y=true
 ·unfold eqO at e
  rw[if_pos hs]at e;cases e;exact op_ne pins s σ H x y v u Q I rx ry ⟨hs,q⟩
 ·exact(rc_of I hu rx ry hs e).2 _ _ _ _ ⟨.bl (!k),H,I,rfl,q⟩
def qIn(neg:Bool):R2:=fun x y H Q=>match x,y with
 | .str i,.str j=>Q (.bl (if neg then !(!(Builtin.Str.occurrences j i 0 j.length 1).isEmpty)else !(Builtin.Str.occurrences j i 0 j.length 1).isEmpty)) H
 | x,.ref p=>match H p with
  | some (.lst xs)=>flatV x=true/\xs.all flatV=true/\Q (.bl (if neg then !inV x xs else inV x xs)) H
  | some (.tup xs)=>flatV x=true/\xs.all flatV=true/\Q (.bl (if neg then !inV x xs else inV x xs)) H
  | _=>False
 | _,_=>False
theorem op_qin:OpR X (compareOp .In) (qIn false):=(op_in_str.or op_in_seq).imp fun x y H Q h=>by
 unfold qIn at h;split at h
 ·exact .inl ⟨_,_,rfl,rfl,h⟩
 ·split at h
  ·exact .inr ⟨_,_,rfl,.inl (SqL.of (by assumption)),h.1,h.2.1,h.2.2⟩
  ·exact .inr ⟨_,_,rfl,.inr (SqT.of (by assumption)),h.1,h.2.1,h.2.2⟩
  ·exact h.elim
 ·exact h.elim
theorem op_qnotin:OpR X (compareOp .NotIn) (qIn true):=(op_notIn_str.or op_notIn_seq).imp fun x y H Q h=>by
 unfold qIn at h;split at h
 ·exact .inl ⟨_,_,rfl,rfl,h⟩
 ·split at h
  ·exact .inr ⟨_,_,rfl,.inl (SqL.of (by assumption)),h.1,h.2.1,h.2.2⟩
  ·exact .inr ⟨_,_,rfl,.inr (SqT.of (by assumption)),h.1,h.2.1,h.2.2⟩
  ·exact h.elim
 ·exact h.elim
def qAppend:V->List V->Hp->VK->Prop:=fun x vs H Q=>match x,vs with
 | .ref l,[y]=>match H l with
  | some (.lst xs)=>xs.length<sizeLine/\Q .non (upd H l (.lst (xs++[y])))
  | _=>False
 | _,_=>False
theorem mt_qappend:MtR X "list.append" qAppend:=fun pins s σ H x xs v us Q I rx rv h=>by
 refine mt_append pins s σ H x xs v us Q I rx rv ?_;unfold qAppend at h;split at h
 ·split at h
  ·exact⟨_,_,_,rfl,rfl,by assumption,h.1,h.2⟩
  ·exact h.elim
 ·exact h.elim
def strsOf:List V->Option (List Str)
 | []=>some []
 | .str s::r=>(strsOf r).map (s :: ·)
 | _=>none
theorem strsOf_map(ss:List Str):strsOf (ss.map V.str)=some ss:=by
 induction ss with
 | nil=>rfl
 | cons s r ih=>simp[strsOf,ih]
theorem strsAre_of:∀ {xs:List V} {us:List Value} {ss:List Str},Vals xs us->strsOf xs=some ss->StrsAre us ss
 | _,_,ss,.nil,e=>by cases e;exact .nil
 | x::xs,_,ss,.cons r t,e=>by
  cases x with
  | str s=>
   obtain⟨k,rfl⟩:=r;cases e2:strsOf xs with
   | none=>simp[strsOf,e2]at e
   | some ss2=>
    simp[strsOf,e2]at e;subst e;exact .cons _ _ (strsAre_of t e2)
  | _=>simp[strsOf]at e
def qJoin:V->List V->Hp->VK->Prop:=fun x vs H Q=>match x,vs with
 | .str x,[.ref l]=>match H l with
  | some (.lst xs)=>∃ss,strsOf xs=some ss/\(ss.map (·.length)).sum+ss.length * x.length<=16777216/\Q (.str (Txt.join x ss)) H
  | _=>False
 | _,_=>False
theorem mt_qjoin:MtR X "str.join" qJoin:=fun pins s σ H x xs v us Q I rx rv h=>by
 unfold qJoin at h;split at h
 ·split at h
  ·obtain⟨ss,e,hk,q⟩:=h
   obtain⟨t,rfl⟩:=rx;obtain⟨u,rfl,ru⟩:=rv.one;cases ru;obtain⟨its,r,p,hz⟩:=I.list (SqL.of (by assumption));exact join_list p.isList (strsAre_of r e) hk fun t' k=>⟨.str _,H,I.tok _,⟨_,rfl⟩,q⟩
  ·exact h.elim
 ·exact h.elim
def tyName(x:V)(H:Hp):Option String:=match x with
 | .non=>some "NoneType"
 | .bl _=>some "bool"
 | .int _=>some "int"
 | .str _=>some "str"
 | .ref a=>match H a with
  | some (.lst _)=>some "list"
  | some (.tup _)=>some "tuple"
  | some (.dK _)=>some "dict"
  | some (.dT _)=>some "dict"
  | _=>none
 | _=>none
def isKind(t c:String):Bool:=t == c||(t == "bool" && c == "int")
def kindsK:List String:=["int", "bool", "str", "list", "tuple", "dict"]
theorem kit_ok(K:PySem.W.Frag):∀t ∈ "NoneType" :: kindsK,∀c∈kindsK,PySem.W.kitOne K (.type t) (.type c)=some (isKind t c):=by
 intro t ht c hc;simp only[kindsK,List.mem_cons,List.not_mem_nil,or_false]at ht hc;rcases ht with rfl | rfl | rfl | rfl | rfl | rfl | rfl <;> rcases hc with rfl | rfl | rfl | rfl | rfl | rfl <;> kernel_rfl
theorem ty_ok{K:PySem.W.Frag}{H:Hp}{x:V}{t:String}(h:tyName x H=some t):TyOf K H x (.type t)/\t ∈ "NoneType" :: kindsK:=by
 unfold tyName at h;split at h
 ·cases h;exact⟨.non,by decide⟩
 ·cases h;exact⟨.bl _,by decide⟩
 ·cases h;exact⟨.int _,by decide⟩
 ·cases h;exact⟨.str _,by decide⟩
 ·split at h
  ·cases h;exact⟨.lst (by assumption),by decide⟩
  ·cases h;exact⟨.tup (by assumption),by decide⟩
  ·cases h;exact⟨.dK (by assumption),by decide⟩
  ·cases h;exact⟨.dT (by assumption),by decide⟩
  ·cases h
 ·cases h
def qIsi:List V->Hp->VK->Prop:=fun xs H Q=>match xs with
 | [x,.ty c]=>∃t,tyName x H=some t/\c∈kindsK/\Q (.bl (isKind t c)) H
 | _=>False
theorem call_qisi:CallR X (.builtin "isinstance") qIsi:=fun pins s σ H xs us Q I r h=>by
 unfold qIsi at h;split at h
 ·obtain⟨t,e,hc,q⟩:=h
  obtain⟨u,u2,rfl,ru,ru2⟩:=vals2 r;cases ru2;obtain⟨ty,ht⟩:=ty_ok (K:=X.K) e;exact isinst_ok I ru ty (kit_ok X.K t ht _ hc) fun tk=>⟨.bl _,H,I.tok _,rfl,q⟩
 ·exact h.elim
def qGet:V->V->Hp->VK->Prop:=fun x y H Q=>match x,y with
 | .ref p,.int i=>match H p with
  | some (.lst xs)=>0<=i/\∃v,xs[i.toNat]? = some v/\Q v H
  | _=>False
 | _,_=>False
theorem get_q:PGet X qGet:=fun pins s σ H o i ov iv Q I r1 r2 h=>by
 unfold qGet at h;split at h
 ·split at h
  ·obtain⟨h0,v,e,q⟩:=h
   cases r1;obtain⟨t,rfl⟩:=r2;obtain⟨its,r,pl,hz⟩:=I.list (SqL.of (by assumption));obtain⟨u,eu,ru⟩:=r.get e;have hl:=(List.getElem?_eq_some_iff.mp e).1;have hn:=line63;exact wpAny_getItem_list pl.isList h0 (by omega) (by simpa using eu) ⟨v,H,I,ru,q⟩
  ·exact h.elim
 ·exact h.elim
def qIs:R2:=fun x y H Q=>y=.non/\Q (.bl (decide (x=.non))) H
def qIsNot:R2:=fun x y H Q=>y=.non/\Q (.bl (!decide (x=.non))) H
theorem op_qis:OpR X (compareOp .Is) qIs:=op_isN
theorem op_qisnot:OpR X (compareOp .IsNot) qIsNot:=op_notN
structure Callee(P:Program)(w:World)(K:PySem.W.Frag)(mg:Str->Option Value)(base:Heap)(k:Nat)(x:Str)(ps:List Str)(sp:Sp):Prop where
 ex:∃f fd,FnOk P w K mg base CX0 k f fd ps sp/\mg x=some (.ref f)/\PySem.W.keepIn K (.ref f)=true/\Binds K fd ps []
theorem pe_own{k j:Nat}{x:Str}{ps:List Str}{sp:Sp}{e:Expr}{es:List Expr}{t:TA}{p pos:Pos}(C:Callee X.prog X.w X.K X.mg X.base k x ps sp)(hr:Room j X.A)(hk:k<=j)(hg:Gl X x)(ha:PA X (e::es) t)
  (hdb:(x == ("__debug__" : Str))=false:=by decide) (he:starEach (e::es) X.env=(false,eval e X.env)::starEach es X.env:=by rfl) (hpl:(backTo pos (starEach es X.env)).any (·.1)=false:=by rfl) :
  PE X (.Call (.Name x p) (e::es) [] pos) (tCall sp [] E0 t):=by
 obtain⟨f,fd,F,hm,hkp,hb⟩:=C.ex;exact pe_call F (hr.mono hk) hg hm hkp hb .nil pass0 ha hdb he hpl
theorem callee_of{P:Program}{w:World}{K:PySem.W.Frag}{mg:Str->Option Value}{base:Heap}{k:Nat}{x q:Str}{ps:List Str}{sp:Sp}{st:Stmt}{f:Addr}{fd:FuncData}(F:Fun K x q st f fd)(O:FnOk P w K mg base CX0 k f fd ps sp)
  (hm:mg x=some (.ref f)) (hb:Binds K fd ps []):Callee P w K mg base k x ps sp:=⟨f,fd,O,hm,F.kp,hb⟩
def qList:List V->Hp->VK->Prop:=fun xs H Q=>match xs with
 | [.ref p]=>match H p with
  | some (.lst ys)=>∀l,H l=none->Q (.ref l) (upd H l (.lst ys))
  | some (.tup ys)=>∀l,H l=none->Q (.ref l) (upd H l (.lst ys))
  | _=>False
 | _=>False
theorem call_qlist:CallR X (.type "list") qList:=call_list_of.imp fun xs H Q h=>by
 unfold qList at h;split at h
 ·split at h
  ·exact⟨_,_,rfl,.inl (SqL.of (by assumption)),h⟩
  ·exact⟨_,_,rfl,.inr (SqT.of (by assumption)),h⟩
  ·exact h.elim
 ·exact h.elim
theorem valV_mem:∀ {kvs:List (Key×V)} {k:Key} {x:V},(kvs.map (·.1)).Nodup->(k,x)∈kvs->valV kvs k=some x
 | [],_,_,_,h=>by cases h
 | (k0,x0)::r,k,x,nd,h=>by
  have nd':k0∉r.map (·.1)/\(r.map (·.1)).Nodup:=List.nodup_cons.mp nd;unfold valV;rw[List.find?_cons];by_cases e:k0=k
  ·rw[show decide (((k0,x0):Key×V).1=k)=true from decide_eq_true e]
   rcases List.mem_cons.mp h with z | z
   ·cases z;rfl
   ·exact absurd (List.mem_map.mpr ⟨_,z,e.symm⟩) nd'.1
  ·rw[show decide (((k0,x0):Key×V).1=k)=false from decide_eq_false e]
   rcases List.mem_cons.mp h with z | z
   ·cases z;exact absurd rfl e
   ·exact valV_mem nd'.2 z
end
end L2
namespace L2
open PySem PySem.Spec PyProof.Rows
def Its(x:Str):It:=⟨fun i _=>i<x.length,fun i H v H'=>H'=H/\∃c,x.cps[i]? = some c/\v=.str ⟨#[c]⟩,fun i _=>x.length<=i⟩
theorem turn_str{P:Program}{w:World}{K:PySem.W.Frag}{tg:Expr}(x:Str)(t:Tok)(it:Addr):Turn P w K tg (Its x) [it] it (fun i h=>h.IsStrIter it (strIterType x) x t i) where
 mem:=by simp
 obj:=fun i h st b hb=>by
  have e:b=it:=by simpa using hb
  subst e;obtain⟨o,e,c,d⟩:=st;exact⟨o,e,fun v z=>by rw[d]at z;cases z⟩
 keep:=fun i h h' st k=>let⟨o,ho,r⟩:=st; ⟨o,k it (by simp) o ho,r⟩
 item:=by
  intro X hP hw hK hc i pins s σ H E I hf st hg;subst hP hw hK;have hi:i<x.cps.size:=hg;obtain⟨f0,f1,f2,f3,f4,f5⟩:=hf it (by simp);have hx:x.cps[i]? = some x.cps[i]:=by simp[hi]
  have fin:∀h',h'.IsStrIter it (strIterType x) x t (i+1)->Heap.SameBut it s.heap h'->∃u,some (Value.str ⟨#[x.cps[i]]⟩ s.toks)=some u /\
    wpAny (model X.prog X.w) X.A (letOwnedTupleGo tg (.ref it) u) (fun _ s2=>∃v H',Inv X pins σ H' s2/\RelV v u/\(Its x).yld i H v H'/\s2.heap.IsStrIter it (strIterType x) x t (i+1)/\∀b∈[it],H' b=none) E { s with heap:=h',toks:=s.toks+1 }:=by
   intro h' st' sb;have I1:Inv X pins σ H { s with heap:=h',toks:=s.toks+1 }:=I.turned (t':=s.toks+1) (fun b o hb e=>(sb.2 b hb).trans e) f0 f1 f3 f4 f5;obtain⟨o,e,c,d⟩:=id st';refine⟨_,rfl,go_of (s:={ s with heap:=h',toks:=s.toks+1 }) e c d ?_ ⟨.str ⟨#[x.cps[i]]⟩,H,I1,⟨_,rfl⟩,⟨rfl,_,hx,rfl⟩,st',fun b hb=>(hf b hb).1⟩⟩;unfold strIterType;split <;> decide
  unfold strIterType at st fin ⊢;split at st
  ·rename_i ha
   simp only[ha]at fin ⊢;exact wpAny_pyNext_ascii_item st hx fun h' st' sb=>fin h' st' sb
  ·rename_i ha
   simp only[ha]at fin ⊢;exact wpAny_pyNext_wide_item st hx fun h' st' sb=>fin h' st' sb
 done:=by
  intro X hP hw hK hc i pins s σ H E I hf st hg;subst hP hw hK;have hi:x.cps.size<=i:=hg;obtain⟨f0,f1,f2,f3,f4,f5⟩:=hf it (by simp);have hx:x.cps[i]? = none:=by simp[hi]
  unfold strIterType at st;split at st
  ·exact wpAny_pyNext_ascii_end (I.ok.hd hc) st hx fun h' eb=>⟨rfl,I.turned (t':=s.toks) (fun b o hb e=>eb b o hb e) f0 f1 f3 f4 f5⟩
  ·exact wpAny_pyNext_wide_end (I.ok.hd hc) st hx fun h' eb=>⟨rfl,I.turned (t':=s.toks) (fun b o hb e=>eb b o hb e) f0 f1 f3 f4 f5⟩
 self:=fun _ _ _ _ _ st h=>by
  unfold strIterType at st;split at st
  ·exact wpAny_pyIter_striter_ascii st h
  ·exact wpAny_pyIter_striter_wide st h
def iStr(tl:TE):TI:=fun σ H R=>tl σ H fun v H1=>∃x,v=.str x/\R (Its x) H1
section
variable {X:Cx}{tg:Expr}
theorem pi_str{l:Expr}{tl:TE}(hl:PE X l tl):PI X tg l (iStr tl):=by
 intro pins s σ H R I h;refine thn (hl pins s σ H _ I h) fun v s1 ⟨y,H1,I1,r1,x,e,q1⟩=>?_
 subst e;obtain⟨t,rfl⟩:=r1;refine wpAny_pyIter_strU ?_;have k:∀b u,s1.heap.get? b=some u->(s1.heap.push { cls:=.type (strIterType x),data:=.fields #[.str x t,.int 0 0] }).get? b=some u:=fun b u q=>Heap.get?_push_of_some _ q
 refine⟨s1.heap.objs.size,[s1.heap.objs.size],_,Its x,H1,rfl,I1.kept (t':=s1.toks) k,turn_str x t _,⟨_,Heap.get?_push_size _ rfl,rfl,rfl⟩,fun b hb=>?_,q1⟩;have e:b=s1.heap.objs.size:=by simpa using hb
 subst e;exact I1.fpOk (Nat.le_refl _) I1.fresh
def boolsOf:List V->Option (List Bool)
 | []=>some []
 | .bl b::r=>(boolsOf r).map (b :: ·)
 | _=>none
theorem bools_get:∀ {xs:List V} {bs:List Bool} {i:Nat} {x:V},boolsOf xs=some bs->xs[i]? = some x->∃b,bs[i]? = some b/\x=.bl b
 | [],_,_,_,_,h=>by simp at h
 | y::r,bs,i,x,e,h=>by
  cases y with
  | bl b=>
   cases e2:boolsOf r with
   | none=>simp[boolsOf,e2]at e
   | some bs2=>
    simp[boolsOf,e2]at e;subst e;cases i with
    | zero=>simp at h;exact⟨b,rfl,h.symm⟩
    | succ i=>
     obtain⟨b',h1,h2⟩:=bools_get (i:=i) e2 (by simpa using h);exact⟨b',by simpa using h1,h2⟩
  | _=>simp[boolsOf]at e
theorem bools_len:∀ {xs:List V} {bs:List Bool},boolsOf xs=some bs->xs.length=bs.length
 | [],_,e=>by cases e;rfl
 | y::r,bs,e=>by
  cases y with
  | bl b=>
   cases e2:boolsOf r with
   | none=>simp[boolsOf,e2]at e
   | some bs2=>
    simp[boolsOf,e2]at e;subst e;simp[bools_len e2]
  | _=>simp[boolsOf]at e
theorem all_range(bs:List Bool):((List.range bs.length).all fun i=>(bs[i]?).getD true)=bs.all id:=by
 rw[Bool.eq_iff_iff,List.all_eq_true,List.all_eq_true];constructor
 ·intro h b hb
  obtain⟨i,hi,rfl⟩:=List.mem_iff_getElem.mp hb;have:=h i (by simpa using hi);simpa[hi]using this
 ·intro h i hi
  have hl:i<bs.length:=by simpa using hi
  have:=h bs[i] (List.getElem_mem _);simpa[hl]using this
def qAll:List V->Hp->VK->Prop:=fun vs H Q=>match vs with
 | [.ref l]=>match H l with
  | some (.lst xs)=>∃bs,boolsOf xs=some bs/\Q (.bl (bs.all id)) H
  | _=>False
 | _=>False
theorem call_qall(hc:X.calm=true):CallR X (.builtin "all") qAll:=fun pins s σ H xs us Q I r h=>by
 unfold qAll at h;split at h
 ·split at h
  ·rename_i l _ ys hl
   obtain⟨bs,e,q⟩:=h;obtain⟨u,rfl,ru⟩:=vals1 r;cases ru;obtain⟨its,rv,pl,hz⟩:=I.list (SqL.of hl);have hlt:l<s.heap.objs.size:=by obtain⟨_,e,_⟩:=pl.isList;exact Heap.lt_size e
   have hlen:=rv.length;have hbl:=bools_len e;refine call_all_walk (wpAny_pyIter_list pl.isList ?_)
   refine⟨s.heap.objs.size,[s.heap.objs.size,l],[s.heap.objs.size],its.toArray.size,_,_,fun i=>(bs[i]?).getD true,rfl,Walks.list (A:=X.A.in1) (I.ok.hd hc) _ l (Nat.ne_of_lt hlt) its.toArray,
    ⟨⟨_,Heap.get?_push_size _ rfl,rfl,rfl⟩,pl.isList.push _⟩,fun i v s' Q' E' hP hQ=>?_,fun h' tk hk=>?_⟩
   ·have hP:its[i]? = some v:=by simpa using hP
    have hi:i<ys.length:=by rw[hlen];exact(List.getElem?_eq_some_iff.mp hP).1
    have ey:ys[i]? = some ys[i]:=by simp[hi]
    obtain⟨b,eb,ez⟩:=bools_get e ey;obtain⟨u,eu,ru⟩:=rv.get ey;rw[hP]at eu;cases eu;rw[ez]at ru;cases ru;simp only[eb,Option.getD_some]at hQ;exact wpAny_truthy_bool hQ
   ·have e2:((List.range its.toArray.size).all fun i=>(bs[i]?).getD true)=bs.all id:=by
     rw[List.size_toArray,<-hlen,hbl];exact all_range bs
    rw[e2];exact⟨.bl _,H,I.kept (t':=tk) fun b x e=>hk b x (fun hm=>by rw[List.mem_singleton.mp hm]at e;exact Nat.lt_irrefl _ (Heap.lt_size e)) (Heap.get?_push_of_some _ e),rfl,q⟩
  ·exact h.elim
 ·exact h.elim
end
end L2
namespace L2
open PySem PySem.Spec PyProof.Rows
section
variable {X:Cx}
theorem Inv.turnedL{pins:List (Addr×Obj)}{σ:St}{H:Hp}{s:Shared}{h':Heap}{t':Nat}{fp:List Addr}(I:Inv X pins σ H s)(k:∀b o,b∉fp->s.heap.get? b=some o->h'.get? b=some o)(hf:∀b∈fp,FpOk X pins H b) :
  Inv X pins σ H { s with heap:=h',toks:=t' }:=by
 have nit:∀b u,H b=some u->b∉fp:=fun b u e z=>by rw[(hf b z).1]at e;cases e
 refine I.step (g':=s.gens) (d':=s.drawn) (ch:=fp) (fun b hb=>?_) (fun b o _ _ hc e _=>k b o hc e) (fun b o _ _ hc e _=>⟨o.slots,k b o hc e⟩) (fun _ _ _ _ n=>n)
  (fun b o hc e=>⟨o,k b o hc e⟩) (fun _ _ e=>e) (fun _ _ _ e=>e) (fun b ps e=>⟨#[],by rw[e];simp⟩) (fun m hm=>?_) (fun b u e=>?_) I.bare
 ·obtain⟨_,f1,_,f3,f4,f5⟩:=hf b hb
  exact⟨f3,f1,f4,f5⟩
 ·obtain⟨o,es,ep,ho,r⟩:=hm
  exact⟨o,es,ep,k _ o (fun z=>(hf _ z).2.1 rfl) ho,r⟩
 ·refine(I.hok b u e).stay (fun c v hc q=>k c v ?_ q) (fun _ q=>q) fun _ _ q=>q
  rcases hc with z | z
  ·rw[z];exact nit b u e
  ·exact nit c _ z
theorem Inv.pairL{pins:List (Addr×Obj)}{σ:St}{H:Hp}{s:Shared}{h':Heap}{t':Nat}{fp:List Addr}{x y:V}{u v:Value}(I:Inv X pins σ H s)(hf:∀b∈fp,FpOk X pins H b)(fl:∀b∈fp,b≠s.heap.objs.size)
  (rx:RelV x u) (ry:RelV y v) (ht:h'.get? s.heap.objs.size=some { cls:=.type "tuple", data:=.seq #[u,v] }) (k:∀b o,b∉fp->s.heap.get? b=some o->h'.get? b=some o) :
  Inv X pins σ (upd H s.heap.objs.size (.tup [x,y])) { s with heap:=h',toks:=t' }:=by
 have I1:Inv X pins σ (upd H s.heap.objs.size (.tup [x,y])) { s with heap:=s.heap.push { cls:=.type "tuple", data:=.seq #[u,v] },toks:=s.toks }:=
  I.laid (fun b u e=>Heap.get?_push_of_some _ e) (Nat.le_refl _) ⟨by show 2<=sizeLine;decide,[u,v],.cons rx (.cons ry .nil),⟨_,Heap.get?_push_size _ rfl,rfl,_,rfl⟩⟩
 refine Inv.turnedL (s:={ s with heap:=s.heap.push { cls:=.type "tuple", data:=.seq #[u,v] },toks:=s.toks }) (fp:=fp) I1 (fun b o hb e=>?_) fun b hb=>⟨by rw[upd_ne (fl b hb)];exact(hf b hb).1,(hf b hb).2⟩
 by_cases hz:b=s.heap.objs.size
 ·subst hz
  have e2:=Heap.get?_push_size s.heap (o:={ cls:=.type "tuple", data:=.seq #[u,v] }) rfl;rw[show(s.heap.push { cls:=.type "tuple", data:=.seq #[u,v] }).get? s.heap.objs.size=some o from e]at e2;cases e2;exact ht
 ·refine k b o hb ?_
  have e:(s.heap.push { cls:=.type "tuple", data:=.seq #[u,v] }).get? b=some o:=e
  rwa [Heap.get?_push_ne _ _ _ hz]at e
def Ite(K:PySem.W.Frag)(a:Addr):It:=
 ⟨fun i H=>∃xs x,SqL K H a xs/\xs[i]? = some x,fun i H v H'=>∃p x,H p=none/\v=.ref p/\H'=upd H p (.tup [.int i,x])/\∀xs,SqL K H a xs->xs[i]? = some x,fun i H=>∃xs,SqL K H a xs/\xs.length<=i⟩
theorem turn_enum{P:Program}{w:World}{K:PySem.W.Frag}{elts:List Expr}{x1}{tp:Pos}(a e it:Addr)(hne:e≠it):Turn P w K (.Tuple elts x1 tp) (Ite K a) [e,it] e (fun i h=>(∃old,IsEnum h e it i old)/\h.IsListIter it a i) where
 mem:=by simp
 obj:=fun i h st b hb=>by
  obtain⟨⟨old,he⟩,o,e1,c,d⟩:=st;rcases List.mem_cons.mp hb with rfl | hb
  ·exact⟨_,he,fun v z=>by
    have z':Data.fields _=Data.cell v:=z;cases z'⟩
  ·have:b=it:=by simpa using hb
   subst this;exact⟨o,e1,fun v z=>by rw[d]at z;cases z⟩
 keep:=fun i h h' st k=>by
  obtain⟨⟨old,he⟩,hi⟩:=st;exact⟨⟨old,k e (by simp) _ he⟩,hi.at fun o q=>k it (by simp) o q⟩
 item:=by
  intro X hP hw hK hc i pins s σ H E I hf st hg;subst hP hw hK;obtain⟨⟨old,he⟩,hit⟩:=st;obtain⟨xs,x,hq,hx⟩:=hg;obtain⟨its,rv,p,hz⟩:=I.list hq;obtain⟨u,hu,ru⟩:=rv.get hx;refine wpAny_pyNext_enum_item he hit p.isList (x:=u) (by simpa using hu) hne fun h1 ho hit1 hT hsz hk=>?_
  refine⟨_,rfl,?_⟩;refine wpAny_letOwnedTupleGo_enum (s:={ s with heap:=h1,toks:=s.toks+1 }) ho fun h2 he2 hs2=>?_
  have hs2:Heap.SameBut e h1 h2:=hs2;have le:e≠s.heap.objs.size:=Nat.ne_of_lt (Heap.lt_size he);have li:it≠s.heap.objs.size:=by obtain⟨_,q,_⟩:=hit;exact Nat.ne_of_lt (Heap.lt_size q)
  have fl:∀b∈[e,it],b≠s.heap.objs.size:=fun b hb=>by
   rcases List.mem_cons.mp hb with rfl | hb
   ·exact le
   ·have:b=it:=by simpa using hb
    subst this;exact li
  have I2:=I.pairL (h':=h2) (t':=s.toks+1) (x:=.int i) (y:=x) (u:=.int i s.toks) (v:=u) hf fl ⟨_,rfl⟩ ru ((hs2.2 _ (Ne.symm le)).trans hT) fun b o hb q=>by
   have n1:b≠e:=fun z=>hb (by simp[z])
   have n2:b≠it:=fun z=>hb (by simp[z])
   exact(hs2.2 b n1).trans (hk b o n1 n2 q)
  refine⟨.ref s.heap.objs.size,_,I2,rfl,⟨_,x,I.fresh,rfl,rfl,fun ys hy=>by rw[I.list_inj hy hq];exact hx⟩,⟨⟨u,by simpa using he2⟩,hit1.at fun o q=>(hs2.2 it (Ne.symm hne)).trans q⟩,fun b hb=>?_⟩;rw[upd_ne (fl b hb)];exact(hf b hb).1
 done:=by
  intro X hP hw hK hc i pins s σ H E I hf st hg;subst hP hw hK;obtain⟨⟨old,he⟩,hit⟩:=st;obtain⟨xs,hq,hx⟩:=hg;obtain⟨its,rv,p,hz⟩:=I.list hq;obtain⟨f0,f1,f2,f3,f4,f5⟩:=hf it (by simp);have hl:=rv.length;exact wpAny_pyNext_enum_end (I.ok.hd hc) he hit p.isList (by simp;omega) fun h' eb=>⟨rfl,I.turned (t':=s.toks) (fun b o hb e=>eb b o hb e) f0 f1 f3 f4 f5⟩
 self:=fun _ _ _ _ _ st h=>by
  obtain⟨⟨old,he⟩,_⟩:=st;exact wpAny_pyIter_enum he h
def iEnum(K:PySem.W.Frag)(ta:TA):TI:=fun σ H R=>ta σ H fun vs H1=>∃a,vs=[.ref a]/\(∃xs,SqL K H1 a xs)/\R (Ite K a) H1
theorem pi_enum{elts:List Expr}{x1}{tp:Pos}{a:Expr}{ta:TA}{p pos:Pos}(hg:Gl X "enumerate")(hm:X.mg "enumerate" = none)(ha:PA X [a] ta)(hs:starEach [a] X.env=[(false,eval a X.env)]:=by rfl) :
  PI X (.Tuple elts x1 tp) (.Call (.Name "enumerate" p) [a] [] pos) (iEnum X.K ta):=by
 intro pins s σ H R I h;refine Call_ (ld_blt I hg hm boot_enumerate (PyProof.Rows.callWith_type1 (thn (ha pos pins s σ H _ I h) fun us s1 ⟨vs,H1,I1,r1,q1⟩=>?_) hs rfl));obtain⟨b,e,⟨xs,hq⟩,q⟩:=q1;subst e;cases r1 with
 | cons r rr=>
  cases rr;cases r;obtain⟨its,rv,pl,hz⟩:=I1.list hq;refine call_enumerate_list pl.isList fun h' he hit hsz hk=>?_
  have I2:Inv X pins σ H1 { s1 with heap:=h' }:=I1.kept (t':=s1.toks) hk;refine wpAny_pyIter_enum he ⟨_,[s1.heap.objs.size+1,s1.heap.objs.size],_,_,H1,rfl,I2,turn_enum b (s1.heap.objs.size+1) s1.heap.objs.size (Nat.succ_ne_self _),⟨⟨_,he⟩,hit⟩,fun c hc=>?_,q⟩;rcases List.mem_cons.mp hc with rfl | hc
  ·exact I1.fpOk (by omega) (I1.hok.fresh (by omega))
  ·have:c=s1.heap.objs.size:=by simpa using hc
   subst this;exact I1.fpOk (Nat.le_refl _) (I1.hok.fresh (Nat.le_refl _))
def Itz(K:PySem.W.Frag)(a b:Addr):It:=
 ⟨fun i H=>∃xs ys x y,SqL K H a xs/\SqL K H b ys/\xs[i]? = some x/\ys[i]? = some y,fun i H v H'=>∃p x y,H p=none/\v=.ref p/\H'=upd H p (.tup [x,y])/\(∀xs,SqL K H a xs->xs[i]? = some x)/\∀ys,SqL K H b ys->ys[i]? = some y,
  fun i H=>∃xs ys,SqL K H a xs/\SqL K H b ys/\(xs.length<=i\/ys.length<=i)⟩
theorem apart_of{h:Heap}{a b:Addr}{o o':Obj}(h1:h.get? a=some o)(h2:h.get? b=some o')(hc:o.cls≠o'.cls):a≠b:=fun z=>by
 subst z;rw[h1]at h2;cases h2;exact hc rfl
theorem turn_zip{P:Program}{w:World}{K:PySem.W.Frag}{elts:List Expr}{x1}{tp:Pos}(a b z TI TO i1 i2:Addr)(n1:TI≠z)(n2:TO≠z)(n3:i1≠z)(n4:i2≠z)(n5:TI≠TO)(n6:TI≠i1)(n7:TI≠i2)(n8:TO≠i1)(n9:TO≠i2)(n10:i1≠i2) :
  Turn P w K (.Tuple elts x1 tp) (Itz K a b) [z,TI,TO,i1,i2] z (fun i h=>IsZip h z TI TO .none/\IsPair h TI (.ref i1) (.ref i2)/\(∃u v,IsPair h TO u v)/\h.IsListIter i1 a i/\h.IsListIter i2 b i) where
 mem:=by simp
 obj:=fun i h st c hb=>by
  obtain⟨hz,hTI,⟨u,v,hTO⟩,⟨o1,e1,c1,d1⟩,⟨o2,e2,c2,d2⟩⟩:=st;simp only[List.mem_cons,List.not_mem_nil,or_false]at hb;rcases hb with rfl | rfl | rfl | rfl | rfl
  ·exact⟨_,hz,fun v z=>by
    have z':Data.fields _=Data.cell v:=z;cases z'⟩
  ·exact⟨_,hTI,fun v z=>by
    have z':Data.seq _ _=Data.cell v:=z;cases z'⟩
  ·exact⟨_,hTO,fun v z=>by
    have z':Data.seq _ _=Data.cell v:=z;cases z'⟩
  ·exact⟨o1,e1,fun v z=>by rw[d1]at z;cases z⟩
  ·exact⟨o2,e2,fun v z=>by rw[d2]at z;cases z⟩
 keep:=fun i h h' st k=>by
  obtain⟨hz,hTI,⟨u,v,hTO⟩,h1,h2⟩:=st;exact⟨k z (by simp) _ hz,k TI (by simp) _ hTI,⟨u,v,k TO (by simp) _ hTO⟩,h1.at fun o q=>k i1 (by simp) o q,h2.at fun o q=>k i2 (by simp) o q⟩
 item:=by
  intro X hP hw hK hc i pins s σ H E I hf st hg;subst hP hw hK;obtain⟨hz,hTI,⟨u,v,hTO⟩,h1,h2⟩:=st;obtain⟨xs,ys,x,y,hqa,hqb,hx,hy⟩:=hg;obtain⟨ia,ra,pa,za⟩:=I.list hqa;obtain⟨ib,rb,pb,zb⟩:=I.list hqb;obtain⟨ux,hux,rux⟩:=ra.get hx;obtain⟨uy,huy,ruy⟩:=rb.get hy;obtain⟨oa,la,ca,_⟩:=id pa.isList;obtain⟨ob,lb,cb,_⟩:=id pb.isList;obtain⟨o1,e1,c1,_⟩:=id h1;obtain⟨o2,e2,c2,_⟩:=id h2
  have D:ZipApart z TI TO i1 i2 a b:=⟨n1,n2,n3,n4,n5,n6,n7,n8,n9,n10,
   apart_of la hz (by rw[ca];intro z;injection z with z;revert z;decide),apart_of la hTO (by rw[ca];intro z;injection z with z;revert z;decide),apart_of la e1 (by rw[ca,c1];intro z;injection z with z;revert z;decide),apart_of la e2 (by rw[ca,c2];intro z;injection z with z;revert z;decide),
   apart_of lb hz (by rw[cb];intro z;injection z with z;revert z;decide),apart_of lb hTO (by rw[cb];intro z;injection z with z;revert z;decide),apart_of lb e1 (by rw[cb,c1];intro z;injection z with z;revert z;decide),apart_of lb e2 (by rw[cb,c2];intro z;injection z with z;revert z;decide)⟩
  refine wpAny_pyNext_zip_item D hz hTI hTO h1 h2 pa.isList pb.isList (x:=ux) (y:=uy) (by simpa using hux) (by simpa using huy) fun h3 a1 a2 a3 a4 a5 a6 hk=>?_
  refine⟨_,rfl,?_⟩;refine wpAny_letOwnedTupleGo_zip (s:={ s with heap:=h3 }) a1 fun h4 hz4 hs4=>?_
  have hs4:Heap.SameBut z h3 h4:=hs4;have lz:z≠s.heap.objs.size:=Nat.ne_of_lt (Heap.lt_size hz)
  have fl:∀c∈[z,TI,TO,i1,i2],c≠s.heap.objs.size:=fun c hc=>by
   simp only[List.mem_cons,List.not_mem_nil,or_false]at hc;rcases hc with rfl | rfl | rfl | rfl | rfl
   ·exact lz
   ·exact Nat.ne_of_lt (Heap.lt_size hTI)
   ·exact Nat.ne_of_lt (Heap.lt_size hTO)
   ·exact Nat.ne_of_lt (Heap.lt_size e1)
   ·exact Nat.ne_of_lt (Heap.lt_size e2)
  have I2:=I.pairL (h':=h4) (t':=s.toks) (x:=x) (y:=y) (u:=ux) (v:=uy) hf fl rux ruy ((hs4.2 _ (Ne.symm lz)).trans a5) fun c o hc q=>by
   have m1:c≠z:=fun z=>hc (by simp[z])
   have m3:c≠TO:=fun z=>hc (by simp[z])
   have m4:c≠i1:=fun z=>hc (by simp[z])
   have m5:c≠i2:=fun z=>hc (by simp[z])
   exact(hs4.2 c m1).trans (hk c o m1 m3 m4 m5 q)
  refine⟨.ref s.heap.objs.size,_,I2,rfl,⟨_,x,y,I.fresh,rfl,rfl,fun zs hy=>by rw[I.list_inj hy hqa];exact hx,fun zs hy'=>by rw[I.list_inj hy' hqb];exact hy⟩,
   ⟨hz4,hs4.extBut _ _ n1 (hk _ _ n1 n5 n6 n7 hTI),⟨_,_,hs4.extBut _ _ n2 a2⟩,a3.extBut hs4.extBut n3,a4.extBut hs4.extBut n4⟩,fun c hc=>?_⟩
  rw[upd_ne (fl c hc)];exact(hf c hc).1
 done:=by
  intro X hP hw hK hc i pins s σ H E I hf st hg;subst hP hw hK;obtain⟨hz,hTI,⟨u,v,hTO⟩,h1,h2⟩:=st;obtain⟨xs,ys,hqa,hqb,hx⟩:=hg;obtain⟨ia,ra,pa,za⟩:=I.list hqa;obtain⟨ib,rb,pb,zb⟩:=I.list hqb;obtain⟨oa,la,ca,_⟩:=id pa.isList;obtain⟨ob,lb,cb,_⟩:=id pb.isList;obtain⟨o1,e1,c1,_⟩:=id h1;obtain⟨o2,e2,c2,_⟩:=id h2
  have D:ZipApart z TI TO i1 i2 a b:=⟨n1,n2,n3,n4,n5,n6,n7,n8,n9,n10,
   apart_of la hz (by rw[ca];intro z;injection z with z;revert z;decide),apart_of la hTO (by rw[ca];intro z;injection z with z;revert z;decide),apart_of la e1 (by rw[ca,c1];intro z;injection z with z;revert z;decide),apart_of la e2 (by rw[ca,c2];intro z;injection z with z;revert z;decide),
   apart_of lb hz (by rw[cb];intro z;injection z with z;revert z;decide),apart_of lb hTO (by rw[cb];intro z;injection z with z;revert z;decide),apart_of lb e1 (by rw[cb,c1];intro z;injection z with z;revert z;decide),apart_of lb e2 (by rw[cb,c2];intro z;injection z with z;revert z;decide)⟩
  have la':=ra.length;have lb':=rb.length
  have hend:ia.toArray[i]? = none\/ib.toArray[i]? = none:=by
   rcases hx with hx | hx
   ·left;simp;omega
   ·right;simp;omega
  refine wpAny_pyNext_zip_end (I.ok.hd hc) D hz hTI hTO h1 h2 pa.isList pb.isList hend fun h' hk=>⟨rfl,?_⟩
  refine I.turnedL (t':=s.toks) (fp:=[z,TI,TO,i1,i2]) (fun c o hc q=>?_) hf;exact hk c o (fun z=>hc (by simp[z])) (fun z=>hc (by simp[z])) (fun z=>hc (by simp[z])) (fun z=>hc (by simp[z])) q
 self:=fun _ _ _ _ _ st h=>wpAny_pyIter_zip st.1 h
def iZip(K:PySem.W.Frag)(ta:TA):TI:=fun σ H R=>ta σ H fun vs H1=>∃a b,vs=[.ref a,.ref b]/\(∃xs,SqL K H1 a xs)/\(∃xs,SqL K H1 b xs)/\R (Itz K a b) H1
theorem pi_zip{elts:List Expr}{x1}{tp:Pos}{a b:Expr}{ta:TA}{p pos:Pos}(hg:Gl X "zip")(hm:X.mg "zip" = none)(ha:PA X [a,b] ta)(hs:starEach [a,b] X.env=[(false,eval a X.env),(false,eval b X.env)]:=by rfl)(hs2:starEach [b] X.env=[(false,eval b X.env)]:=by rfl) :
  PI X (.Tuple elts x1 tp) (.Call (.Name "zip" p) [a,b] [] pos) (iZip X.K ta):=by
 intro pins s σ H R I h;refine Call_ (ld_blt I hg hm boot_zip (PyProof.Rows.callWith_type1 (thn (ha pos pins s σ H _ I h) fun us s1 ⟨vs,H1,I1,r1,q1⟩=>?_) (by rw[hs,hs2]) (by rw[hs2];rfl)));obtain⟨c,d,e,⟨xs,hq⟩,⟨ys,hq'⟩,q⟩:=q1;subst e;cases r1 with
 | cons r rr=>
  cases rr with
  | cons r' rr=>
   cases rr;cases r;cases r';obtain⟨ia,ra,pa,za⟩:=I1.list hq;obtain⟨ib,rb,pb,zb⟩:=I1.list hq';refine call_zip_2 pa.isList pb.isList fun h' hz hTI hTO h1 h2 hsz hk=>?_
   have I2:Inv X pins σ H1 { s1 with heap:=h' }:=I1.kept (t':=s1.toks) hk;have N:∀n:Nat,n+2≠n+4/\n+3≠n+4/\n≠n+4/\n+1≠n+4/\n+2≠n+3/\n+2≠n/\n+2≠n+1/\n+3≠n/\n+3≠n+1/\n≠n+1:=fun n=>by omega
   obtain⟨m1,m2,m3,m4,m5,m6,m7,m8,m9,m10⟩:=N s1.heap.objs.size
   refine wpAny_pyIter_zip hz ⟨_,[s1.heap.objs.size+4,s1.heap.objs.size+2,s1.heap.objs.size+3,s1.heap.objs.size,s1.heap.objs.size+1],_,_,H1,rfl,I2,
    turn_zip c d (s1.heap.objs.size+4) (s1.heap.objs.size+2) (s1.heap.objs.size+3) s1.heap.objs.size (s1.heap.objs.size+1) m1 m2 m3 m4 m5 m6 m7 m8 m9 m10,⟨hz,hTI,⟨_,_,hTO⟩,h1,h2⟩,fun y hy=>?_,q⟩
   have:s1.heap.objs.size<=y:=by
    simp only[List.mem_cons,List.not_mem_nil,or_false]at hy;rcases hy with rfl | rfl | rfl | rfl | rfl
    ·exact Nat.le_add_right _ _
    ·exact Nat.le_add_right _ _
    ·exact Nat.le_add_right _ _
    ·exact Nat.le_refl _
    ·exact Nat.le_add_right _ _
   exact I1.fpOk this (I1.hok.fresh this)
end
end L2
namespace L2
open PySem PySem.Spec PyProof.Rows
def hid2(x y:Str)(N:List Str):List Str:=N.map fun z=>if z=x then ("." : Str)++x else if z=y then ("." : Str)++y else z
def cxCompP(X:Cx)(scope:Scope)(cl:List (Str×Addr))(C:Addr)(x y:Str)(fp:List Addr)(s3:Shared)(H3:Hp):Cx:=
 { X with N:=x::y::hid2 x y X.N,s₀:=s3,H₀:=H3,env:=compEnvC scope cl C X.env,outer:=X.stack,stack:=X.stack,ex:=fp,fn:=fun _=>false,pn:=[],xe:=fun _ _=>False }
structure CompOkP(N:List Str)(osc sc:Scope)(x y:Str):Prop where
 kind:sc.kind=.function
 cell:∀y∈sc.names,y.2≠.cell
 names:∀y∈sc.names,y.2=.local->sc.names.lookup y.1=some .local
 own:sc.names.lookup x=some .local
 own2:sc.names.lookup y=some .local
 fr:∀y∈sc.names,y.2=.free->osc.names.lookup y.1=some .cell\/osc.names.lookup y.1=some .free
 see:∀z∈hid2 x y N,sc.names.lookup z≠some .local
 dot:sc.names.lookup (("." : Str)++x)=none
 dot2:sc.names.lookup (("." : Str)++y)=none
 nd:(x::y::hid2 x y N).Nodup
def tCompP(K:PySem.W.Frag)(wi:TI)(tt:TT)(te:TE):TE:=fun σ H Q=>wi σ H fun J H1=>∀D,H1 D=none->∃W:Nat->Nat->List V->Hp->Prop,
 (∃m,W 0 m [] (upd H1 D (.lst [])))/\∀i m ys H2,W i m ys H2->H2 D=some (.lst ys) /\
  ((J.stop i H2 ∧ Q (.ref D) H2) ∨ (J.go i H2 ∧ ∀ x H3, J.yld i H2 x H3 → ∃ a u v, x = .ref a ∧ SqT K H3 a [u, v] ∧ tt (some u :: some v :: σ) H3 fun ok H4 => if ok = true then
    te (some u::some v::σ) H4 (fun y H5=>H5 D=some (.lst ys)/\ys.length<sizeLine/\∃m',m'<m/\W (i+1) m' (ys++[y]) (upd H5 D (.lst (ys++[y]))))
    else ∃m',m'<m/\W (i+1) m' ys H4))
section
variable {X:Cx}{elt iter:Expr}{x x2:Str}{px py2 pt pos:Pos}{kt}{ifs:List Expr}{scope:Scope}
theorem comp_invP{pins:List (Addr×Obj)}{σ:St}{H:Hp}{s3:Shared}{cl:List (Str×Addr)}{fp:List Addr}{h4:Heap}{tk:Nat}(hc:CompOkP X.N X.env.scope scope x x2)(I:Inv X pins σ H s3)
  (hcl:∀y c,cl.lookup y=some c->X.env.cells.lookup y=some c) (hcl2:∀y,(y,NameKind.free)∈scope.names->(cl.lookup y).isSome=true)
  (fpo:∀b∈fp,FpOk X pins H b) (fpl:∀b∈fp,b<s3.heap.objs.size)
  (hn:h4.Ns s3.heap.objs.size (fun _=>none)) (k:∀b o,s3.heap.get? b=some o->h4.get? b=some o) :
  Inv (cxCompP X scope cl s3.heap.objs.size x x2 fp s3 H) [] (none::none::σ) H { s3 with heap:=h4,toks:=tk }:=by
 have low:∀x y,(cxCompP X scope cl s3.heap.objs.size x x2 fp s3 H).env.cells.lookup y=cl.lookup y:=fun _ _=>rfl
 have below:∀y c,cl.lookup y=some c->c<s3.heap.objs.size:=fun y c e=>by
  obtain⟨v,q⟩:=I.cell y c (hcl y c e);exact q.lt
 have kinds:∀y,((cxCompP X scope cl s3.heap.objs.size x x2 fp s3 H).env.kindOf y=some .cell\/(cxCompP X scope cl s3.heap.objs.size x x2 fp s3 H).env.kindOf y=some .free)->scope.names.lookup y=some .free:=by
  intro y hy;rcases hy with hy | hy
  ·rcases lookup_relabel hy with q | ⟨q,_⟩
   ·exact absurd rfl (hc.cell _ (PySem.mem_of_lookup q))
   ·exact q
  ·rcases lookup_relabel hy with q | ⟨q,z⟩
   ·exact q
   ·cases z
 refine⟨⟨I.ok.mod,?_,I.ok.glob,I.ok.blt,Nat.le_refl _,fun y z c h1 h2=>?_,fun y hy=>?_,fun y c h=>?_,I.ok.hd,I.ok.frames,.inl rfl,fun b hb=>⟨?_,fun y c e z=>?_⟩,fun b o e=>I.bs b o e,Nat.le_trans I.ok.bsz I.sz,fun b o e hb=>?_,fun b hb hf=>?_,I.stack,I.stkFree⟩,
  rfl,I.bare,Un.kept k,⟨_,hn,fun i y v h1 h2 h3=>?_⟩,fun y c e=>?_,I.fresh,fun y c e=>?_,fun p hp=>absurd (show p∈([]:List (Addr×Obj))from hp) (by simp),I.hok.kept k,?_⟩
 ·exact hc.kind
 ·exact I.ok.inj y z c (hcl _ _ h1) (hcl _ _ h2)
 ·have:=hcl2 y (PySem.mem_of_lookup (kinds y hy))
  exact Option.isSome_iff_exists.mp this
 ·cases h
 ·exact Nat.ne_of_lt (fpl b hb)
 ·exact(fpo b hb).2.2.2.2.1 y c (hcl y c e) z
 ·rcases(fpo b hb).2.2.2.1 with q | q
  ·exact I.ok.noex b o e q
  ·exact absurd (Nat.lt_of_lt_of_le (Heap.lt_size (I.ok.bs b o e).1) q) (Nat.lt_irrefl _)
 ·rcases List.mem_cons.mp (I.stkSub b hf)with e | e
  ·exact(fpo b hb).2.1 e
  ·exact(fpo b hb).2.2.1 e
 ·-- the names
  have h1:(x::x2::hid2 x x2 X.N)[i]? = some y:=h1;cases i with
  | zero=>cases h2
  | succ i=>
   cases i with
   | zero=>cases h2
   | succ i=>
   have h1:(hid2 x x2 X.N)[i]? = some y:=h1;have h2:σ[i]? = some (some v):=h2;have my:y∈hid2 x x2 X.N:=List.mem_of_getElem? h1;have h3:(relabel scope X.env).names.lookup y=some .local\/(relabel scope X.env).names.lookup y=some .cell\/(relabel scope X.env).names.lookup y=some .free:=h3
   have hf:scope.names.lookup y=some .free:=by
    rcases h3 with q | q
    ·rcases lookup_relabel q with q | ⟨_,z⟩
     ·exact absurd q (hc.see y my)
     ·cases z
    ·exact kinds y q
   have hy:X.N[i]? = some y:=by
    unfold hid2 at h1;rw[List.getElem?_map]at h1;cases e:X.N[i]? with
    | none=>rw[e]at h1;cases h1
    | some z=>
     rw[e]at h1;by_cases ez:z=x
     ·rw[Option.map_some,if_pos ez]at h1
      have h1:=Option.some.inj h1;subst h1;rw[hc.dot]at hf;cases hf
     ·rw[Option.map_some,if_neg ez]at h1
      by_cases ez2:z=x2
      ·rw[if_pos ez2]at h1
       have h1:=Option.some.inj h1;subst h1;rw[hc.dot2]at hf;cases hf
      ·rw[if_neg ez2]at h1
       exact h1
   obtain⟨m,_,hl⟩:=I.loc;obtain⟨c,hcc⟩:=Option.isSome_iff_exists.mp (hcl2 y (PySem.mem_of_lookup hf))
   have vis:Vis X.env.scope y:=by
    rcases hc.fr _ (PySem.mem_of_lookup hf) rfl with q | q
    ·exact .inr (.inl q)
    ·exact .inr (.inr q)
   obtain⟨u,ru,lk⟩:=hl i y v hy h2 vis;refine⟨u,ru,.inr ⟨?_,c,hcc,?_⟩⟩
   ·rcases h3 with q | q
    ·rcases lookup_relabel q with q | ⟨_,z⟩
     ·exact absurd q (hc.see y my)
     ·cases z
    ·exact q
   ·have hce:=hcl y c hcc
    rcases lk with ⟨q,_⟩ | ⟨_,c',e',z⟩
    ·rcases hc.fr _ (PySem.mem_of_lookup hf) rfl with q' | q'
     ·have q:X.env.scope.names.lookup y=some .local:=q
      rw[show X.env.scope.names.lookup y=some NameKind.cell from q']at q;cases q
     ·have q:X.env.scope.names.lookup y=some .local:=q
      rw[show X.env.scope.names.lookup y=some NameKind.free from q']at q;cases q
    ·rw[e']at hce
     cases hce;obtain⟨o,ho,hd⟩:=z;exact⟨o,k _ _ ho,hd⟩
 ·obtain⟨v,o,ho,hd⟩:=I.cell y c (hcl y c e)
  exact⟨v,o,k _ _ ho,hd⟩
 ·exact I.freeC y c (hcl y c e)
 ·show(none::none::σ).length=(x::x2::hid2 x x2 X.N).length
  have:=I.len;simp[hid2,this]
theorem comp_blockP{pins:List (Addr×Obj)}{σ:St}{H1:Hp}{s2:Shared}{cl:List (Str×Addr)}{fp:List Addr}{it:Addr}{tn:Nat->Heap->Prop}{J:It}{tt:TT}{te:TE}{Q:VK}{E:Value->Shared->Prop}
  {RR:Value->Addr->Result->Shared->Prop} (hc:CompOkP X.N X.env.scope scope x x2) (hcalm:X.calm=true)
  (hcl:∀y c,cl.lookup y=some c->X.env.cells.lookup y=some c) (hcl2:∀y,(y,NameKind.free)∈scope.names->(cl.lookup y).isSome=true)
  (ht:∀C fp s3 H3,PTs (cxCompP X scope cl C x x2 fp s3 H3) ifs tt) (he:∀C fp s3 H3,PE (cxCompP X scope cl C x x2 fp s3 H3) elt te)
  (I:Inv X pins σ H1 s2) (T:Turn X.prog X.w X.K (.Tuple [.Name x px,.Name x2 py2] kt pt) J fp it tn) (st:tn 0 s2.heap) (fpo:∀b∈fp,FpOk X pins H1 b)
  (h:∀D,H1 D=none->∃W:Nat->Nat->List V->Hp->Prop,
   (∃m,W 0 m [] (upd H1 D (.lst [])))/\∀i m ys H2,W i m ys H2->H2 D=some (.lst ys) /\
   ((J.stop i H2 ∧ Q (.ref D) H2) ∨ (J.go i H2 ∧ ∀ x H3, J.yld i H2 x H3 → ∃ a u v, x = .ref a ∧ SqT X.K H3 a [u, v] ∧ tt (some u :: some v :: σ) H3 fun ok H4 => if ok = true then
     te (some u::some v::σ) H4 (fun y H5=>H5 D=some (.lst ys)/\ys.length<sizeLine/\∃m',m'<m/\W (i+1) m' (ys++[y]) (upd H5 D (.lst (ys++[y]))))
     else ∃m',m'<m/\W (i+1) m' ys H4)))
  (hRR:∀D C s' H' m,Inv X pins σ H' s'->s'.heap.Ns C m->H' C=none->C≠X.env.locals->X.s₀.heap.objs.size<=C->(∀y c,X.env.cells.lookup y=some c->c≠C)->(∀p∈X.pn++pins,p.1≠C)->Q (.ref D) H'->RR (.ref D) C (.ok .next) s') :
  wpAny (model X.prog X.w) X.A (newList []) (fun acc s₃=>wpAny (model X.prog X.w) X.A (newFunctionEnv scope X.env.globals cl [] X.env.qual none .none (some X.env)) (fun cenv s₄=>
   codeAny (model X.prog X.w) X.A (.compStart (.ListComp elt [⟨.Tuple [.Name x px,.Name x2 py2] kt pt,iter,ifs,0⟩] scope pos) 0 (.ref it) acc { cenv with scope:=relabel scope X.env }) (RR acc cenv.locals) s₄) E s₃) E s2:=by
 refine wpAny_newObj_type (hd:=by size_fits) ?_;have I3:=I.lnew (ys:=[]) (its:=[]) (t':=s2.toks) .nil (by show 0<=sizeLine;exact Nat.zero_le _);obtain⟨W,⟨m0,w0⟩,turn⟩:=h _ I.fresh;generalize hD:s2.heap.objs.size=D at I3 w0 turn ⊢;generalize hs3:({ s2 with heap:=s2.heap.push { cls:=.type "list", data:=.seq ([]:List Value).toArray } }:Shared)=s3;have hs3':({ s2 with heap:=s2.heap.push { cls:=.type "list", data:=.seq ([]:List Value).toArray },toks:=s2.toks }:Shared)=s3:=hs3;rw[hs3']at I3;have keep3:∀b o,s2.heap.get? b=some o->s3.heap.get? b=some o:=fun b o e=>by rw[<-hs3];exact Heap.get?_push_of_some _ e
 have fpl:∀b∈fp,b<s3.heap.objs.size:=fun b hb=>by
  obtain⟨o,e,_⟩:=T.obj _ _ st b hb;exact Heap.lt_size (keep3 b o e)
 have fpD:∀b∈fp,b≠D:=fun b hb z=>by
  obtain⟨o,e,_⟩:=T.obj _ _ st b hb;exact absurd (Heap.lt_size e) (by rw[z,hD];exact Nat.lt_irrefl _)
 have fpo3:∀b∈fp,FpOk X pins (upd H1 D (.lst [])) b:=fun b hb=>⟨by rw[upd_ne (fpD b hb)];exact(fpo b hb).1,(fpo b hb).2⟩
 show wpAny _ _ _ _ _ s3;refine wpAny_newFunctionEnv hc.cell (by intro y hy;simp at hy) (fun h₁ hns₁ hsb₁=>?_) hc.kind;dsimp only[newEnv]at hns₁ hsb₁ ⊢;have keep4:∀b o,s3.heap.get? b=some o->h₁.get? b=some o:=fun b o e=>hsb₁.extBut b o (Nat.ne_of_lt (Heap.lt_size e)) (Heap.get?_push_of_some _ e)
 have I4:=comp_invP (tk:=s3.toks+([]:List (Str×Value)).length) hc I3 hcl hcl2 fpo3 fpl hns₁ keep4;have st4:tn 0 h₁:=T.keep _ _ _ st fun b hb o e=>keep4 b o (keep3 b o e)
 have loop:∀s₄:Shared,s₄={ s3 with heap:=h₁,toks:=s3.toks+([]:List (Str×Value)).length } ->
   codeAny (model X.prog X.w) X.A (.compLoop (.ListComp elt [⟨.Tuple [.Name x px,.Name x2 py2] kt pt,iter,ifs,0⟩] scope pos) 0 (.ref it) (.ref D) (compEnvC scope cl s3.heap.objs.size X.env)) (RR (.ref D) s3.heap.objs.size) s₄:=by
  rintro s₄ rfl
  have stat:∀ {H':Hp},(∀b∈fp,H' b=none)->∀b∈fp,FpOk (cxCompP X scope cl s3.heap.objs.size x x2 fp s3 (upd H1 D (.lst []))) [] H' b:=fun hn b hb=>
   ⟨hn b hb,Nat.ne_of_lt (fpl b hb),fun hf=>by
    rcases List.mem_cons.mp (I3.stkSub b hf)with e | e
    ·exact(fpo b hb).2.1 e
    ·exact(fpo b hb).2.2.1 e,.inl hb,fun y c e=>(fpo b hb).2.2.2.2.1 y c (hcl y c e),fun p hp=>absurd (show p∈([]:List (Addr×Obj))from hp) (by simp)⟩
  refine comp_loop (env:=compEnvC scope cl s3.heap.objs.size X.env) (fun n s'=>∃i ys H',Inv (cxCompP X scope cl s3.heap.objs.size x x2 fp s3 (upd H1 D (.lst []))) [] (none::none::σ) H' s'/\tn i s'.heap/\(∀b∈fp,H' b=none)/\W i n ys H') ?_ m0
   ⟨0,[],_,I4,st4,fun b hb=>(fpo3 b hb).1,w0⟩
  rintro n s5 ⟨i,ys,H5,I5,st5,fr5,w5⟩;obtain⟨hDy,alt⟩:=turn i n ys H5 w5;rcases alt with ⟨stop,q⟩ | ⟨go,step⟩
  ·refine wpAny_mono (T.done (cxCompP X scope cl s3.heap.objs.size x x2 fp s3 (upd H1 D (.lst []))) rfl rfl rfl hcalm i [] s5 _ H5 (fun _ _=>False) I5 (stat fr5) st5 stop) (fun r s6 ⟨hr,I6⟩=>?_) fun _ _ f=>f
   subst hr;obtain⟨m6,n6,_⟩:=I6.loc
   have J6:Inv X pins σ H5 s6:=by
    refine I3.call' (ch:=fp) I6.os I6.base I6.hok I6.bare fun b hb=>?_
    obtain⟨_,f1,f2,f3,f4,f5⟩:=fpo3 b hb;exact⟨f3,f1,f4,f5⟩
   refine hRR D _ s6 H5 m6 J6 n6 I6.free (Nat.ne_of_gt I3.lt) I3.sz (fun y c e z=>?_) (fun p hp z=>?_) q
   ·obtain⟨v,q⟩:=I3.cell y c e
    exact absurd q.lt (by rw[z];exact Nat.lt_irrefl _)
   ·exact absurd (Heap.lt_size (I3.pin p hp).1) (by rw[z];exact Nat.lt_irrefl _)
  ·refine wpAny_mono (T.item (cxCompP X scope cl s3.heap.objs.size x x2 fp s3 (upd H1 D (.lst []))) rfl rfl rfl hcalm i [] s5 _ H5 (fun _ _=>False) I5 (stat fr5) st5 go) (fun r s6 ⟨u,hr,h6⟩=>?_) fun _ _ f=>f
   subst hr;refine thn h6 fun _ s6 ⟨xv,H6,I6,r6,y6,st6,fr6⟩=>?_
   have I6':=I6.pinned (stat fr6) (T.obj _ _ st6);obtain⟨pa,u1,u2,rfl,hsq,step⟩:=step xv H6 y6
   have hpg:PG (cxCompP X scope cl s3.heap.objs.size x x2 fp s3 (upd H1 D (.lst []))) (.Tuple [.Name x px,.Name x2 py2] kt pt) (gTup X.K 2 (gCons (gName 0) (gCons (gName 1) gNil))):=
    pg_tup (X:=cxCompP X scope cl s3.heap.objs.size x x2 fp s3 (upd H1 D (.lst []))) hcalm (pgs_cons (pg_name (i:=0) hc.nd rfl (.inl (lookup_relabel_local hc.own)) (.inr (lookup_relabel_local hc.own))) (pgs_cons (pg_name (i:=1) hc.nd rfl (.inl (lookup_relabel_local hc.own2)) (.inr (lookup_relabel_local hc.own2))) pgs_nil))
   refine thn (hpg _ s6 (none::none::σ) H6 (.ref pa) u (fun σ' H'=>σ'=some u1::some u2::σ/\H'=H6) I6' r6 ⟨pa,[u1,u2],rfl,hsq,rfl,_,_,rfl,_,_,rfl,rfl,rfl,rfl⟩) fun _ s7 ⟨σ7,H7,I7,e7,e7'⟩=>?_
   subst e7 e7'
   have again:∀ {s8:Shared} {H8:Hp} {ys8:List V},Inv (cxCompP X scope cl s3.heap.objs.size x x2 fp s3 (upd H1 D (.lst []))) ([]++pinsAt fp s6.heap) (some u1::some u2::σ) H8 s8->(∃m',m'<n/\W (i+1) m' ys8 H8) ->
     ∃m,m<n/\∃i ys H',Inv (cxCompP X scope cl s3.heap.objs.size x x2 fp s3 (upd H1 D (.lst []))) [] (none::none::σ) H' s8/\tn i s8.heap/\(∀b∈fp,H' b=none)/\W i m ys H':=by
    rintro s8 H8 ys8 I8 ⟨m',hm,w8⟩;refine⟨m',hm,i+1,ys8,H8,(I8.unpinned (pins:=[])).weak rfl (fun j v e=>?_),T.keep _ _ _ st6 fun b hb o e=>(I8.pin (b,o) (List.mem_append_right _ (List.mem_append_right _ (mem_pinsAt hb e)))).1,fun b hb=>?_,w8⟩
    ·cases j with
     | zero=>cases e
     | succ j=>
      cases j with
      | zero=>cases e
      | succ j=>exact e
    ·obtain⟨o,e,d⟩:=T.obj _ _ st6 b hb
     exact(I8.pin (b,o) (List.mem_append_right _ (List.mem_append_right _ (mem_pinsAt hb e)))).2.1
   refine thn (ht _ fp s3 _ _ s7 _ _ _ I7 step) (fun ok s8 ⟨H8,I8,q8⟩=>?_);cases ok with
   | false=>exact again I8 (by simpa using q8)
   | true=>
    rw[if_pos rfl]at q8;rw[if_pos rfl];refine thn (he _ fp s3 _ _ s8 _ H8 _ I8 q8) (fun v s9 ⟨y,H9,I9,r9,hD9,hz9,w9⟩=>?_);refine wpAny_mono (mt_append (X:=cxCompP X scope cl s3.heap.objs.size x x2 fp s3 (upd H1 D (.lst []))) _ s9 _ H9 (.ref D) [y] (.ref D) [v] (fun _ H'=>H'=upd H9 D (.lst (ys++[y]))) I9 rfl (.cons r9 .nil) ⟨D,ys,y,rfl,rfl,hD9,hz9,rfl⟩) (fun _ s10 ⟨_,H10,I10,_,e10⟩=>?_) fun _ _ f=>f
    subst e10;exact again I10 w9
 exact codeAny_compStart_list (loop _ rfl) (T.self X.A 0 _ _ _ st4 (loop _ rfl))
theorem comp_cellsP{pins:List (Addr×Obj)}{σ:St}{H:Hp}{s:Shared}(hc:CompOkP X.N X.env.scope scope x x2)(I:Inv X pins σ H s):∀y∈scope.names,y.2=.free->∃c,X.env.cells.lookup y.1=some c:=by
 intro y hy e;rcases hc.fr y hy e with q | q
 ·exact I.ok.has y.1 (.inl q)
 ·exact I.ok.has y.1 (.inr q)
theorem pe_compP{wi:TI}{tt:TT}{te:TE}(hc:CompOkP X.N X.env.scope scope x x2)(hcalm:X.calm=true)(hi:PI X (.Tuple [.Name x px,.Name x2 py2] kt pt) iter wi)
  (ht:∀cl C fp s3 H3,PTs (cxCompP X scope cl C x x2 fp s3 H3) ifs tt) (he:∀cl C fp s3 H3,PE (cxCompP X scope cl C x x2 fp s3 H3) elt te)
  (hs:∀x,foldedSetIterable iter X.env x=pure x:=by intro _;rfl) :
  PE X (.ListComp elt [⟨.Tuple [.Name x px,.Name x2 py2] kt pt,iter,ifs,0⟩] scope pos) (tCompP X.K wi tt te):=by
 intro pins s σ H Q I h;obtain⟨cl,hclos,hcl,hcl2⟩:=closure_ex (comp_cellsP hc I);rw[eval_ListComp];refine wpAny_comprehension_free (use:=none) rfl hs hclos hc.kind hc.names (thn (hi pins s σ H _ I h) fun v s1 h1=>thn h1 fun itv s2 ⟨it,fp,tn,J,H2,e,I2,T,st,fpo,R⟩=>?_);subst e;refine comp_blockP (RR:=fun acc C=>compPost (model X.prog X.w) X.A X.xe none (EP X pins σ Q) acc C) (Q:=Q) hc hcalm hcl hcl2 (ht cl) (he cl) I2 T st fpo R ?_;intro D C s' H' m I' n f1 f2 f3 f4 f5 q;exact⟨m,n,fun h' sb=>⟨.ref D,H',I'.turned (t':=s'.toks) (fun b o hb e=>(sb.2 b hb).trans e) f1 f2 (.inr f3) f4 f5,rfl,q⟩⟩
end
end L2
namespace L2
open PySem PySem.Spec PyProof.Rows
section
variable {X:Cx}
def qMin:List V->Hp->VK->Prop:=fun xs H Q=>match xs with
 | [.int i,.int j]=>Q (.int (if j<i then j else i)) H
 | _=>False
theorem call_qmin(hc:X.calm=true):CallR X (.builtin "min") qMin:=(call_min2 hc).imp fun xs H Q h=>by
 unfold qMin at h;split at h
 ·exact⟨_,_,rfl,h⟩
 ·exact h.elim
theorem any_range:∀bs:List Bool,((List.range bs.length).any fun i=>(bs[i]?).getD false)=bs.any id:=by
 intro bs;induction bs with
 | nil=>rfl
 | cons b r ih=>
  rw[List.length_cons,List.range_succ_eq_map,List.any_cons,List.any_map,List.any_cons];rw[<-ih];rfl
def qAny:List V->Hp->VK->Prop:=fun vs H Q=>match vs with
 | [.ref l]=>match H l with
  | some (.lst xs)=>∃bs,boolsOf xs=some bs/\Q (.bl (bs.any id)) H
  | _=>False
 | _=>False
theorem call_qany(hc:X.calm=true):CallR X (.builtin "any") qAny:=fun pins s σ H xs us Q I r h=>by
 unfold qAny at h;split at h
 ·split at h
  ·rename_i l _ ys hl
   obtain⟨bs,e,q⟩:=h;obtain⟨u,rfl,ru⟩:=vals1 r;cases ru;obtain⟨its,rv,pl,hz⟩:=I.list (SqL.of hl);have hlt:l<s.heap.objs.size:=by obtain⟨_,e,_⟩:=pl.isList;exact Heap.lt_size e
   have hlen:=rv.length;have hbl:=bools_len e;refine call_any_walk (wpAny_pyIter_list pl.isList ?_)
   refine⟨s.heap.objs.size,[s.heap.objs.size,l],[s.heap.objs.size],its.toArray.size,_,_,fun i=>(bs[i]?).getD false,rfl,Walks.list (A:=X.A.in1) (I.ok.hd hc) _ l (Nat.ne_of_lt hlt) its.toArray,
    ⟨⟨_,Heap.get?_push_size _ rfl,rfl,rfl⟩,pl.isList.push _⟩,fun i v s' Q' E' hP hQ=>?_,fun h' tk hk=>?_⟩
   ·have hP:its[i]? = some v:=by simpa using hP
    have hi:i<ys.length:=by rw[hlen];exact(List.getElem?_eq_some_iff.mp hP).1
    have ey:ys[i]? = some ys[i]:=by simp[hi]
    obtain⟨b,eb,ez⟩:=bools_get e ey;obtain⟨u,eu,ru⟩:=rv.get ey;rw[hP]at eu;cases eu;rw[ez]at ru;cases ru;simp only[eb,Option.getD_some]at hQ;exact wpAny_truthy_bool hQ
   ·have e2:((List.range its.toArray.size).any fun i=>(bs[i]?).getD false)=bs.any id:=by
     rw[List.size_toArray,<-hlen,hbl];exact any_range bs
    rw[e2];exact⟨.bl _,H,I.kept (t':=tk) fun b x e=>hk b x (fun hm=>by rw[List.mem_singleton.mp hm]at e;exact Nat.lt_irrefl _ (Heap.lt_size e)) (Heap.get?_push_of_some _ e),rfl,q⟩
  ·exact h.elim
 ·exact h.elim
def intsOf:List V->Option (List Int)
 | []=>some []
 | .int i::r=>(intsOf r).map (i :: ·)
 | _=>none
theorem intsOf_map(ns:List Int):intsOf (ns.map V.int)=some ns:=by
 induction ns with
 | nil=>rfl
 | cons s r ih=>simp[intsOf,ih]
theorem intsAre2_of:∀ {xs:List V} {us:List Value} {ss:List Int},Vals xs us->intsOf xs=some ss->IntsAre us ss
 | _,_,ss,.nil,e=>by cases e;exact .nil
 | x::xs,_,ss,.cons r t,e=>by
  cases x with
  | int s=>
   obtain⟨k,rfl⟩:=r;cases e2:intsOf xs with
   | none=>simp[intsOf,e2]at e
   | some ss2=>
    simp[intsOf,e2]at e;subst e;exact .cons _ _ (intsAre2_of t e2)
  | _=>simp[intsOf]at e
def qSorted:List V->Hp->VK->Prop:=fun vs H Q=>match vs with
 | [.ref l]=>match H l with
  | some (.lst xs)=>∃ns,intsOf xs=some ns/\ns.length<64/\∀(p:Addr) (ms:List Int),ms.Perm ns->ms.Pairwise (· <= ·)->H p=none->Q (.ref p) (upd H p (.lst (ms.map V.int)))
  | _=>False
 | _=>False
theorem call_qsorted:CallR X (.builtin "sorted") qSorted:=fun pins s σ H xs us Q I r h=>by
 unfold qSorted at h;split at h
 ·split at h
  ·rename_i l _ ys hl
   obtain⟨ns,e,hn,q⟩:=h;obtain⟨u,rfl,ru⟩:=vals1 r;cases ru;obtain⟨its,rv,pl,hz⟩:=I.list (SqL.of hl);have hi:=intsAre2_of rv e;have hil:=hi.length;refine sorted_ints pl.isList hi (by omega) fun out ns' a1 a2 a3=>?_
   obtain⟨c,he⟩:=sortedAll_at s.heap its out;have hl':=a2.length_eq;refine⟨.ref _,_,I.laid (t':=s.toks) (a:=s.heap.objs.size+1) (o:=.lst (ns'.map V.int)) (fun b ob q=>sortedAll_old q) (Nat.le_succ _) ?_,rfl,q _ ns' a2 a3 (I.hok.fresh (Nat.le_succ _))⟩;refine⟨by rw[List.length_map,sizeLine_eq];omega,out.toList,c,vals_ints a1,?_⟩;exact he
  ·exact h.elim
 ·exact h.elim
def qIndex:V->List V->Hp->VK->Prop:=fun x vs H Q=>match x,vs with
 | .ref l,[.int k]=>match H l with
  | some (.lst xs)=>∃ns,intsOf xs=some ns/\ns.length<10000/\k∈ns/\Q (.int (ns.idxOf k:Nat)) H
  | _=>False
 | _,_=>False
theorem mt_qindex:MtR X "list.index" qIndex:=fun pins s σ H x xs v us Q I rx rv h=>by
 unfold qIndex at h;split at h
 ·split at h
  ·rename_i l k _ ys hl
   obtain⟨ns,e,hn,hk,q⟩:=h;cases rx;obtain⟨u,rfl,⟨t,rfl⟩⟩:=rv.one;obtain⟨its,r,pl,hz⟩:=I.list (SqL.of hl);have hi:=intsAre2_of r e;obtain⟨⟨cls,dd,data,sl⟩,ho,hc,n,hd⟩:=id pl.isList;simp only at hc hd;subst hc hd;have hlen:=hi.length;have hj:ns.idxOf k<ns.length:=List.idxOf_lt_length_iff.mpr hk
   refine call_meets PySem.F.slot_list_index ⟨_,ho,rfl⟩ PySem.F.entry_list_index (PySem.F.args_list_index_2 _ _)
    (PySem.SeqAt.list_indexAt l its.toArray n dd sl (.int k t) (isInt k) (ns.idxOf k) (by simpa[hlen]using hj) (by omega) ?_ ?_) ⟨ho,fun y hy=>(eq_isInt k t hi y (by simpa using hy)).at _ _,⟨.int _,H,I.tok _,⟨_,rfl⟩,q⟩⟩
   ·show isInt k its[ns.idxOf k]=true
    rw[isInt_at k hi _ (by omega) hj];simpa using List.getElem_idxOf hj
   ·intro j hjs hlt
    show isInt k its[j]=false;rw[isInt_at k hi j (by simpa using hjs) (by omega)];exact ne_of_lt_idxOf hlt _
  ·exact h.elim
 ·exact h.elim
def qExtend:V->List V->Hp->VK->Prop:=fun x vs H Q=>match x,vs with
 | .ref l,[.ref b]=>match H l,H b with
  | some (.lst xs),some (.lst zs)=>xs.length+zs.length<=sizeLine/\Q .non (upd H l (.lst (xs++zs)))
  | _,_=>False
 | _,_=>False
theorem mt_qextend:MtR X "list.extend" qExtend:=fun pins s σ H x xs v us Q I rx rv h=>by
 refine mt_extend pins s σ H x xs v us Q I rx rv ?_;unfold qExtend at h;split at h
 ·split at h
  ·exact⟨_,_,_,_,rfl,rfl,by assumption,by assumption,h.1,h.2⟩
  ·exact h.elim
 ·exact h.elim
def qPop:V->List V->Hp->VK->Prop:=fun x vs H Q=>match x,vs with
 | .ref l,[]=>match H l with
  | some (.lst xs)=>∃y,xs[xs.length - 1]? = some y/\Q y (upd H l (.lst xs.dropLast))
  | _=>False
 | _,_=>False
theorem mt_qpop:MtR X "list.pop" qPop:=fun pins s σ H x xs v us Q I rx rv h=>by
 refine mt_pop pins s σ H x xs v us Q I rx rv ?_;unfold qPop at h;split at h
 ·split at h
  ·obtain⟨y,e,q⟩:=h
   exact⟨_,_,y,rfl,rfl,by assumption,e,q⟩
  ·exact h.elim
 ·exact h.elim
def qClear:V->List V->Hp->VK->Prop:=fun x vs H Q=>match x,vs with
 | .ref l,[]=>match H l with
  | some (.lst _)=>Q .non (upd H l (.lst []))
  | _=>False
 | _,_=>False
theorem mt_qclear:MtR X "list.clear" qClear:=fun pins s σ H x xs v us Q I rx rv h=>by
 refine mt_clear pins s σ H x xs v us Q I rx rv ?_;unfold qClear at h;split at h
 ·split at h
  ·exact⟨_,_,rfl,rfl,by assumption,h⟩
  ·exact h.elim
 ·exact h.elim
def qListD:List V->Hp->VK->Prop:=fun xs H Q=>match xs with
 | [.ref p]=>match H p with
  | some (.dK kvs)=>∀l,H l=none->Q (.ref l) (upd H l (.lst (kvs.map fun kv=>kV kv.1)))
  | _=>False
 | _=>False
theorem kV_of{P:Program}{w:World}{k:Key}{u:Value}(r:(mixKind P w).is k u=true):RelV (kV k) u:=by
 rcases keyIs_shape (show keyIs k u=true from r)with ⟨i,t,rfl,rfl⟩ | ⟨x,t,rfl,rfl⟩
 ·exact⟨t,rfl⟩
 ·exact⟨t,rfl⟩
theorem vals_of:∀ {xs:List V} {us:List Value},xs.length=us.length->(∀(i:Nat) x u,xs[i]? = some x->us[i]? = some u->RelV x u)->Vals xs us
 | [],[],_,_=>.nil
 | x::xs,u::us,hl,h=>.cons (h 0 x u rfl rfl) (vals_of (by simpa using hl) fun i y v a b=>h (i+1) y v (by simpa using a) (by simpa using b))
 | [],u::us,hl,_=>by cases hl
 | x::xs,[],hl,_=>by cases hl
theorem kv_at:∀ {l:List (Key×V)} {la:List (Key×Value)} {i:Nat} {k:Key} {x:Value},KV l la->la[i]? = some (k,x)->∃y,l[i]? = some (k,y)
 | p::l,q::la,0,k,x,h,e=>by
  have h:Paired _ _ _:=h;cases h with
  | cons h t=>
   cases e;exact⟨p.2,by rw[List.getElem?_cons_zero];rw[show k=p.1 from h.1.symm]⟩
 | p::l,q::la,i+1,k,x,h,e=>by
  have h:Paired _ _ _:=h;cases h with
  | cons h t => 
   obtain⟨y,hy⟩:=kv_at (i:=i) (show KV l la from t) (by simpa using e);exact⟨y,by simpa using hy⟩
 | [],la,i,k,x,h,e=>by
  have h:Paired _ _ _:=h;cases h;cases e
 | p::l,[],i,k,x,h,e=>by
  have h:Paired _ _ _:=h;cases h
theorem call_qlistd(hc:X.calm=true):CallR X (.type "list") qListD:=fun pins s σ H xs us Q I r h=>by
 unfold qListD at h;split at h
 ·split at h
  ·rename_i p _ kvs hp
   obtain⟨u,rfl,ru⟩:=vals1 r;cases ru;obtain⟨hz,hS,vs,rk,hD⟩:=dk_of I.hok hp;obtain⟨ep,hat⟩:=hD.dictAt;have hl:=Paired.length rk;refine PySem.W.kdl_call (PySem.W.kdl_dict (knd:=mixKind X.prog X.w) (kvs:=vs) (ep:=ep) hS) (I.ok.hd hc) hat (by omega) fun h' tk acc c hk ha hit=>?_
   refine⟨.ref _,_,I.laid (t':=tk) (a:=s.heap.objs.size) (o:=.lst (kvs.map fun kv=>kV kv.1)) hk (Nat.le_refl _) ?_,rfl,h _ (I.hok.fresh (Nat.le_refl _))⟩;refine⟨by rw[List.length_map];exact hz,acc.toList,c,?_,by simpa using ha⟩;refine vals_of (by have:=hit.1;rw[List.length_map];simp;omega) fun i x u a b=>?_
   obtain⟨k,y,e1,e2⟩:=hit.2 i u (by rw[<-Array.getElem?_toList];exact b);obtain⟨z,e3⟩:=kv_at rk e1;rw[List.getElem?_map,e3]at a;cases a;exact kV_of e2
  ·exact h.elim
 ·exact h.elim
inductive Dq(K:PySem.W.Frag)(H:Hp):Nat->V->V->Prop
 | flat {n:Nat} {x:V}:flatV x=true->Dq K H n x x
 | tup {n:Nat} {a b:Addr} {xs ys:List V}:SqT K H a xs->SqT K H b ys->xs.length=ys.length->(∀(j:Nat) x y,xs[j]? = some x->ys[j]? = some y->Dq K H n x y)->Dq K H (n+1) (.ref a) (.ref b)
 | lst {n:Nat} {a b:Addr} {xs ys:List V}:SqL K H a xs->SqL K H b ys->xs.length=ys.length->(∀(j:Nat) x y,xs[j]? = some x->ys[j]? = some y->Dq K H n x y)->Dq K H (n+1) (.ref a) (.ref b)
def qEqK(K:PySem.W.Frag):R2:=fun x y H Q=>∃a b xs ys,x=.ref a/\y=.ref b/\SqT K H a xs/\SqT K H b ys/\xs.all flatV=true/\ys.all flatV=true/\Q (.bl (flatEq xs ys)) H
theorem op_qeqk{k:Nat}(hr:Room k X.A):OpR X (compareOp .Eq) (qEqK X.K):=by
 intro pins s σ H x y v u Q I rx ry ⟨a,b,xs,ys,e1,e2,ha,hb,fx,fy,q⟩;have hu:=hr.units;subst e1 e2;cases rx;cases ry;obtain⟨us,r1,t1,_⟩:=I.tuple ha;obtain⟨ws,r2,t2,_⟩:=I.tuple hb;have l1:=r1.length;have l2:=r2.length;have q1:=SeqAt.RcAt.tuples (A:=X.A) t1 t2 (by omega) (flat_at r1 r2 fx fy);simp only[List.size_toArray,<-l1,<-l2]at q1;exact q1 _ _ _ _ ⟨.bl (flatEq xs ys),H,I,rfl,q⟩
def qNeK(K:PySem.W.Frag):R2:=fun x y H Q=>∃a b xs ys,x=.ref a/\y=.ref b/\SqT K H a xs/\SqT K H b ys/\xs.all flatV=true/\ys.all flatV=true/\Q (.bl (!flatEq xs ys)) H
theorem op_qnek{k:Nat}(hr:Room k X.A):OpR X (compareOp .NotEq) (qNeK X.K):=by
 intro pins s σ H x y v u Q I rx ry ⟨a,b,xs,ys,e1,e2,ha,hb,fx,fy,q⟩;have hu:=hr.units;subst e1 e2;cases rx;cases ry;obtain⟨us,r1,t1,_⟩:=I.tuple ha;obtain⟨ws,r2,t2,_⟩:=I.tuple hb;have l1:=r1.length;have l2:=r2.length;have q1:=SeqAt.RcNeAt.tuples (A:=X.A) t1 t2 (by omega) (flat_at r1 r2 fx fy);simp only[List.size_toArray,<-l1,<-l2]at q1;exact q1 _ _ _ _ ⟨.bl (!flatEq xs ys),H,I,rfl,q⟩
def qReverse:V->List V->Hp->VK->Prop:=fun x vs H Q=>match x,vs with
 | .ref l,[]=>match H l with
  | some (.lst xs)=>Q .non (upd H l (.lst xs.reverse))
  | _=>False
 | _,_=>False
theorem mt_qreverse:MtR X "list.reverse" qReverse:=fun pins s σ H x xs v us Q I rx rv h=>by
 refine mt_reverse pins s σ H x xs v us Q I rx rv ?_;unfold qReverse at h;split at h
 ·split at h
  ·exact⟨_,_,rfl,rfl,by assumption,h⟩
  ·exact h.elim
 ·exact h.elim
def qInK(K:PySem.W.Frag):R2:=fun x y H Q=>∃p xs,y=.ref p/\SqT K H p xs/\flatV x=true/\xs.all flatV=true/\Q (.bl (inV x xs)) H
theorem op_qink:OpR X (compareOp .In) (qInK X.K):=op_in_seq.imp fun x y H Q ⟨p,xs,e,h1,h2,h3,q⟩=>⟨p,xs,e,.inr h1,h2,h3,q⟩
theorem ps_raise{e c:Option Expr}{pos:Pos}:PS X (.Raise e c pos) (fun _ _ _=>False):=fun _ _ _ _ _ _ h=>h.elim
structure Maker(P:Program)(w:World)(K:PySem.W.Frag)(mg:Str->Option Value)(base:Heap)(k:Nat)(x:Str)(C:Addr)(ps:List Str)(sp:Sp):Prop where
 ex:∃f fd,FnOk P w K mg base CX0 k f fd ps sp/\mg x=some (.ref C)/\Mk K C f/\Binds K fd ps []
theorem pe_mk{k j:Nat}{x:Str}{C:Addr}{ps:List Str}{sp:Sp}{e:Expr}{es:List Expr}{t:TA}{p pos:Pos}(M:Maker X.prog X.w X.K X.mg X.base k x C ps sp)(hr:Room j X.A)(hk:k+1<=j)(hg:Gl X x)(ha:PA X (e::es) t)
  (hdb:(x == ("__debug__" : Str))=false:=by decide) (he:starEach (e::es) X.env=(false,eval e X.env)::starEach es X.env:=by rfl) (hpl:(backTo pos (starEach es X.env)).any (·.1)=false:=by rfl) :
  PE X (.Call (.Name x p) (e::es) [] pos) (tMake C sp [] E0 t):=by
 obtain⟨f,fd,F,hm,hM,hb⟩:=M.ex;exact pe_make hM F (hr.mono hk) hg hm hb .nil pass0 ha hdb he hpl
structure MCallee(P:Program)(w:World)(K:PySem.W.Frag)(mg:Str->Option Value)(base:Heap)(k:Nat)(m:Str)(C:Addr)(ps:List Str)(sp:Sp):Prop where
 ex:∃f fd,FnOk P w K mg base CX0 k f fd ps sp/\Cls K C/\Meth K C m f/\Binds K fd ps []
theorem pe_mth{pl:Sem Bool}{k j:Nat}{m:Str}{C:Addr}{ps:List Str}{sp:Sp}{o e:Expr}{es:List Expr}{ta:TE}{t:TA}{apos pos:Pos}(M:MCallee X.prog X.w X.K X.mg X.base k m C ps sp)(hr:Room j X.A)(hk:k<=j)(ho:PE X o ta)(ha:PA X (e::es) t)
  (hst:starEach (e::es) X.env=(false,eval e X.env)::starEach es X.env:=by rfl) (hpl:(backTo pos (starEach es X.env)).any (·.1)=false:=by rfl)
  (ht:eval (.Call (.Attribute o m apos) (e::es) [] pos) X.env=(do
   let ov <-eval o X.env
   standAt apos.atName
   let(f,first) <-holding [ov] (getMethod ov m pl)
   callWith pos f first (backTo pos (starEach (e::es) X.env)) (backToKw pos (keywordEach [] X.env))):=by rfl) :
  PE X (.Call (.Attribute o m apos) (e::es) [] pos) (tMeth C m sp [] E0 ta t):=by
 obtain⟨f,fd,F,c,hm,hb⟩:=M.ex;exact pe_meth (pl:=pl) ho c hm F (hr.mono hk) hb .nil pass0 ha hst hpl ht
theorem pe_mth0{pl:Sem Bool}{k j:Nat}{m:Str}{C:Addr}{ps:List Str}{sp:Sp}{o:Expr}{ta:TE}{apos pos:Pos}(M:MCallee X.prog X.w X.K X.mg X.base k m C ps sp)(hr:Room j X.A)(hk:k<=j)(ho:PE X o ta)
  (ht:eval (.Call (.Attribute o m apos) [] [] pos) X.env=(do
   let ov <-eval o X.env
   standAt apos.atName
   let(f,first) <-holding [ov] (getMethod ov m pl)
   callWith pos f first (backTo pos (starEach [] X.env)) (backToKw pos (keywordEach [] X.env))):=by rfl) :
  PE X (.Call (.Attribute o m apos) [] [] pos) (tMeth C m sp [] E0 ta tNil):=by
 obtain⟨f,fd,F,c,hm,hb⟩:=M.ex;exact pe_meth0 (pl:=pl) ho c hm F (hr.mono hk) hb .nil pass0 ht
end
theorem relabel_free{env:Env}:∀ {names:List (Str×NameKind)} {y:Str},names.lookup y=some .free ->
  (names.map fun(n,k)=>if(k == NameKind.free&&env.scope.kind == .function&&env.kindOf n == some .cell)then (n,NameKind.cell)else (n,k)).lookup y=some .cell \/
  (names.map fun(n,k)=>if(k == NameKind.free&&env.scope.kind == .function&&env.kindOf n == some .cell)then (n,NameKind.cell)else (n,k)).lookup y=some .free
 | [],_,h=>by cases h
 | (n,k0)::r,y,h=>by
  have ih := @relabel_free env r y;rw[List.lookup_cons]at h;rw[List.map_cons];dsimp only;cases hx:y == n with
  | true=>
   rw[hx]at h;cases h;by_cases hc:(NameKind.free == NameKind.free&&env.scope.kind == .function&&env.kindOf n == some .cell)=true
   ·rw[if_pos hc,List.lookup_cons,hx];exact .inl rfl
   ·rw[if_neg hc,List.lookup_cons,hx];exact .inr rfl
  | false=>
   rw[hx]at h;by_cases hc:(k0 == NameKind.free&&env.scope.kind == .function&&env.kindOf n == some .cell)=true
   ·rw[if_pos hc,List.lookup_cons,hx];exact ih h
   ·rw[if_neg hc,List.lookup_cons,hx];exact ih h
theorem fr_nest{sc1 sc:Scope}{env:Env}(h:∀y∈sc.names,y.2=.free->sc1.names.lookup y.1=some .free):∀y∈sc.names,y.2=.free->(relabel sc1 env).names.lookup y.1=some .cell\/(relabel sc1 env).names.lookup y.1=some .free:=
 fun y hy e=>relabel_free (h y hy e)
end L2
namespace PySem
open Sem (wp)
namespace F
theorem lk_list_keys:typeLookup (.type "list") "keys" = pure none:=by rw[typeLookup_type,builtinLookup_eq_fast];kernel_rfl
theorem lk_list_getattr:typeLookup (.type "list") "__getattr__" = pure none:=by rw[typeLookup_type,builtinLookup_eq_fast];kernel_rfl
end F
section
variable {prog:Program}{w:World}{A:Around}{E:Value->Shared->Prop}{h:Heap}{g:Array GenState}{d:Drawn}{t:Nat}{os:OsState}{a:Addr}{xs:Array Value}{n:Nat}{sl:Array (Option Value)}
theorem keys_entry_list{tk:Tok}{Q:Fin->Shared->Prop}(hh:A.handled=none)(hx:h.get? a=some ⟨.type "list", none,.seq xs n,sl⟩)(he:∀h' t' e,Heap.NewAttrErr h h' e (.ref a) "keys" -> E (.ref e) ⟨h',g,d,t',os⟩) :
  wpAny (model prog w) A (Builtin.«object.__getattribute__» ⟨[.ref a,.str "keys" tk],[]⟩) Q E ⟨h,g,d,t,os⟩:=by
 have hT:(⟨h,g,d,t,os⟩:Shared).TypeIs (.ref a) "list" := ⟨_,hx,rfl⟩;have f4:=F.lk_list_keys;have f5:=F.lk_list_getattr
 repeat (any_goals (first | assumption | wp_step))
 exact wpAny_raiseAttrError hh he (attrMsg_fits (by decide +kernel) (by decide +kernel))
theorem keys_call_list{tk:Tok}{R:Result->Shared->Prop}(hh:A.handled=none)(hx:h.get? a=some ⟨.type "list", none,.seq xs n,sl⟩)(he:∀h' t' e,Heap.NewAttrErr h h' e (.ref a) "keys" -> R (.error (.ref e)) ⟨h',g,d,t',os⟩) :
  codeAny (model prog w) A (.call (.builtin "list.__getattribute__") ⟨[.ref a,.str "keys" tk],[]⟩) R ⟨h,g,d,t,os⟩:=
 codeAny_call_builtin F.slot_list_getattribute.plain F.entry_list_ga (F.slot_list_getattribute.check _ _ _ _ _ _ _ _ (show(⟨h,g,d,t,os⟩:Shared).TypeIs (.ref a) "list" from⟨_,hx,rfl⟩) (F.args_list_getattribute_2 _ _) (keys_entry_list hh hx he))
theorem keys_attr_list{Q:Option Value->Shared->Prop}(hh:A.handled=none)(hx:h.get? a=some ⟨.type "list", none,.seq xs n,sl⟩)(hq:∀h' t',(∀b ob,h.get? b=some ob->h'.get? b=some ob)->Q none ⟨h',g,d,t',os⟩) :
  wpAny (model prog w) A (getAttr? (.ref a) "keys") Q E ⟨h,g,d,t,os⟩:=by
 have hT:(⟨h,g,d,t,os⟩:Shared).TypeIs (.ref a) "list" := ⟨_,hx,rfl⟩;have f2:=F.slot_list_getattribute.lookup;have f3:=F.slot_list_getattribute.bind (.ref a);unfold getAttr? getAttrBy?
 repeat (any_goals (first | assumption | wp_step))
 refine keys_call_list hh hx fun h' t' e ne=>?_
 obtain⟨t'',u',he⟩:=ne.there;have f1:=sub_AttributeError;have f5:=F.lk_list_getattr;show wpAny _ _ (getattributeRaised _ _ _ _ _ _ _) _ _ _;unfold getattributeRaised
 repeat (any_goals (first | assumption | wp_step))
 exact hq _ _ ne.keeps
end
end PySem
namespace PySem
open Sem (wp)
namespace F
theorem entry_update_loop:entryFor table "dict.update.loop" = some Builtin.«dict.update.loop» := entryFor_of_tree (by kernel_rfl)
theorem plain_update_loop:plainId "dict.update.loop" = true:=by decide +kernel
end F
section
variable {prog:Program}{w:World}{K:Type}[DecidableEq K]{knd:KeyKind prog w K}{A:Around}{s:Shared}{R:Result->Shared->Prop}
def prsF(ps:List (K×Value)):List (K×Value):=ps.foldl (fun m p=>stored m p.1 p.2) []
theorem prsF_snoc(ps:List (K×Value))(p:K×Value):prsF (ps++[p])=stored (prsF ps) p.1 p.2:=by unfold prsF;rw[List.foldl_append];rfl
theorem update_loop{d I l:Addr}{items:Array Value}{ps:List (K×Value)}(hh:A.handled=none)(hdI:d≠I)(hld:l≠d)(hlI:l≠I)(hn:items.size=ps.length)(hsz:ps.length<=sizeLine)(res:Value){h₁:Heap}(hl:h₁.IsList l items)
  (hp:∀(i:Nat) k v,ps[i]? = some (k,v)->∃p key n dd ss,items[i]? = some (.ref p)/\h₁.get? p=some ⟨.type "tuple", dd,.seq #[key,v] n,ss⟩/\knd.is k key=true/\p≠d/\p≠I)
  (hsl:∀qs:List (K×Value),qs.length<=ps.length->(prsF qs).length<=sizeLine)
  (hR:∀h' tk,(∀b o,b≠d->b≠I->h₁.get? b=some o->h'.get? b=some o)->h'.DictOf knd d (prsF ps)->R (.ok (.ret res)) { s with heap:=h',toks:=tk }) :
  ∀(k i:Nat) (h:Heap) (tk:Nat) (u:Tok),ps.length - i=k->i<=ps.length->h.IsListIter I l i->h.DictOf knd d (prsF (ps.take i))->(∀b o,b≠d->b≠I->h₁.get? b=some o->h.get? b=some o) ->
   codeAny (model prog w) A (.builtin "dict.update.loop" ⟨[.ref d,.ref I,.int (i:Int) u,res],[]⟩) R { s with heap:=h,toks:=tk }:=by
 intro k;induction k with
 | zero=>
  intro i h tk u hk hi hit hD hkeep;have hin:i=ps.length:=by omega
  subst hin;obtain⟨ol,hol,hcl,nl,hdl⟩:=id hl;have hl':h.IsList l items:=⟨ol,hkeep _ _ hld hlI hol,hcl,nl,hdl⟩;refine codeAny_builtin F.entry_update_loop ?_
  rw[Around.under_plainId F.plain_update_loop _];show wpAny _ A.in1 (pyNext (.ref I) >>= _) _ _ _;refine wpAny_bind (wpAny_pyNext_list_end (s:={ s with heap:=h,toks:=tk }) (A:=A.in1) hh hit hl' (by simp[hn]) fun h' he=>?_);refine wpAny_bind (wpAny_pure (wpAny_pure (hR h' tk (fun b o h1 h2 e=>he b o h2 (hkeep b o h1 h2 e)) ?_)));rw[List.take_length]at hD;exact hD.extBut he hdI
 | succ k ih=>
  intro i h tk u hk hi hit hD hkeep;have hlt:i<ps.length:=by omega
  obtain⟨⟨kk,x⟩,hx⟩:∃p,ps[i]? = some p:=⟨ps[i],List.getElem?_eq_getElem hlt⟩;obtain⟨p,key,n,dd,ss,e1,e2,e3,e4,e5⟩:=hp i kk x hx;obtain⟨ol,hol,hcl,nl,hdl⟩:=id hl;have hl':h.IsList l items:=⟨ol,hkeep _ _ hld hlI hol,hcl,nl,hdl⟩;refine codeAny_builtin F.entry_update_loop ?_
  rw[Around.under_plainId F.plain_update_loop _];show wpAny _ A.in1 (pyNext (.ref I) >>= _) _ _ _;refine wpAny_bind (wpAny_pyNext_list_item (s:={ s with heap:=h,toks:=tk }) (A:=A.in1) hit hl' e1 fun h' hit' sb=>?_);have e2':h'.get? p=some ⟨.type "tuple", dd,.seq #[key,x] n,ss⟩:=(sb.2 p e5).trans (hkeep _ _ e4 e5 e2);refine wpAny_bind ?_;refine wpAny_holding (wpAny_bind ?_);refine wpAny_tryCatch ?_
  unfold Builtin.Dict.pairItems;refine wpAny_bind (wpAny_typeOf (show({ s with heap:=h',toks:=tk }:Shared).TypeIs (.ref p) "tuple" from⟨_,e2',rfl⟩) ?_);rw[if_pos (by decide)];refine wpAny_bind (wpAny_seqItems e2' rfl (wpAny_pure ?_));have hD':h'.DictOf knd d (prsF (ps.take i)):=hD.sameBut sb hdI;show wpAny _ _ (holding [key,x] (dictSet d key x)) _ _ _;refine wpAny_holding (wpAny_dictSet_pairs (s:={ s with heap:=h',toks:=tk }) e3 hD' (fun h'' hD'' sb2=>?_) (hsl _ (by rw[List.length_take];omega)));refine wpAny_pure ⟨plainId_quiet F.plain_update_loop _,?_⟩;have tk1:ps.take (i+1)=ps.take i++[(kk,x)]:=by rw[List.take_add_one,hx];rfl
  refine ih (i+1) h'' _ _ (by omega) hlt ?_ ?_ fun b o h1 h2 e=>?_
  ·obtain⟨oi,g1,g2,g3⟩:=hit'
   exact⟨oi,(sb2.2 I (Ne.symm hdI)).trans g1,g2,g3⟩
  ·rw[tk1,prsF_snoc]
   exact hD''
  ·exact(sb2.2 b h1).trans ((sb.2 b h2).trans (hkeep b o h1 h2 e))
end
section
variable {prog:Program}{w:World}{K:Type}[DecidableEq K]{knd:KeyKind prog w K}{A:Around}{E:Value->Shared->Prop}{s:Shared}
theorem call_dict_pairs{l:Addr}{items:Array Value}{n:Nat}{sl:Array (Option Value)}{ps:List (K×Value)}{Q:Value->Shared->Prop}(hh:A.handled=none)(hl:s.heap.get? l=some ⟨.type "list", none,.seq items n,sl⟩)(hn:items.size=ps.length)(hsz:ps.length<=sizeLine)
  (hp:∀(i:Nat) k v,ps[i]? = some (k,v)->∃p key n dd ss,items[i]? = some (.ref p)/\s.heap.get? p=some ⟨.type "tuple", dd,.seq #[key,v] n,ss⟩/\knd.is k key=true)
  (hsl:∀qs:List (K×Value),qs.length<=ps.length->(prsF qs).length<=sizeLine)
  (h:∀h' tk,(∀b o,s.heap.get? b=some o->h'.get? b=some o)->h'.DictOf knd s.heap.objs.size (prsF ps)->Q (.ref s.heap.objs.size) { s with heap:=h',toks:=tk }) :
  wpAny (model prog w) A (call (.type "dict") [.ref l]) Q E s:=by
 refine callType_codes (Q₁:=fun obj s₁=>obj=.ref s.heap.objs.size/\s₁={ s with heap:=s.heap.push { cls:=.type "dict", data:=.dict #[] } }) F.kt_called_dict (F.kt_typeCall_dict_1 _) F.entry_dict_init (kt_code_dict_new _ ⟨rfl,rfl⟩) ?_
 rintro obj s₁ ⟨rfl,rfl⟩;have hnew:(s.heap.push { cls:=.type "dict", data:=.dict #[] }).DictOf knd s.heap.objs.size []:=Heap.DictOf.new s.heap;have hl1:(s.heap.push { cls:=.type "dict", data:=.dict #[] }).get? l=some ⟨.type "list", none,.seq items n,sl⟩:=Heap.get?_push_of_some _ hl;refine⟨hnew.typeIs,F.args_dict_init_2 _ _,?_⟩;unfold Builtin.«dict.__init__»;refine wpAny_bind ?_;unfold Builtin.Dict.selfAndRest;refine wpAny_bind (wpAny_notOrdered_dict hnew.typeIs ?_);show wpAny _ _ (pure (s.heap.objs.size,[Value.ref l])) _ _ _;refine wpAny_pure ?_;show wpAny _ _ (Builtin.Dict.updateFrom "dict.__init__" s.heap.objs.size (.ref l) [] .none) _ _ _;unfold Builtin.Dict.updateFrom;refine wpAny_bind (wpAny_typeOf (show({ s with heap:=s.heap.push { cls:=.type "dict", data:=.dict #[] } }:Shared).TypeIs (.ref l) "list" from⟨_,hl1,rfl⟩) ?_);rw[if_pos (by decide)];refine wpAny_bind (keys_attr_list (A:=A.in1.in1) hh hl1 fun h2 t2 k2=>?_);rw[if_pos (show(none:Option Value).isNone=true from rfl)];refine wpAny_bind (wpAny_rule ?_);have hl2:h2.IsList l items:=⟨_,k2 _ _ hl1,rfl,n,rfl⟩;refine wpAny_bind (wpAny_pyIter_list (s:={ s with heap:=h2,toks:=t2 }) hl2 ?_)
 have hdlt:s.heap.objs.size<h2.objs.size:=by
  obtain⟨o,es,ep,ho,_⟩:=hnew;exact Heap.lt_size (k2 _ _ ho)
 have up:∀b o,s.heap.get? b=some o->h2.get? b=some o:=fun b o e=>k2 _ _ (Heap.get?_push_of_some _ e)
 have ne1:∀b o,s.heap.get? b=some o->b≠s.heap.objs.size/\b≠h2.objs.size:=fun b o e=>⟨Nat.ne_of_lt (Heap.lt_size e),Nat.ne_of_lt (Heap.lt_size (up b o e))⟩
 refine wpAny_pure ⟨plainId_quiet F.plain_update_loop _,?_⟩
 have hD2:(h2.push { cls:=.type "list_iterator", data:=.fields #[.ref l,.int 0 0] }).DictOf knd s.heap.objs.size []:=by
  obtain⟨o,es,ep,ho,r⟩:=hnew;exact⟨o,es,ep,Heap.get?_push_of_some _ (k2 _ _ ho),r⟩
 refine update_loop (s:=s) (A:=A.in1) (knd:=knd) (d:=s.heap.objs.size) (I:=h2.objs.size) (ps:=ps) hh (Nat.ne_of_lt hdlt) (ne1 l _ hl).1 (ne1 l _ hl).2 hn hsz .none (h₁:=h2.push { cls:=.type "list_iterator", data:=.fields #[.ref l,.int 0 0] }) ?_ (fun i k v e=>?_) hsl (fun h' tk kp hd=>⟨rfl,h h' tk (fun b o e=>kp b o (ne1 b o e).1 (ne1 b o e).2 (Heap.get?_push_of_some _ (up _ _ e))) hd⟩) ps.length 0 _ _ _ (by omega) (Nat.zero_le _) ⟨_,Heap.get?_push_size _ rfl,rfl,rfl⟩ hD2 fun b o _ _ e=>e
 ·exact⟨_,Heap.get?_push_of_some _ (up _ _ hl),rfl,n,rfl⟩
 ·obtain⟨p,key,m,dd,ss,a1,a2,a3⟩:=hp i k v e
  exact⟨p,key,m,dd,ss,a1,Heap.get?_push_of_some _ (up _ _ a2),a3,(ne1 p _ a2).1,(ne1 p _ a2).2⟩
end
end PySem
namespace L2
open PySem PySem.Spec PyProof.Rows
section
variable {X:Cx}
def qDictL:List V->Hp->VK->Prop:=fun xs H Q=>∃a vs kvs,xs=[.ref a]/\H a=some (.lst vs)/\vs.length=(kvs:List (Key×V)).length /\
 (∀(i:Nat) k x,kvs[i]? = some (k,x)->∃p,vs[i]? = some (.ref p)/\H p=some (.tup [kV k,x]))/\(kvs.map (·.1)).Nodup/\∀p,H p=none->Q (.ref p) (upd H p (.dK kvs))
theorem prsF_len{K:Type}[DecidableEq K](ps:List (K×Value)):(prsF ps).length<=ps.length:=by
 have:∀(ps m:List (K×Value)),(ps.foldl (fun m p=>stored m p.1 p.2) m).length<=m.length+ps.length:=by
  intro ps;induction ps with
  | nil=>intro m;simp
  | cons p ps ih=>
   intro m;have h1:=ih (stored m p.1 p.2);have h2:=stored_length_le m p.1 p.2;simp only[List.foldl_cons,List.length_cons];omega
 have:=this ps [];simpa[prsF]using this
theorem pairs_at{P:Program}{w:World}{H:Hp}{h:Heap}(ok:HOk P w H h):∀(kvs:List (Key×V)) (vs:List V) (its:List Value),vs.length=kvs.length->(∀(i:Nat) k x,kvs[i]? = some (k,x)->∃p,vs[i]? = some (.ref p)/\H p=some (.tup [kV k,x]))->Vals vs its ->
  ∃ps:List (Key×Value),KV kvs ps/\∀(i:Nat) k v,ps[i]? = some (k,v)->∃p key n dd ss,its[i]? = some (.ref p)/\h.get? p=some ⟨.type "tuple", dd,.seq #[key,v] n,ss⟩/\(mixKind P w).is k key=true
 | [],_,_,_,_,_=>⟨[],.nil,fun i k v e=>by simp at e⟩
 | (k,x)::kvs,[],_,l,_,_=>by cases l
 | (k,x)::kvs,v::vs,its,l,hp,rv=>by
  cases rv with
  | cons r0 rv=>
   rename_i u its
   obtain⟨p,e1,e2⟩:=hp 0 k x rfl;cases e1;cases r0;obtain⟨ps,q1,q2⟩:=pairs_at ok kvs vs its (by simpa using l) (fun i k x e=>hp (i+1) k x e) rv;obtain⟨_,js,rj,o,g1,g2,n,g3⟩:=(show ObjOk P w H h p (.tup [kV k,x])from ok p _ e2);obtain⟨u1,u2,rfl,r1,r2⟩:=vals2 rj;refine⟨(k,u2)::ps,.cons ⟨rfl,r2⟩ q1,fun i k' v' e=>?_⟩;cases i with
   | zero=>
    cases e;refine⟨p,u1,n,o.dict,o.slots,rfl,?_,kV_is r1⟩;rw[g1];cases o;cases g2;cases g3;rfl
   | succ i=>exact q2 i k' v' e
theorem call_qdictl(hc:X.calm=true):CallR X (.type "dict") qDictL:=fun pins s σ H xs us Q I r h=>by
 obtain⟨a,vs,kvs,rfl,hl,hn,hp,nd,q⟩:=h;obtain⟨u,rfl,ru⟩:=vals1 r;cases ru;obtain⟨hz,its,n,rv,hg⟩:=(show ObjOk X.prog X.w H s.heap a (.lst vs)from I.hok a _ hl);have li:=Paired.length rv;obtain⟨ps,rel,hps⟩:=pairs_at I.hok kvs vs its hn hp rv;have hpl:=rel.length;have hnd:(ps.map (·.1)).Nodup:=by rw[<-rel.keys];exact nd
 refine call_dict_pairs (knd:=mixKind X.prog X.w) (ps:=ps) (I.ok.hd hc) hg (by simp;omega) (by omega) (fun i k v e=>by
  obtain⟨p,key,m,dd,ss,a1,a2,a3⟩:=hps i k v e;exact⟨p,key,m,dd,ss,by simpa using a1,a2,a3⟩) (fun qs hq=>Nat.le_trans (prsF_len qs) (by omega)) fun h' tk kp dd=>?_
 have e:prsF ps=ps:=merged_nil_of_nodup ps hnd;rw[e]at dd;exact⟨.ref s.heap.objs.size,_,I.laid (a:=s.heap.objs.size) (o:=.dK kvs) (t':=tk) (fun b o hb=>kp b o hb) (Nat.le_refl _) (dk_new (by omega) (beq_eq_false_iff_ne.mpr (Ne.symm (Nat.ne_of_lt I.big))) rel dd),rfl,q _ (I.hok.fresh (Nat.le_refl _))⟩
end
end L2
namespace Y
open PySem PySem.Spec PyProof.Rows L2
structure E(X:Cx)(e:Expr)(t:TE):Prop where h:PE X e t
structure A(X:Cx)(e:List Expr)(t:TA):Prop where h:PA X e t
structure S(X:Cx)(e:Stmt)(t:TS):Prop where h:PS X e t
structure Ss(X:Cx)(e:List Stmt)(t:TS):Prop where h:PSs X e t
structure T(X:Cx)(e:Expr)(t:TT):Prop where h:PT X e t
structure W(X:Cx)(e:Expr)(t:TT):Prop where h:PW X e t
structure Ts(X:Cx)(e:List Expr)(t:TT):Prop where h:PTs X e t
structure It(X:Cx)(tg e:Expr)(t:TI):Prop where h:PI X tg e t
structure G(X:Cx)(e:Expr)(t:TG):Prop where h:PG X e t
structure Gs(X:Cx)(e:List Expr)(t:TGs):Prop where h:PGs X e t
structure O(X:Cx)(e:Option Expr)(t:TO):Prop where h:PO X e t
structure Rop(X:Cx)(f:Value->Value->Sem Value)(r:R2):Prop where h:OpR X f r
structure Run(X:Cx)(f:Value->Sem Value)(r:V->Hp->VK->Prop):Prop where h:UnR X f r
structure Rcall(X:Cx)(f:Value)(r:List V->Hp->VK->Prop):Prop where h:CallR X f r
structure Rmt(X:Cx)(id:String)(r:V->List V->Hp->VK->Prop):Prop where h:MtR X id r
structure Rix(X:Cx)(r:R2):Prop where h:IxR X r
structure Rsl(X:Cx)(r:V->Option Int->Option Int->Hp->VK->Prop):Prop where h:SlR X r
structure Rset(X:Cx)(t:TSet):Prop where h:PSet X t
structure Rget(X:Cx)(t:V->V->Hp->VK->Prop):Prop where h:PGet X t
structure Rip(X:Cx)(op:Operator)(t:TIp):Prop where h:PIp X op t
section
variable {X:Cx}{st:Stmt}{rest:List Stmt}{t u:TS}{e a b c o i:Expr}{es more:List Expr}{te ta tb tc to ti:TE}{tt tu:TT}{tr:TA}{pos p pos':Pos}{x:Str}
theorem pss_nil:Ss X [] tNext:=⟨L2.pss_nil⟩
theorem pss_cons(h1:S X st t)(h2:Ss X rest u):Ss X (st::rest) (tSeq t u):=⟨L2.pss_cons h1.h h2.h⟩
theorem pss_one(h1:S X st t):Ss X [st] t:=⟨L2.pss_one h1.h⟩
theorem ps_set{n:Nat}(hN:X.N.Nodup)(hi:X.N[n]? = some x)(hx:Loc X.env.scope x)(he:E X e te)(hs:swapsWith e (some (.Name x pos')) pos.line X.env=pure false:=by rfl)(hf:X.fn x=true\/X.env.scope.names.lookup x=some .local:=by first | exact .inl rfl | exact .inr rfl) :
  S X (.Assign [.Name x pos'] e pos) (tAsg te (gName n)):=⟨L2.ps_set hN hi hx he.h hs hf⟩
theorem ps_asg{tg:Expr}{g:TG}(he:E X e te)(hg:G X tg g)(hs:swapsWithSole [tg] e pos.line X.env=pure false:=by rfl)(hw:swappedStores [tg] e X.env=pure none:=by rfl)
  (h1:(assignEach [tg] X.env).map (·.2)=[assign tg X.env]:=by rfl):S X (.Assign [tg] e pos) (tAsg te g):=⟨L2.ps_asg he.h hg.h hs hw h1⟩
theorem ps_augS{tget:V->V->Hp->VK->Prop}{tip:TIp}{tset:TSet}{op:Operator}(ho:E X o to)(hi:E X i ti)(hg:Rget X tget)(he:E X e te)(hp:Rip X op tip)(hs:Rset X tset)
  (ha:∀ov iv new,augStore i ov iv new=(do holding [new,ov,iv] (setItem ov iv new);release [new,ov,iv] [];pure .next):=by intros;rfl):S X (.AugAssign (.Subscript o i p) op e pos) (tAugS to ti te tget tip tset):=⟨L2.ps_augS ho.h hi.h hg.h he.h hp.h hs.h ha⟩
theorem ps_aug{n:Nat}{op:Operator}{tip:TIp}(hN:X.N.Nodup)(hi:X.N[n]? = some x)(hx:Loc X.env.scope x)(he:E X e te)(ho:Rip X op tip)(hf:X.fn x=true\/X.env.scope.names.lookup x=some .local:=by first | exact .inl rfl | exact .inr rfl) :
  S X (.AugAssign (.Name x pos') op e pos) (tAug n te tip):=⟨L2.ps_aug hN hi hx he.h ho.h hf⟩
theorem ps_if{la lb:List Stmt}(hc:T X c tt)(ha:Ss X la t)(hb:Ss X lb u):S X (.If c la lb pos) (tIfS tt t u):=⟨L2.ps_if hc.h ha.h hb.h⟩
theorem ps_ret(he:E X e te):S X (.Return (some e) pos) (tRet te):=⟨L2.ps_ret he.h⟩
theorem ps_expr(he:E X e te)(hs:swapsWith e none pos.line X.env=pure false:=by rfl):S X (.Expr e pos) (tDrop te):=⟨L2.ps_expr he.h hs⟩
theorem ps_for{tg:Expr}{wi:TI}{g:TG}{body:List Stmt}(hp:PassesOwn (model X.prog X.w) X.A X.env X.xe)(hc:X.calm=true)(hi:It X tg e wi)(hg:G X tg g)(hb:Ss X body t)
  (hs:∀x,foldedSetIterable e X.env x=pure x:=by intro _;rfl):S X (.For tg e body [] pos) (tFor wi g t):=⟨L2.ps_for hp hc hi.h hg.h hb.h hs⟩
theorem pg_name{n:Nat}(hN:X.N.Nodup)(hi:X.N[n]? = some x)(hx:Loc X.env.scope x)(hf:X.fn x=true\/X.env.scope.names.lookup x=some .local:=by first | exact .inl rfl | exact .inr rfl):G X (.Name x pos) (gName n):=⟨L2.pg_name hN hi hx hf⟩
theorem pgs_nil:Gs X [] gNil:=⟨L2.pgs_nil⟩
theorem pgs_cons{g:TG}{gs:TGs}(h1:G X e g)(h2:Gs X es gs)(h:(assignEach (e::es) X.env).map (·.2)=assign e X.env::(assignEach es X.env).map (·.2):=by rfl):Gs X (e::es) (gCons g gs):=⟨L2.pgs_cons h1.h h2.h h⟩
theorem pg_tup{k n:Nat}{gs:TGs}(hc:X.calm=true)(h:Gs X es gs)(hn:(assignEach es X.env).length=n:=by rfl)(hst:(assignEach es X.env).findIdx? (·.1)=none:=by rfl):G X (.Tuple es k pos) (gTup X.K n gs):=⟨L2.pg_tup hc h.h hn hst⟩
theorem pg_sub{ts:TSet}(ho:E X o to)(hi:E X i ti)(hs:Rset X ts)
  (ha:∀v,assign (.Subscript o i pos) X.env v=(do
   let ov <-holding [v] (eval o X.env)
   let iv <-holding [v,ov] (eval i X.env)
   standAt pos
   holding [v,ov,iv] (setItem ov iv v)
   release [v,ov,iv] []):=by intro _;rfl):G X (.Subscript o i pos) (gSub to ti ts):=⟨L2.pg_sub ho.h hi.h hs.h ha⟩
theorem pi_range1{tg:Expr}(hg:Gl X "range")(hm:X.mg "range" = none)(ha:A X [a] tr)(hs:starEach [a] X.env=[(false,eval a X.env)]:=by rfl):It X tg (.Call (.Name "range" p) [a] [] pos) (iRng1 tr):=⟨L2.pi_range1 hg hm ha.h hs⟩
theorem pi_list{tg:Expr}(h:E X e te):It X tg e (iList X.K te):=⟨L2.pi_list h.h⟩
theorem pa_nil:A X [] tNil:=⟨L2.pa_nil⟩
theorem pa_cons(ha:E X e te)(hr:A X es tr)(hs:starEach (e::es) X.env=(false,eval e X.env)::starEach es X.env:=by rfl):A X (e::es) (tCons te tr):=⟨L2.pa_cons ha.h hr.h hs⟩
theorem pts_nil:Ts X [] tTrue:=⟨L2.pts_nil⟩
theorem pts_one(h:T X e tt):Ts X [e] tt:=⟨L2.pts_one h.h⟩
theorem pe_comp{elt iter:Expr}{px:Pos}{ifs:List Expr}{scope:Scope}{wi:TI}(hc:CompOk X.N X.env.scope scope x)(hcalm:X.calm=true)(hi:It X (.Name x px) iter wi)
  (ht:∀cl C fp s3 H3,Ts (cxComp X scope cl C x fp s3 H3) ifs tt) (he:∀cl C fp s3 H3,E (cxComp X scope cl C x fp s3 H3) elt te)
  (hs:∀x,foldedSetIterable iter X.env x=pure x:=by intro _;rfl):E X (.ListComp elt [⟨.Name x px,iter,ifs,0⟩] scope pos) (tComp wi tt te):=
 ⟨L2.pe_comp hc hcalm hi.h (fun cl C fp s3 H3=>(ht cl C fp s3 H3).h) (fun cl C fp s3 H3=>(he cl C fp s3 H3).h) hs⟩
theorem ps_setcomp{elt iter:Expr}{px py spos:Pos}{ifs:List Expr}{scope:Scope}{wi:TI}{n:Nat}{y:Str}(hN:X.N.Nodup)(hiy:X.N[n]? = some y)(hy:X.env.scope.names.lookup y=some .local)(hc:CompOk X.N X.env.scope scope x)(hcalm:X.calm=true)(hi:It X (.Name x px) iter wi)
  (ht:∀cl C fp s3 H3,Ts (cxComp X scope cl C x fp s3 H3) ifs tt) (he:∀cl C fp s3 H3,E (cxComp X scope cl C x fp s3 H3) elt te)
  (hsw:swapsWith (.ListComp elt [⟨.Name x px,iter,ifs,0⟩] scope pos) (some (.Name y py)) spos.line X.env=pure true:=by rfl)
  (hs:∀x,foldedSetIterable iter X.env x=pure x:=by intro _;rfl) :
  S X (.Assign [.Name y py] (.ListComp elt [⟨.Name x px,iter,ifs,0⟩] scope pos) spos) (fun D σ H=>tComp wi tt te σ H fun v H1=>D.nx (σ.set n (some v)) H1):=
 ⟨L2.ps_setcomp hN hiy hy hc hcalm hi.h (fun cl C fp s3 H3=>(ht cl C fp s3 H3).h) (fun cl C fp s3 H3=>(he cl C fp s3 H3).h) hsw hs⟩
theorem pe_int{n:Int}{j}:E X (.Constant (.int n) j pos) (tC (.int n)):=⟨L2.pe_int⟩
theorem pe_bl{v:Bool}{j}:E X (.Constant (.bool v) j pos) (tC (.bl v)):=⟨L2.pe_bl⟩
theorem pe_non{j}:E X (.Constant .none j pos) (tC .non):=⟨L2.pe_non⟩
theorem pe_str{j}:E X (.Constant (.str x) j pos) (tC (.str x)):=⟨L2.pe_str⟩
theorem pv(n:Nat)(hN:X.N[n]? = some x:=by rfl)(hv:Vis X.env.scope x:=by first | exact Or.inl rfl | exact Or.inr (Or.inl rfl) | exact Or.inr (Or.inr rfl))(hd:(x == ("__debug__" : Str))=false:=by decide)
  (hcd:(x == ("__classdict__" : Str))=false:=by decide):E X (.Name x pos) (tVar n):=⟨L2.pe_var hN hv hd hcd⟩
theorem pe_bltn{v:V}{u:Value}(hg:Gl X x)(hm:X.mg x=none)(hv:bootBuiltins x=some u)(r:RelV v u)(hn:x ≠ "__name__" := by decide)(hd:(x == ("__debug__" : Str))=false:=by decide):E X (.Name x pos) (tC v):=⟨L2.pe_bltn hg hm hv r hn hd⟩
theorem pe_globT{v:V}(hm:∃u,X.mg x=some u/\RelV v u)(hg:Gl X x)(hd:(x == ("__debug__" : Str))=false:=by decide):E X (.Name x pos) (tC v):=by
 obtain⟨u,h1,h2⟩:=hm;exact⟨L2.pe_glob hg h1 h2 hd⟩
theorem pe_op{op:Operator}{r:R2}(ho:Rop X (binaryOp op) r)(ha:E X a ta)(hb:E X b tb):E X (.BinOp a op b pos) (tOp r ta tb):=⟨L2.pe_op ho.h ha.h hb.h⟩
theorem pe_un{op:UnaryOp}{r:V->Hp->VK->Prop}(ho:Run X (unaryOp op) r)(ha:E X a ta):E X (.UnaryOp op a pos) (tUn r ta):=⟨L2.pe_un ho.h ha.h⟩
theorem pe_not(ha:E X a ta):E X (.UnaryOp .Not a pos) (tNotV ta):=⟨L2.pe_not ha.h⟩
theorem pe_cmpR{op:CmpOp}{r:R2}(ho:Rop X (compareOp op) r)(ha:E X a ta)(hb:E X b tb)(hm:behindInMarks op b=false):E X (.Compare a [op] [b] pos) (tOp r ta tb):=⟨L2.pe_cmpR ho.h ha.h hb.h hm⟩
theorem pt_cmpR{op:CmpOp}{r:R2}(ho:Rop X (compareOp op) r)(ha:E X a ta)(hb:E X b tb)(hm:behindInMarks op b=false):T X (.Compare a [op] [b] pos) (tTest (tOp r ta tb)):=⟨L2.pt_cmpR ho.h ha.h hb.h hm⟩
theorem pe_chain{op op':CmpOp}{r r':R2}(ho:Rop X (compareOp op) r)(ho':Rop X (compareOp op') r')(ha:E X a ta)(hb:E X b tb)(hc:E X c tc)
  (hm:lastMarks [op,op'] [b,c]=false:=by with_unfolding_all rfl):E X (.Compare a [op,op'] [b,c] pos) (tChain r r' ta tb tc):=⟨L2.pe_chain ho.h ho'.h ha.h hb.h hc.h hm⟩
theorem pt_chain{op op':CmpOp}{r r':R2}(ho:Rop X (compareOp op) r)(ho':Rop X (compareOp op') r')(ha:E X a ta)(hb:E X b tb)(hc:E X c tc)
  (hm:lastMarks [op,op'] [b,c]=false:=by with_unfolding_all rfl):T X (.Compare a [op,op'] [b,c] pos) (tTest (tChain r r' ta tb tc)):=⟨L2.pt_chain ho.h ho'.h ha.h hb.h hc.h hm⟩
theorem pe_one{op}(h:E X a te):E X (.BoolOp op [a] pos) te:=⟨L2.pe_one h.h⟩
theorem pe_and(ha:E X a ta)(hb:E X (.BoolOp .And (b::more) pos) tb):E X (.BoolOp .And (a::b::more) pos) (tAndV ta tb):=⟨L2.pe_and ha.h hb.h⟩
theorem pe_or(ha:E X a ta)(hb:E X (.BoolOp .Or (b::more) pos) tb):E X (.BoolOp .Or (a::b::more) pos) (tOrV ta tb):=⟨L2.pe_or ha.h hb.h⟩
theorem pe_ifExp(hc:T X c tt)(ha:E X a ta)(hb:E X b tb):E X (.IfExp c a b pos) (tIf tt ta tb):=⟨L2.pe_ifExp hc.h ha.h hb.h⟩
theorem pe_tup{k}(h:A X es tr):E X (.Tuple es k pos) (tTup tr):=⟨L2.pe_tup h.h⟩
theorem pe_lst(h:A X es tr):E X (.List es pos) (tLst tr):=⟨L2.pe_lst h.h⟩
theorem po_none:O X none tNoPart:=⟨L2.po_none⟩
theorem po_some(h:E X e te):O X (some e) (tPart te):=⟨L2.po_some h.h⟩
theorem pe_slice{lo hi:Option Expr}{tl th:TO}{r:V->Option Int->Option Int->Hp->VK->Prop}(hr:Rsl X r)(he:E X e te)(hl:O X lo tl)(hu:O X hi th):E X (.Subscript e (.Slice lo hi none p) pos) (tSl r te tl th):=⟨L2.pe_slice hr.h he.h hl.h hu.h⟩
theorem pe_ix{r:R2}(hr:Rix X r)(ha:E X a ta)(hb:E X b tb)(hs:PlainIx b):E X (.Subscript a b pos) (tOp r ta tb):=⟨L2.pe_ix hr.h ha.h hb.h hs⟩
theorem pe_own{k j:Nat}{ps:List Str}{sp:Sp}(C:Callee X.prog X.w X.K X.mg X.base k x ps sp)(hr:Room j X.A)(hk:k<=j)(hg:Gl X x)(ha:A X (e::es) tr)
  (hdb:(x == ("__debug__" : Str))=false:=by decide) (he:starEach (e::es) X.env=(false,eval e X.env)::starEach es X.env:=by rfl) (hpl:(backTo pos (starEach es X.env)).any (·.1)=false:=by rfl) :
  E X (.Call (.Name x p) (e::es) [] pos) (tCall sp [] E0 tr):=⟨L2.pe_own C hr hk hg ha.h hdb he hpl⟩
theorem pe_callB{id:String}{r:List V->Hp->VK->Prop}(hc:Rcall X (.builtin id) r)(hg:Gl X x)(hm:X.mg x=none)(hv:bootBuiltins x=some (.builtin id))(ha:A X (e::es) tr)(hn:x ≠ "__name__" := by decide)(hdb:(x == ("__debug__" : Str))=false:=by decide)
  (he:starEach (e::es) X.env=(false,eval e X.env)::starEach es X.env:=by rfl) (hpl:(backTo pos (starEach es X.env)).any (·.1)=false:=by rfl):E X (.Call (.Name x p) (e::es) [] pos) (tCB r tr):=⟨L2.pe_callB hc.h hg hm hv ha.h hn hdb he hpl⟩
theorem pe_callTy{id:String}{r:List V->Hp->VK->Prop}(hc:Rcall X (.type id) r)(hg:Gl X x)(hm:X.mg x=none)(hv:bootBuiltins x=some (.type id))(ha:A X (e::es) tr)(hn:x ≠ "__name__" := by decide)(hdb:(x == ("__debug__" : Str))=false:=by decide)
  (he:starEach (e::es) X.env=(false,eval e X.env)::starEach es X.env:=by rfl) (hpl:(backTo pos (starEach es X.env)).any (·.1)=false:=by rfl):E X (.Call (.Name x p) (e::es) [] pos) (tCB r tr):=⟨L2.pe_callTy hc.h hg hm hv ha.h hn hdb he hpl⟩
theorem pe_bm{ty id:String}{name:Str}{r:V->List V->Hp->VK->Prop}{apos:Pos}(pa:PlainAttrs ty)(slot:Slot ty name id)(hty:typeOf (.builtin id)=pure (.type "method_descriptor"))(hm:Rmt X id r)(ho:E X o to)(ha:A X (e::es) tr)
  (hbase:attributeBase o name X.env (eval o X.env)=eval o X.env:=by rfl)
  (hfew:((backTo pos (starEach (e::es) X.env)).all (fun x => !x.1)&&(backToKw pos (keywordEach [] X.env)).all (fun x=>x.1.isSome)
   && decide ((e::es).length+([]:List Keyword).length+(if([]:List Keyword).isEmpty then 0 else 1)<30))=true:=by rfl)
  (hline:(apos.endLine == pos.line)=true:=by rfl) (hs:starEach (e::es) X.env=(false,eval e X.env)::starEach es X.env:=by rfl) (hplain:(backTo pos (starEach es X.env)).any (·.1)=false:=by rfl) :
  E X (.Call (.Attribute o name apos) (e::es) [] pos) (tBM X.K ty r to tr):=⟨L2.pe_bm pa slot hty hm.h ho.h ha.h hbase hfew hline hs hplain⟩
theorem pt_not(ha:T X a tt):T X (.UnaryOp .Not a pos) (tNot tt):=⟨L2.pt_not ha.h⟩
theorem pw_and1(ha:T X a tt):W X (.BoolOp .And [a] pos) tt:=⟨L2.pw_and1 ha.h⟩
theorem pw_or1(ha:T X a tt):W X (.BoolOp .Or [a] pos) tt:=⟨L2.pw_or1 ha.h⟩
theorem pw_and(ha:T X a tt)(hb:W X (.BoolOp .And (b::more) pos) tu):W X (.BoolOp .And (a::b::more) pos) (tAnd tt tu):=⟨L2.pw_and ha.h hb.h⟩
theorem pw_or(ha:T X a tt)(hb:W X (.BoolOp .Or (b::more) pos) tu):W X (.BoolOp .Or (a::b::more) pos) (tOr tt tu):=⟨L2.pw_or ha.h hb.h⟩
theorem pw_pt(h:W X e tt):T X e tt:=⟨PW.pt h.h⟩
theorem pt_val(h:E X e te)(he:∀whole,isTrue e X.env whole=(do let v <-whole;standAt e.pos;holding [v] (truthy v)):=by intro _;rfl):T X e (tB te):=⟨L2.pt_val h.h he⟩
theorem op_qadd:Rop X (binaryOp .Add) qAdd:=⟨L2.op_qadd⟩
theorem op_qsub:Rop X (binaryOp .Sub) qSub:=⟨L2.op_qsub⟩
theorem op_qmul:Rop X (binaryOp .Mult) qMul:=⟨L2.op_qmul⟩
theorem op_qmod:Rop X (binaryOp .Mod) qMod:=⟨L2.op_qmod⟩
theorem op_qdiv:Rop X (binaryOp .FloorDiv) qDiv:=⟨L2.op_qdiv⟩
theorem op_qeq{k:Nat}(hr:Room k X.A):Rop X (compareOp .Eq) qEq:=⟨L2.op_qeq hr.units0⟩
theorem op_qne{k:Nat}(hr:Room k X.A):Rop X (compareOp .NotEq) qNe:=⟨L2.op_qne hr.units0⟩
theorem call_qlist:Rcall X (.type "list") qList:=⟨L2.call_qlist⟩
theorem op_qlt:Rop X (compareOp .Lt) qLt:=⟨L2.op_qlt⟩
theorem op_qle:Rop X (compareOp .LtE) qLe:=⟨L2.op_qle⟩
theorem op_qgt:Rop X (compareOp .Gt) qGt:=⟨L2.op_qgt⟩
theorem op_qge:Rop X (compareOp .GtE) qGe:=⟨L2.op_qge⟩
theorem op_qin:Rop X (compareOp .In) (qIn false):=⟨L2.op_qin⟩
theorem op_qnotin:Rop X (compareOp .NotIn) (qIn true):=⟨L2.op_qnotin⟩
theorem op_qis:Rop X (compareOp .Is) qIs:=⟨L2.op_qis⟩
theorem op_qisnot:Rop X (compareOp .IsNot) qIsNot:=⟨L2.op_qisnot⟩
theorem pe_dnewK:E X (.Dict [] [] pos) tDNewK:=⟨L2.pe_dnewK⟩
theorem pe_dget{k:Nat}(hr:Room k X.A)(ho:E X o to)(hi:E X i ti)(hs:NoSl i):E X (.Subscript o i pos) (tDGet to ti):=⟨L2.pe_dget (hu_of hr) ho.h hi.h hs⟩
theorem pe_din{k:Nat}(hr:Room k X.A)(hi:E X i ti)(ho:E X o to)(h1:behindInMarks .In o=false):E X (.Compare i [.In] [o] pos) (tDIn ti to):=⟨L2.pe_cmp (L2.pc_din (hu_of hr) hi.h ho.h) h1⟩
theorem pt_din{k:Nat}(hr:Room k X.A)(hi:E X i ti)(ho:E X o to)(h1:behindInMarks .In o=false):T X (.Compare i [.In] [o] pos) (tB (tDIn ti to)):=⟨L2.pt_cmp (L2.pc_din (hu_of hr) hi.h ho.h) h1⟩
theorem ps_dput{k:Nat}(hr:Room k X.A)(ho:E X o to)(hi:E X i ti)(hv:E X e te)(hs:swapsWith e (some (.Subscript o i pos')) pos.line X.env=pure false:=by rfl):S X (.Assign [.Subscript o i pos'] e pos) (sDPut to ti te):=⟨L2.ps_dput (hu_of hr) ho.h hi.h hv.h hs⟩
theorem pi_str{tg:Expr}(h:E X e te):It X tg e (iStr te):=⟨L2.pi_str h.h⟩
theorem call_qall(hc:X.calm=true):Rcall X (.builtin "all") qAll:=⟨L2.call_qall hc⟩
theorem un_neg:Run X (unaryOp .USub) (rU fun i=>.int (-i)):=⟨L2.un_neg⟩
theorem ix_q:Rix X qIx:=⟨L2.ix_q⟩
theorem sl_q:Rsl X qSl:=⟨L2.sl_q⟩
theorem sl_list:Rsl X (rSlL X.K):=⟨L2.sl_list⟩
theorem set_q:Rset X qSet:=⟨L2.set_q⟩
theorem get_q:Rget X qGet:=⟨L2.get_q⟩
theorem ip_add:Rip X .Add (ipI fun i j=>i+j):=⟨L2.ip_add⟩
theorem call_qlen:Rcall X (.builtin "len") qLen:=⟨L2.call_qlen⟩
theorem call_qabs:Rcall X (.builtin "abs") qAbs:=⟨L2.call_qabs⟩
theorem call_qisi:Rcall X (.builtin "isinstance") qIsi:=⟨L2.call_qisi⟩
theorem mt_qappend:Rmt X "list.append" qAppend:=⟨L2.mt_qappend⟩
theorem mt_qjoin:Rmt X "str.join" qJoin:=⟨L2.mt_qjoin⟩
end
theorem fun_ok{P:Program}{w:World}{K:PySem.W.Frag}{mg:Str->Option Value}{base:Heap}{x qual:Str}{st:Stmt}{f:Addr}{fd:FuncData}{N ps:List Str}{k:Nat}{sp:Sp}(F:Fun K x qual st f fd)(S:FnScope N ps (defScope st))(len:∀vs H Q E,sp vs H Q E->vs.length=ps.length)
  (hbody:∀(cdv:Value) (A:Around) (outer:List Env) (s:Shared) (H:Hp) (vs:List V) (Q:VK) (E:XK),Room k (A.deeper (envOfC qual (defScope st) s.heap.objs.size f cdv))->sp vs H Q E ->
   ∃t,Ss (cxOf CX0 P w K mg base N qual (defScope st) f cdv A outer s H E).nox (defBody st) t/\t { nx:=fun _ H'=>Q .non H',rt:=Q } (start N vs) H):FnOk P w K mg base CX0 (k+1) f fd ps sp:=
 F.ok S len fun cdv A outer s H vs Q E hr h=>let⟨t,a,b⟩:=hbody cdv A outer s H vs Q E hr h; ⟨t,a.h,b⟩
end Y
namespace Y
open PySem PySem.Spec PyProof.Rows L2
section
variable {X:Cx}{st:Stmt}{rest:List Stmt}{t u:TS}{e a b c o i:Expr}{es more:List Expr}{te ta tb tc to ti:TE}{tt tu:TT}{tr:TA}{pos p pos':Pos}{x y:Str}
theorem pi_enum{elts:List Expr}{x1}{tp:Pos}(hg:Gl X "enumerate")(hm:X.mg "enumerate" = none)(ha:A X [a] tr)(hs:starEach [a] X.env=[(false,eval a X.env)]:=by rfl) :
  It X (.Tuple elts x1 tp) (.Call (.Name "enumerate" p) [a] [] pos) (iEnum X.K tr):=⟨L2.pi_enum hg hm ha.h hs⟩
theorem pi_zip{elts:List Expr}{x1}{tp:Pos}(hg:Gl X "zip")(hm:X.mg "zip" = none)(ha:A X [a,b] tr)(hs:starEach [a,b] X.env=[(false,eval a X.env),(false,eval b X.env)]:=by rfl)(hs2:starEach [b] X.env=[(false,eval b X.env)]:=by rfl) :
  It X (.Tuple elts x1 tp) (.Call (.Name "zip" p) [a,b] [] pos) (iZip X.K tr):=⟨L2.pi_zip hg hm ha.h hs hs2⟩
theorem pe_compP{elt iter:Expr}{px py pt:Pos}{kt}{ifs:List Expr}{scope:Scope}{wi:TI}(hc:CompOkP X.N X.env.scope scope x y)(hcalm:X.calm=true)(hi:It X (.Tuple [.Name x px,.Name y py] kt pt) iter wi)
  (ht:∀cl C fp s3 H3,Ts (cxCompP X scope cl C x y fp s3 H3) ifs tt) (he:∀cl C fp s3 H3,E (cxCompP X scope cl C x y fp s3 H3) elt te)
  (hs:∀x,foldedSetIterable iter X.env x=pure x:=by intro _;rfl):E X (.ListComp elt [⟨.Tuple [.Name x px,.Name y py] kt pt,iter,ifs,0⟩] scope pos) (tCompP X.K wi tt te):=
 ⟨L2.pe_compP hc hcalm hi.h (fun cl C fp s3 H3=>(ht cl C fp s3 H3).h) (fun cl C fp s3 H3=>(he cl C fp s3 H3).h) hs⟩
theorem ps_while{body:List Stmt}(hp:PassesOwn (model X.prog X.w) X.A X.env X.xe)(hc:T X c tt)(hb:Ss X body t):S X (.While c body [] pos) (tWhile tt t):=⟨L2.ps_while hp hc.h hb.h⟩
theorem ps_raise{e c:Option Expr}:S X (.Raise e c pos) (fun _ _ _=>False):=⟨L2.ps_raise⟩
theorem pe_fld{f:Str}(he:E X e te)(hb:attributeBase e f X.env (eval e X.env)=eval e X.env:=by rfl):E X (.Attribute e f pos) (tFld X.K te f):=⟨L2.pe_fld he.h hb⟩
theorem ps_fld{f:Str}(ha:E X o to)(hv:E X e te)(hs:swapsWith e (some (.Attribute o f pos')) pos.line X.env=pure false:=by rfl):S X (.Assign [.Attribute o f pos'] e pos) (sFld X.K to te f):=⟨L2.ps_fld ha.h hv.h hs⟩
theorem pe_mk{k j:Nat}{C:Addr}{ps:List Str}{sp:Sp}(M:Maker X.prog X.w X.K X.mg X.base k x C ps sp)(hr:Room j X.A)(hk:k+1<=j)(hg:Gl X x)(ha:A X (e::es) tr)
  (hdb:(x == ("__debug__" : Str))=false:=by decide) (he:starEach (e::es) X.env=(false,eval e X.env)::starEach es X.env:=by rfl) (hpl:(backTo pos (starEach es X.env)).any (·.1)=false:=by rfl) :
  E X (.Call (.Name x p) (e::es) [] pos) (tMake C sp [] E0 tr):=⟨L2.pe_mk M hr hk hg ha.h hdb he hpl⟩
theorem pe_mth{pl:Sem Bool}{k j:Nat}{m:Str}{C:Addr}{ps:List Str}{sp:Sp}{apos:Pos}(M:MCallee X.prog X.w X.K X.mg X.base k m C ps sp)(hr:Room j X.A)(hk:k<=j)(ho:E X o to)(ha:A X (e::es) tr)
  (hst:starEach (e::es) X.env=(false,eval e X.env)::starEach es X.env:=by rfl) (hpl:(backTo pos (starEach es X.env)).any (·.1)=false:=by rfl)
  (ht:eval (.Call (.Attribute o m apos) (e::es) [] pos) X.env=(do
   let ov <-eval o X.env
   standAt apos.atName
   let(f,first) <-holding [ov] (getMethod ov m pl)
   callWith pos f first (backTo pos (starEach (e::es) X.env)) (backToKw pos (keywordEach [] X.env))):=by rfl) :
  E X (.Call (.Attribute o m apos) (e::es) [] pos) (tMeth C m sp [] E0 to tr):=⟨L2.pe_mth (pl:=pl) M hr hk ho.h ha.h hst hpl ht⟩
theorem pe_mth0{pl:Sem Bool}{k j:Nat}{m:Str}{C:Addr}{ps:List Str}{sp:Sp}{apos:Pos}(M:MCallee X.prog X.w X.K X.mg X.base k m C ps sp)(hr:Room j X.A)(hk:k<=j)(ho:E X o to)
  (ht:eval (.Call (.Attribute o m apos) [] [] pos) X.env=(do
   let ov <-eval o X.env
   standAt apos.atName
   let(f,first) <-holding [ov] (getMethod ov m pl)
   callWith pos f first (backTo pos (starEach [] X.env)) (backToKw pos (keywordEach [] X.env))):=by rfl) :
  E X (.Call (.Attribute o m apos) [] [] pos) (tMeth C m sp [] E0 to tNil):=⟨L2.pe_mth0 (pl:=pl) M hr hk ho.h ht⟩
theorem pe_bm0{ty id:String}{name:Str}{r:V->List V->Hp->VK->Prop}{apos:Pos}(pa:PlainAttrs ty)(slot:Slot ty name id)(hty:typeOf (.builtin id)=pure (.type "method_descriptor"))(hm:Rmt X id r)(ho:E X o to)
  (hbase:attributeBase o name X.env (eval o X.env)=eval o X.env:=by rfl) (hline:(apos.endLine == pos.line)=true:=by rfl):E X (.Call (.Attribute o name apos) [] [] pos) (tBM0 X.K ty r to):=⟨L2.pe_bm0 pa slot hty hm.h ho.h hbase hline⟩
structure Ps(X:Cx)(pos:Pos)(ks:List (Option Expr))(vs:List Expr)(trs:List (TE×TE)):Prop where h:PPs X pos ks vs trs
theorem pps_nil:Ps X pos [] [] []:=⟨L2.pps_nil⟩
theorem pps_cons{ks:List (Option Expr)}{vs:List Expr}{trs:List (TE×TE)}(hk:E X a ta)(hv:E X b tb)(hr:Ps X pos ks vs trs):Ps X pos (some a::ks) (b::vs) ((ta,tb)::trs):=⟨L2.pps_cons hk.h hv.h hr.h⟩
theorem pe_disp{keys:List (Option Expr)}{values:List Expr}{trs:List (TE×TE)}(h:Ps X pos keys values trs)(hall:keys.all (·.isSome)=true:=by rfl)(hl:keys.length=values.length:=by rfl)(h0:keys≠[]:=by intro z;cases z)
  (h15:keys.length<=15:=by decide):E X (.Dict keys values pos) (tDisp trs):=⟨L2.pe_disp h.h hall hl h0 h15⟩
theorem pe_dnotin{k:Nat}(hr:Room k X.A)(hi:E X i ti)(ho:E X o to)(h1:behindInMarks .NotIn o=false):E X (.Compare i [.NotIn] [o] pos) (tDNotIn ti to):=⟨L2.pe_cmp (L2.pc_dnotin (hu_of hr) hi.h ho.h) h1⟩
theorem pt_dnotin{k:Nat}(hr:Room k X.A)(hi:E X i ti)(ho:E X o to)(h1:behindInMarks .NotIn o=false):T X (.Compare i [.NotIn] [o] pos) (tB (tDNotIn ti to)):=⟨L2.pt_cmp (L2.pc_dnotin (hu_of hr) hi.h ho.h) h1⟩
theorem call_qmin(hc:X.calm=true):Rcall X (.builtin "min") qMin:=⟨L2.call_qmin hc⟩
theorem call_qany(hc:X.calm=true):Rcall X (.builtin "any") qAny:=⟨L2.call_qany hc⟩
theorem call_qsorted:Rcall X (.builtin "sorted") qSorted:=⟨L2.call_qsorted⟩
theorem call_qlistd(hc:X.calm=true):Rcall X (.type "list") qListD:=⟨L2.call_qlistd hc⟩
theorem mt_qindex:Rmt X "list.index" qIndex:=⟨L2.mt_qindex⟩
theorem mt_qextend:Rmt X "list.extend" qExtend:=⟨L2.mt_qextend⟩
theorem mt_qpop:Rmt X "list.pop" qPop:=⟨L2.mt_qpop⟩
theorem mt_qclear:Rmt X "list.clear" qClear:=⟨L2.mt_qclear⟩
theorem op_qeqk{k:Nat}(hr:Room k X.A):Rop X (compareOp .Eq) (qEqK X.K):=⟨L2.op_qeqk hr⟩
theorem op_qnek{k:Nat}(hr:Room k X.A):Rop X (compareOp .NotEq) (qNeK X.K):=⟨L2.op_qnek hr⟩
theorem mt_qreverse:Rmt X "list.reverse" qReverse:=⟨L2.mt_qreverse⟩
theorem op_qink:Rop X (compareOp .In) (qInK X.K):=⟨L2.op_qink⟩
end
end Y
namespace Y
open PySem PySem.Spec PyProof.Rows L2
theorem call_qdictl{X:Cx}(hc:X.calm=true):Rcall X (.type "dict") qDictL:=⟨L2.call_qdictl hc⟩
end Y
namespace Y
open PySem PySem.Spec PyProof.Rows L2
section
variable {X:Cx}{e0 e1 e2 e3 e4:Expr}{t0 t1 t2 t3 t4:TE}
theorem pa1(h0:E X e0 t0)(s0:starEach [e0] X.env=(false,eval e0 X.env)::starEach [] X.env:=by rfl):A X [e0] (tCons t0 tNil):=(pa_cons h0 pa_nil s0)
theorem pa2(h0:E X e0 t0)(h1:E X e1 t1)(s0:starEach [e0,e1] X.env=(false,eval e0 X.env)::starEach [e1] X.env:=by rfl)(s1:starEach [e1] X.env=(false,eval e1 X.env)::starEach [] X.env:=by rfl):A X [e0,e1] (tCons t0 (tCons t1 tNil)):=(pa_cons h0 (pa_cons h1 pa_nil s1) s0)
theorem pa3(h0:E X e0 t0)(h1:E X e1 t1)(h2:E X e2 t2)(s0:starEach [e0,e1,e2] X.env=(false,eval e0 X.env)::starEach [e1,e2] X.env:=by rfl)(s1:starEach [e1,e2] X.env=(false,eval e1 X.env)::starEach [e2] X.env:=by rfl)(s2:starEach [e2] X.env=(false,eval e2 X.env)::starEach [] X.env:=by rfl):A X [e0,e1,e2] (tCons t0 (tCons t1 (tCons t2 tNil))):=(pa_cons h0 (pa_cons h1 (pa_cons h2 pa_nil s2) s1) s0)
theorem pa4(h0:E X e0 t0)(h1:E X e1 t1)(h2:E X e2 t2)(h3:E X e3 t3)(s0:starEach [e0,e1,e2,e3] X.env=(false,eval e0 X.env)::starEach [e1,e2,e3] X.env:=by rfl)(s1:starEach [e1,e2,e3] X.env=(false,eval e1 X.env)::starEach [e2,e3] X.env:=by rfl)(s2:starEach [e2,e3] X.env=(false,eval e2 X.env)::starEach [e3] X.env:=by rfl)(s3:starEach [e3] X.env=(false,eval e3 X.env)::starEach [] X.env:=by rfl):A X [e0,e1,e2,e3] (tCons t0 (tCons t1 (tCons t2 (tCons t3 tNil)))):=(pa_cons h0 (pa_cons h1 (pa_cons h2 (pa_cons h3 pa_nil s3) s2) s1) s0)
theorem pa5(h0:E X e0 t0)(h1:E X e1 t1)(h2:E X e2 t2)(h3:E X e3 t3)(h4:E X e4 t4)(s0:starEach [e0,e1,e2,e3,e4] X.env=(false,eval e0 X.env)::starEach [e1,e2,e3,e4] X.env:=by rfl)(s1:starEach [e1,e2,e3,e4] X.env=(false,eval e1 X.env)::starEach [e2,e3,e4] X.env:=by rfl)(s2:starEach [e2,e3,e4] X.env=(false,eval e2 X.env)::starEach [e3,e4] X.env:=by rfl)(s3:starEach [e3,e4] X.env=(false,eval e3 X.env)::starEach [e4] X.env:=by rfl)(s4:starEach [e4] X.env=(false,eval e4 X.env)::starEach [] X.env:=by rfl):A X [e0,e1,e2,e3,e4] (tCons t0 (tCons t1 (tCons t2 (tCons t3 (tCons t4 tNil))))):=(pa_cons h0 (pa_cons h1 (pa_cons h2 (pa_cons h3 (pa_cons h4 pa_nil s4) s3) s2) s1) s0)
end
end Y
local macro_rules | `(tactic| walk_at "sc") => `(tactic| exact ⟨rfl, rfl, rfl, by decide +kernel, rfl, by decide +kernel, by decide +kernel⟩)
namespace RD
open PySem PySem.Spec L2
def Kept(b:Addr)(H H':Hp):Prop:=(∀a o,H a=some o->a≠b->H' a=some o)/\∀o,H b=some o->∃o',H' b=some o'
theorem Kept.refl(b:Addr)(H:Hp):Kept b H H:=⟨fun _ _ h _=>h,fun o h=>⟨o,h⟩⟩
theorem Kept.trans{b:Addr}{H H1 H2:Hp}(x:Kept b H H1)(y:Kept b H1 H2):Kept b H H2:=
 ⟨fun a o h n=>y.1 a o (x.1 a o h n) n,fun o h=>let⟨o',h'⟩:=x.2 o h;y.2 o' h'⟩
theorem Kept.upd(b:Addr)(H:Hp)(o:HO):Kept b H (upd H b o):=⟨fun a u h n=>by rw[upd_ne n];exact h,fun _ _=>⟨o,upd_same⟩⟩
theorem Kept.new{b p:Addr}{H:Hp}{o:HO}(h:H p=none):Kept b H (L2.upd H p o):=
 ⟨fun a u e _=>by rw[upd_ne (ne_of_none e h)];exact e,fun u e=>⟨u,by rw[upd_ne (ne_of_none e h)];exact e⟩⟩
theorem Kept.of_same{b:Addr}{H H':Hp}(s:Same H H'):Kept b H H':=⟨fun a o h _=>s a o h,fun o h=>⟨o,s _ _ h⟩⟩
theorem same_new{p:Addr}{H:Hp}{o:HO}(h:H p=none):Same H (L2.upd H p o):=fun a u e=>by rw[upd_ne (ne_of_none e h)];exact e
theorem Kept.none{b p:Addr}{H H':Hp}(k:Kept b H H')(h:H' p=Option.none):H p=Option.none:=by
 cases e:H p with
 | none=>rfl
 | some o=>
  by_cases z:p=b
  ·subst z
   obtain⟨o',h'⟩:=k.2 o e;rw[h]at h';cases h'
  ·rw[k.1 p o e z]at h
   cases h
theorem Kept.tup{b a:Addr}{H H':Hp}{xs ys:List V}(k:Kept b H H')(hb:H b=some (.lst ys))(h:H a=some (.tup xs)):H' a=some (.tup xs):=
 k.1 a _ h (ne_of h hb (by intro z;cases z))
structure Bag(H:Hp)(b c:Addr):Prop where
 ex:∃(i0 i1 i2:Int) (ns:List Int),H b=some (.lst [.int i0,.int i1,.int i2,.ref c])/\H c=some (.lst (ns.map V.int))/\0<=i0/\0<=i1/\i1<2147483647/\0<=i2/\∀x∈ns,0<=x
theorem Bag.lst{H:Hp}{b c:Addr}(h:Bag H b c):∃xs,H b=some (.lst xs):=by
 obtain⟨i0,i1,i2,ns,h,_⟩:=h.ex;exact⟨_,h⟩
theorem Bag.same{H H':Hp}{b c:Addr}(h:Bag H b c)(s:Same H H'):Bag H' b c:=by
 obtain⟨i0,i1,i2,ns,h1,h2,r⟩:=h.ex;exact⟨i0,i1,i2,ns,s _ _ h1,s _ _ h2,r⟩
theorem Bag.new{H:Hp}{b c p:Addr}{o:HO}(h:Bag H b c)(n:H p=none):Bag (L2.upd H p o) b c:=h.same (same_new n)
theorem Bag.put{H:Hp}{b c p:Addr}{o:HO}(h:Bag H b c)(n1:p≠b)(n2:p≠c):Bag (L2.upd H p o) b c:=by
 obtain⟨i0,i1,i2,ns,h1,h2,r⟩:=h.ex;exact⟨i0,i1,i2,ns,by rw[upd_ne n1.symm];exact h1,by rw[upd_ne n2.symm];exact h2,r⟩
theorem Bag.nb{H:Hp}{b c p:Addr}(h:Bag H b c)(n:H p=none):p≠b/\p≠c:=by
 obtain⟨i0,i1,i2,ns,h1,h2,r⟩:=h.ex;exact⟨(ne_of_none h1 n).symm,(ne_of_none h2 n).symm⟩
theorem Kept.put{b p:Addr}{H H':Hp}{o:HO}(k:Kept b H H')(n:H p=Option.none):Kept b H (L2.upd H' p o):=
 ⟨fun a u e z=>by rw[upd_ne (ne_of_none e n)];exact k.1 a u e z,fun u e=>by
  obtain⟨o',h⟩:=k.2 u e;exact⟨o',by rw[upd_ne (ne_of_none e n)];exact h⟩⟩
theorem atI0{α:Type}(a:α)(r:List α):atI (a::r) 0=some a:=by
 have := @atI_nat α (a::r) 0 a rfl;simpa using this
theorem atI1{α:Type}(a b:α)(r:List α):atI (a::b::r) 1=some b := @atI_nat α (a::b::r) 1 b rfl
theorem atI2{α:Type}(a b c:α)(r:List α):atI (a::b::c::r) 2=some c := @atI_nat α (a::b::c::r) 2 c rfl
theorem atI3{α:Type}(a b c d:α)(r:List α):atI (a::b::c::d::r) 3=some d := @atI_nat α (a::b::c::d::r) 3 d rfl
theorem atI_of{α:Type}{xs:List α}{i:Int}(h0:0<=i)(h1:i<xs.length):∃v,atI xs i=some v/\xs[i.toNat]? = some v:=by
 have hl:i.toNat<xs.length:=by omega
 have e:xs[i.toNat]? = some (xs[i.toNat]'hl):=by simp[hl]
 refine⟨_,?_,e⟩;have:=atI_nat e
 rwa [Int.toNat_of_nonneg h0]at this
end RD
namespace RD
open PySem PySem.Spec L2
section
variable {t u:TS}{D:Ends}{σ:St}{H:Hp}{te ta tb tc to ti:TE}{tt tu:TT}{tr:TA}{Q:VK}{QB:Bool->Hp->Prop}{QA:List V->Hp->Prop}{QO:Option Int->Hp->Prop}{v x y:V}{i j:Int}{n:Nat}{r r':R2}{K:PySem.W.Frag}
theorem s_seq(h:t { D with nx:=u D } σ H):tSeq t u D σ H:=h
theorem s_cut{P:St->Hp->Prop}(tail:∀σ H,P σ H->u D σ H)(main:∀nx:St->Hp->Prop,(∀σ H,P σ H->nx σ H)->t { D with nx:=nx } σ H):tSeq t u D σ H:=main _ tail
theorem s_asg{g:TG}(h:te σ H fun x H1=>g x σ H1 D.nx):tAsg te g D σ H:=h
theorem s_gname{QS:St->Hp->Prop}(h:QS (σ.set n (some v)) H):gName n v σ H QS:=h
theorem s_gsub{QS:St->Hp->Prop}{ts:TSet}(h:to σ H fun o H1=>ti σ H1 fun i H2=>ts o i v H2 fun H3=>QS σ H3):gSub to ti ts v σ H QS:=h
theorem s_ret(h:te σ H D.rt):tRet te D σ H:=h
theorem s_drop(h:te σ H fun _ H1=>D.nx σ H1):tDrop te D σ H:=h
theorem s_if(h:tt σ H fun b H1=>if b=true then t D σ H1 else u D σ H1):tIfS tt t u D σ H:=h
theorem s_next(h:D.nx σ H):tNext D σ H:=h
theorem s_test(h:te σ H fun x H'=>∃k,x=.bl k/\QB k H'):tTest te σ H QB:=h
theorem s_tB(h:te σ H fun x H'=>∃k,x=.bl k/\QB k H'):tB te σ H QB:=h
theorem s_not(h:tt σ H fun c H1=>QB (!c) H1):tNot tt σ H QB:=h
theorem s_and(h:tt σ H fun c H1=>if c=true then tu σ H1 QB else QB false H1):tAnd tt tu σ H QB:=h
theorem s_or(h:tt σ H fun c H1=>if c=true then QB true H1 else tu σ H1 QB):tOr tt tu σ H QB:=h
theorem s_andV(h:ta σ H fun x H1=>∃c,x=.bl c/\if c=true then tb σ H1 Q else Q (.bl false) H1):tAndV ta tb σ H Q:=h
theorem s_orV(h:ta σ H fun x H1=>∃c,x=.bl c/\if c=true then Q (.bl true) H1 else tb σ H1 Q):tOrV ta tb σ H Q:=h
theorem s_notV(h:ta σ H fun x H1=>∃c,x=.bl c/\Q (.bl (!c)) H1):tNotV ta σ H Q:=h
theorem s_ifE(h:tt σ H fun c H1=>if c=true then ta σ H1 Q else tb σ H1 Q):tIf tt ta tb σ H Q:=h
theorem s_op(h:ta σ H fun x H1=>tb σ H1 fun y H2=>r x y H2 Q):tOp r ta tb σ H Q:=h
theorem s_chain(h:ta σ H fun x H1=>tb σ H1 fun y H2=>r x y H2 fun z H3=>∃k,z=.bl k/\(if k=true then tc σ H3 fun w' H4=>r' y w' H4 Q else Q (.bl false) H3)):tChain r r' ta tb tc σ H Q:=h
theorem s_un{f:V->Hp->VK->Prop}(h:ta σ H fun x H1=>f x H1 Q):tUn f ta σ H Q:=h
theorem s_neg(h:Q (.int (-i)) H):rU (fun i=>.int (-i)) (.int i) H Q:=⟨i,rfl,h⟩
theorem s_var(e:σ[n]? = some (some v))(h:Q v H):tVar n σ H Q:=⟨v,e,h⟩
theorem s_c(h:Q v H):tC v σ H Q:=h
theorem s_cons(h:te σ H fun x H1=>tr σ H1 fun xs H2=>QA (x::xs) H2):tCons te tr σ H QA:=h
theorem s_nil(h:QA [] H):tNil σ H QA:=h
theorem s_call{sp:Sp}{E:XK}(h:tr σ H fun vs H1=>sp (vs++[]) H1 Q E):tCall sp [] E tr σ H Q:=h
theorem s_cb{f:List V->Hp->VK->Prop}(h:tr σ H fun vs H1=>f vs H1 Q):tCB f tr σ H Q:=h
def New(o:HO)(n:Nat)(H:Hp)(Q:VK):Prop:=n<=sizeLine/\∀p,H p=none->Q (.ref p) (upd H p o)
theorem new_i{o:HO}{n:Nat}(hl:n<=100000)(h:∀p H',H p=none->H' p=some o->Same H H'->Q (.ref p) H'):New o n H Q:=
 ⟨Nat.le_trans hl (by rw[PySem.sizeLine_eq];decide),fun p hp=>h p _ hp upd_same (same_new hp)⟩
theorem s_tup(h:tr σ H fun xs H1=>New (.tup xs) xs.length H1 Q):tTup tr σ H Q:=h
theorem s_lst(h:tr σ H fun xs H1=>New (.lst xs) xs.length H1 Q):tLst tr σ H Q:=h
theorem s_sl{f:V->Option Int->Option Int->Hp->VK->Prop}{tl th:TO}(h:te σ H fun x H1=>tl σ H1 fun l H2=>th σ H2 fun u H3=>f x l u H3 Q):tSl f te tl th σ H Q:=h
theorem s_part(h:te σ H fun x H1=>∃i,x=.int i/\QO (some i) H1):tPart te σ H QO:=h
theorem s_nopart(h:QO none H):tNoPart σ H QO:=h
theorem s_true(h:QB true H):tTrue σ H QB:=h
theorem s_bm{f:V->List V->Hp->VK->Prop}(h:to σ H fun x H1=>tyV K "list" x H1/\tr σ H1 fun xs H2=>f x xs H2 Q):tBM K "list" f to tr σ H Q:=h
theorem s_bmS{s:Str}{f:V->List V->Hp->VK->Prop}(h:tr σ H fun xs H2=>f (.str s) xs H2 Q):tBM K "str" f (tC (.str s)) tr σ H Q:=⟨rfl,h⟩
theorem s_augS{tget:V->V->Hp->VK->Prop}{tip:TIp}{tset:TSet}(h:to σ H fun o H1=>ti σ H1 fun i H2=>tget o i H2 fun x H3=>te σ H3 fun y H4=>tip x y H4 fun z H5=>tset o i z H5 fun H6=>D.nx σ H6):tAugS to ti te tget tip tset D σ H:=h
theorem q_add(h:Q (.int (i+j)) H):qAdd (.int i) (.int j) H Q:=h
theorem q_addS{a b:Str}(hl:a.length+b.length<=sizeLine)(h:Q (.str (a++b)) H):qAdd (.str a) (.str b) H Q:=⟨hl,h⟩
theorem q_addL{a b:Addr}{xs ys:List V}(ha:H a=some (.lst xs))(hb:H b=some (.lst ys))(h:New (.lst (xs++ys)) (xs.length+ys.length) H Q):qAdd (.ref a) (.ref b) H Q:=by
 unfold qAdd;simp only[ha,hb];exact h
theorem q_int0{g:Int->Int->V}(h:Q (g i j) H):q2I0 g (.int i) (.int j) H Q:=h
theorem q_int{C:Int->Int->Prop}{g:Int->Int->V}(hc:C i j)(h:Q (g i j) H):q2I C g (.int i) (.int j) H Q:=⟨hc,h⟩
theorem q_ip{f:Int->Int->Int}(h:Q (.int (f i j)) H):ipI f (.int i) (.int j) H Q:=⟨i,j,rfl,rfl,h⟩
theorem q_ixL{p:Addr}{xs:List V}(hp:H p=some (.lst xs))(he:atI xs i=some v)(h:Q v H):qIx (.ref p) (.int i) H Q:=by
 unfold qIx;simp only[hp];exact⟨v,he,h⟩
theorem q_ixT{p:Addr}{xs:List V}(hp:H p=some (.tup xs))(he:atI xs i=some v)(h:Q v H):qIx (.ref p) (.int i) H Q:=by
 unfold qIx;simp only[hp];exact⟨v,he,h⟩
theorem q_ixS{z:Str}{c:Nat}(hz:z.length<=sizeLine)(he:atI z.cps.toList i=some c)(h:Q (.str ⟨#[c]⟩) H):qIx (.str z) (.int i) H Q:=⟨hz,c,he,h⟩
theorem q_set{p:Addr}{xs:List V}{QH:Hp->Prop}{k:Nat}(hp:H p=some (.lst xs))(he:ixN xs.length i=some k)(h:QH (upd H p (.lst (xs.set k v)))):qSet (.ref p) (.int i) v H QH:=by
 unfold qSet;simp only[hp];exact⟨k,he,h⟩
theorem q_get{p:Addr}{xs:List V}(hp:H p=some (.lst xs))(h0:0<=i)(he:xs[i.toNat]? = some v)(h:Q v H):qGet (.ref p) (.int i) H Q:=by
 unfold qGet;simp only[hp];exact⟨h0,v,he,h⟩
theorem q_lenL{p:Addr}{xs:List V}(hp:H p=some (.lst xs))(h:Q (.int xs.length) H):qLen [.ref p] H Q:=by
 unfold qLen;simp only[hp];exact h
theorem q_lenT{p:Addr}{xs:List V}(hp:H p=some (.tup xs))(h:Q (.int xs.length) H):qLen [.ref p] H Q:=by
 unfold qLen;simp only[hp];exact h
theorem q_lenS{z:Str}(hz:z.length<=sizeLine)(h:Q (.int z.length) H):qLen [.str z] H Q:=⟨hz,h⟩
theorem q_abs(h:Q (.int (if i<0 then -i else i)) H):qAbs [.int i] H Q:=h
theorem q_eq(hs:scal x y=true)(h:Q (.bl (decide (x=y))) H):qEq x y H Q:=⟨_,if_pos hs,h⟩
theorem q_ne(hs:scal x y=true)(h:Q (.bl (!decide (x=y))) H):qNe x y H Q:=⟨_,if_pos hs,h⟩
theorem eqO_tup{a b:Addr}{xs ys:List V}(ha:H a=some (.tup xs))(hb:H b=some (.tup ys))(fx:xs.all flatV=true)(fy:ys.all flatV=true):eqO (.ref a) (.ref b) H=some (flatEq xs ys):=by
 unfold eqO;rw[if_neg (by intro z;cases z)];simp only[ha,hb];rw[if_pos ⟨fx,fy⟩]
theorem eqO_lst{a b:Addr}{xs ys:List V}(ha:H a=some (.lst xs))(hb:H b=some (.lst ys))(fx:xs.all flatV=true)(fy:ys.all flatV=true):eqO (.ref a) (.ref b) H=some (flatEq xs ys):=by
 unfold eqO;rw[if_neg (by intro z;cases z)];simp only[ha,hb];rw[if_pos ⟨fx,fy⟩]
theorem eqO_nt{b:Addr}{ys:List V}(hb:H b=some (.tup ys)):eqO .non (.ref b) H=some false:=by
 unfold eqO;rw[if_neg (by intro z;cases z)];simp only[hb]
theorem q_inT{p:Addr}{xs:List V}(hp:H p=some (.tup xs))(hx:flatV x=true)(ha:xs.all flatV=true)(h:Q (.bl (inV x xs)) H):qIn false x (.ref p) H Q:=by
 unfold qIn;cases x <;> first | (simp only[hp];exact⟨hx,ha,h⟩) | cases hx
theorem q_ninL{p:Addr}{xs:List V}(hp:H p=some (.lst xs))(hx:flatV x=true)(ha:xs.all flatV=true)(h:Q (.bl (!inV x xs)) H):qIn true x (.ref p) H Q:=by
 unfold qIn;cases x <;> first | (simp only[hp];exact⟨hx,ha,h⟩) | cases hx
theorem q_append{l:Addr}{xs:List V}(hp:H l=some (.lst xs))(hl:xs.length<sizeLine)(h:Q .non (upd H l (.lst (xs++[y])))):qAppend (.ref l) [y] H Q:=by
 unfold qAppend;simp only[hp];exact⟨hl,h⟩
theorem q_slT{a:Addr}{xs:List V}{lo hi:Option Int}(ha:H a=some (.tup xs))(hw:¬(HT.sIx xs.length 0 lo=0/\HT.sIx xs.length xs.length hi=xs.length))(h:∀p H',H p=none->H' p=some (.tup (cutV xs lo hi))->Same H H'->Q (.ref p) H'):qSl (.ref a) lo hi H Q:=by
 unfold qSl;simp only[ha];exact⟨hw,fun p hp=>h p _ hp upd_same (same_new hp)⟩
theorem q_slL{a:Addr}{xs:List V}{lo hi:Option Int}(ha:H a=some (.lst xs))(h:∀p H',H p=none->H' p=some (.lst (cutV xs lo hi))->Same H H'->Q (.ref p) H'):qSl (.ref a) lo hi H Q:=by
 unfold qSl;simp only[ha];exact fun p hp=>h p _ hp upd_same (same_new hp)
theorem q_isi{s c:String}(e:tyName x H=some s)(hc:c∈kindsK)(h:Q (.bl (isKind s c)) H):qIsi [x,.ty c] H Q:=⟨s,e,hc,h⟩
theorem q_join{s:Str}{l:Addr}{xs:List V}{ss:List Str}(hp:H l=some (.lst xs))(e:strsOf xs=some ss)(hl:(ss.map (·.length)).sum+ss.length * s.length<=16777216)(h:Q (.str (Txt.join s ss)) H):qJoin (.str s) [.ref l] H Q:=by
 unfold qJoin;simp only[hp];exact⟨ss,e,hl,h⟩
end
end RD
namespace RD
open PySem PySem.Spec L2
section
variable {σ:St}{H1:Hp}{te:TE}{Q:VK}{D:Addr}{K:PySem.W.Frag}
theorem comp_rng{QD:Hp->Prop}{lo:Int}{n:Nat}(Pv:Nat->List V->Hp->Prop)(h0:Pv 0 [] (upd H1 D (.lst [])))(hP:∀i ys H,Pv i ys H->H D=some (.lst ys))
  (step:∀i ys H2,i<n->Pv i ys H2->∀R:VK,(∀y H5,H5 D=some (.lst ys)->ys.length<sizeLine->Pv (i+1) (ys++[y]) (upd H5 D (.lst (ys++[y])))->R y H5)->te (some (.int (lo+i))::σ) H2 R)
  (done:∀ys H2,Pv n ys H2->QD H2) :
  ∃W:Nat->Nat->List V->Hp->Prop,(∃m,W 0 m [] (upd H1 D (.lst [])))/\∀i m ys H2,W i m ys H2->H2 D=some (.lst ys) /\
   (((Itr lo n).stop i H2 ∧ QD H2) ∨ ((Itr lo n).go i H2 ∧ ∀ x H3, (Itr lo n).yld i H2 x H3 → tTrue (some x :: σ) H3 fun ok H4 => if ok = true then
     te (some x::σ) H4 (fun y H5=>H5 D=some (.lst ys)/\ys.length<sizeLine/\∃m',m'<m/\W (i+1) m' (ys++[y]) (upd H5 D (.lst (ys++[y]))))
     else ∃m',m'<m/\W (i+1) m' ys H4)):=by
 refine⟨fun i m ys H=>m=n - i/\i<=n/\Pv i ys H,⟨n,rfl,Nat.zero_le _,h0⟩,?_⟩;rintro i m ys H2 ⟨rfl,hi,p⟩;refine⟨hP i ys H2 p,?_⟩;by_cases hlt:i<n
 ·refine .inr ⟨hlt,fun x H3 y=>?_⟩
  obtain⟨e,y⟩:=y;subst e y;refine s_true ?_;rw[if_pos rfl];exact step i ys _ hlt p _ fun y H5 h1 h2 h3=>⟨h1,h2,n - (i+1),by omega,rfl,hlt,h3⟩
 ·have e:i=n:=by omega
  subst e;exact .inl ⟨Nat.le_refl _,done ys H2 p⟩
theorem comp_lst{QD:Hp->Prop}{a:Addr}{xs:List V}(Pv:Nat->List V->Hp->Prop)(h0:Pv 0 [] (upd H1 D (.lst [])))(hP:∀i ys H,Pv i ys H->H D=some (.lst ys))(hl:∀i ys H,i<=xs.length->Pv i ys H->SqL K H a xs)
  (step:∀i x ys H2,xs[i]? = some x->Pv i ys H2->∀R:VK,(∀y H5,H5 D=some (.lst ys)->ys.length<sizeLine->Pv (i+1) (ys++[y]) (upd H5 D (.lst (ys++[y])))->R y H5)->te (some x::σ) H2 R)
  (done:∀ys H2,Pv xs.length ys H2->QD H2) :
  ∃W:Nat->Nat->List V->Hp->Prop,(∃m,W 0 m [] (upd H1 D (.lst [])))/\∀i m ys H2,W i m ys H2->H2 D=some (.lst ys) /\
   (((Itl K a).stop i H2 ∧ QD H2) ∨ ((Itl K a).go i H2 ∧ ∀ x H3, (Itl K a).yld i H2 x H3 → tTrue (some x :: σ) H3 fun ok H4 => if ok = true then
     te (some x::σ) H4 (fun y H5=>H5 D=some (.lst ys)/\ys.length<sizeLine/\∃m',m'<m/\W (i+1) m' (ys++[y]) (upd H5 D (.lst (ys++[y]))))
     else ∃m',m'<m/\W (i+1) m' ys H4)):=by
 refine⟨fun i m ys H=>m=xs.length - i/\i<=xs.length/\Pv i ys H,⟨xs.length,rfl,Nat.zero_le _,h0⟩,?_⟩;rintro i m ys H2 ⟨rfl,hi,p⟩;refine⟨hP i ys H2 p,?_⟩;have q:=hl i ys H2 hi p;by_cases hlt:i<xs.length
 ·refine .inr ⟨⟨xs,xs[i],q,by simp[hlt]⟩,fun x H3 y=>?_⟩
  obtain⟨e,y⟩:=y;subst e;refine s_true ?_;rw[if_pos rfl];exact step i x ys _ (y xs q) p _ fun y H5 h1 h2 h3=>⟨h1,h2,xs.length - (i+1),by omega,rfl,hlt,h3⟩
 ·have e:i=xs.length:=by omega
  subst e;exact .inl ⟨⟨xs,q,Nat.le_refl _⟩,done ys H2 p⟩
theorem s_comp{wi:TI}{tt:TT}(h:wi σ H1 fun J H1=>∀D,H1 D=none->∃W:Nat->Nat->List V->Hp->Prop,
 (∃m,W 0 m [] (upd H1 D (.lst [])))/\∀i m ys H2,W i m ys H2->H2 D=some (.lst ys) /\
  ((J.stop i H2 ∧ Q (.ref D) H2) ∨ (J.go i H2 ∧ ∀ x H3, J.yld i H2 x H3 → tt (some x :: σ) H3 fun ok H4 => if ok = true then
    te (some x::σ) H4 (fun y H5=>H5 D=some (.lst ys)/\ys.length<sizeLine/\∃m',m'<m/\W (i+1) m' (ys++[y]) (upd H5 D (.lst (ys++[y]))))
    else ∃m',m'<m/\W (i+1) m' ys H4))):tComp wi tt te σ H1 Q:=h
theorem s_rng1{ta:TA}{R:It->Hp->Prop}(h:ta σ H1 fun vs H2=>∃j:Int,vs=[.int j] /\ -(2 ^ 62)<=j/\j<2 ^ 62/\R (Itr 0 j.toNat) H2):iRng1 ta σ H1 R:=h
theorem s_ilst{ta:TE}{R:It->Hp->Prop}(h:ta σ H1 fun x H2=>∃a,x=.ref a/\(∃xs,SqL K H2 a xs)/\R (Itl K a) H2):iList K ta σ H1 R:=h
theorem s_for{wi:TI}{g:TG}{tb:TS}{D:Ends}(h:wi σ H1 fun J H1=>∃W:Nat->Nat->St->Hp->Prop,(∃m,W 0 m σ H1)/\∀i m σ H,W i m σ H ->
 (J.stop i H/\D.nx σ H)\/(J.go i H/\∃N:St->Hp->Prop,(∀σ' H',N σ' H'->∃m',m'<m/\W (i+1) m' σ' H')/\∀x H',J.yld i H x H'->g x σ H' fun σ2 H2=>tb { D with nx:=N,ct:=N,bk:=D.nx } σ2 H2)):tFor wi g tb D σ H1:=h
end
def TSame(H H':Hp):Prop:=∀a xs,H a=some (.tup xs)->H' a=some (.tup xs)
theorem TSame.put{H:Hp}{p:Addr}{ys:List V}{o:HO}(h:H p=some (.lst ys)):TSame H (upd H p o):=fun a xs e=>by
 rw[upd_ne (ne_of e h (by intro z;cases z))];exact e
theorem Same.ts{H H':Hp}(s:Same H H'):TSame H H':=fun a xs h=>s a _ h
theorem Kept.ts{b c:Addr}{H H':Hp}(k:Kept b H H')(hB:Bag H b c):TSame H H':=fun a xs h=>by
 obtain⟨ys,hb⟩:=hB.lst;exact k.tup hb h
def OpV(v:V):Prop:=(∃s,v=.str s)\/∃n:Int,v=.int n/\0<=n/\n<1000000000000
def DeedAt(H:Hp)(p:Addr):Prop:=∃k v1 v2,H p=some (.tup [.str k,v1,v2])/\OpV v1/\OpV v2/\k∈(["plus", "minus", "times", "less", "same"]:List Str)
inductive RowIs(H:Hp):List V->Prop
 | set (n:Str) (p:Addr):DeedAt H p->RowIs H [.str "set", .str n,.ref p]
 | copy (n:Str) (v:V):OpV v->RowIs H [.str "copy", .str n,v]
 | take (n:Str):RowIs H [.str "take", .str n]
 | tell (v:V):OpV v->RowIs H [.str "tell", v]
 | ask (v:V):OpV v->RowIs H [.str "ask", v]
 | skip:RowIs H [.str "skip"]
structure Names(H:Hp)(a:Addr):Prop where
 ex:∃ss:List Str,H a=some (.lst (ss.map V.str))/\ss≠[]/\ss.length<=8
theorem small{n:Nat}(h:n<=100000):n<=sizeLine:=Nat.le_trans h (by rw[PySem.sizeLine_eq];decide)
theorem smallT{n:Nat}(h:n<100000):n<sizeLine:=Nat.lt_of_lt_of_le h (by rw[PySem.sizeLine_eq];decide)
theorem iteT'{c:Bool}{A B:Prop}(hc:c=true)(h:A):if c=true then A else B:=by rw[if_pos hc];exact h
theorem iteF'{c:Bool}{A B:Prop}(hc:c=false)(h:B):if c=true then A else B:=by rw[hc];exact L2.iteF h
end RD
namespace RD
open PySem PySem.Spec L2
section
variable {t u:TS}{D:Ends}{σ:St}{H H1:Hp}{te ta tb tc to ti:TE}{tt tu:TT}{tr:TA}{Q:VK}{QB:Bool->Hp->Prop}{QA:List V->Hp->Prop}{v x y:V}{i j:Int}{n:Nat}{K:PySem.W.Frag}
theorem s_dnew(h:∀p H',H p=none->H' p=some (.dK [])->Same H H'->Q (.ref p) H'):tDNewK σ H Q:=fun p hp=>h p _ hp upd_same (same_new hp)
theorem s_din(h:ti σ H fun y H1=>to σ H1 fun x H2=>∃a o,x=.ref a/\DGet H2 a y o/\Q (.bl o.isSome) H2):tDIn ti to σ H Q:=h
theorem s_dnotin(h:ti σ H fun y H1=>to σ H1 fun x H2=>∃a o,x=.ref a/\DGet H2 a y o/\Q (.bl (!o.isSome)) H2):tDNotIn ti to σ H Q:=h
theorem s_dput(h:te σ H fun v H1=>to σ H1 fun x H2=>ti σ H2 fun y H3=>∃a H4,x=.ref a/\DPut H3 a y v H4/\D.nx σ H4):sDPut to ti te D σ H:=h
theorem s_fld{f:Str}(h:ta σ H fun x H1=>∃a C dx fs v,x=.ref a/\H1 a=some (.ins C dx fs)/\Cls K C/\NoAttr K C f/\fs.lookup f=some v/\Q v H1):tFld K ta f σ H Q:=h
theorem s_sfld{f:Str}(h:te σ H fun y H1=>ta σ H1 fun x H2=>∃a C dx fs,x=.ref a/\H2 a=some (.ins C dx fs)/\Cls K C/\NoAttr K C f/\fs.length<1000/\D.nx σ (upd H2 a (.ins C dx (putF f y fs)))):sFld K ta te f D σ H:=h
theorem s_meth{C:Addr}{m:Str}{sp:Sp}{E:XK}(h:ta σ H fun x H1=>∃a dx fs,x=.ref a/\H1 a=some (.ins C dx fs)/\fs.lookup m=none/\tr σ H1 fun vs H2=>sp (x::(vs++[])) H2 Q E):tMeth C m sp [] E ta tr σ H Q:=h
theorem s_make{C:Addr}{sp:Sp}{E:XK}(h:tr σ H fun vs H1=>∀x dx,H1 x=none->H1 dx=none->dx≠x ->
 sp (.ref x::(vs++[])) (upd (upd H1 dx (.own x)) x (.ins C dx [])) (fun v H2=>v=.non/\Q (.ref x) H2) E):tMake C sp [] E tr σ H Q:=h
theorem s_bm0{f:V->List V->Hp->VK->Prop}(h:to σ H fun x H1=>tyV K "list" x H1/\f x [] H1 Q):tBM0 K "list" f to σ H Q:=h
theorem ty_list{p:Addr}{xs:List V}(h:H p=some (.lst xs)):tyV K "list" (.ref p) H:=.inl ⟨rfl,xs,SqL.of h⟩
theorem s_gpair{p:Addr}{a b:Nat}{QS:St->Hp->Prop}(hp:SqT K H p [x,y])(h:QS ((σ.set a (some x)).set b (some y)) H):gTup K 2 (gCons (gName a) (gCons (gName b) gNil)) (.ref p) σ H QS:=
 ⟨p,_,rfl,hp,rfl,_,_,rfl,_,_,rfl,rfl,h⟩
theorem s_ienum{R:It->Hp->Prop}(h:tr σ H fun vs H1=>∃a,vs=[.ref a]/\(∃xs,SqL K H1 a xs)/\R (Ite K a) H1):iEnum K tr σ H R:=h
theorem s_izip{R:It->Hp->Prop}(h:tr σ H fun vs H1=>∃a b,vs=[.ref a,.ref b]/\(∃xs,SqL K H1 a xs)/\(∃xs,SqL K H1 b xs)/\R (Itz K a b) H1):iZip K tr σ H R:=h
theorem s_while(h:∃W:Nat->St->Hp->Prop,(∃m,W m σ H)/\∀m σ H,W m σ H ->
 tt σ H fun b H1=>if b=true then ∃N:St->Hp->Prop,(∀σ' H',N σ' H'->∃m',m'<m/\W m' σ' H')/\t { D with nx:=N,ct:=N,bk:=D.nx } σ H1 else D.nx σ H1):tWhile tt t D σ H:=h
theorem s_setc{n:Nat}(h:te σ H fun v H1=>D.nx (σ.set n (some v)) H1):(fun D σ H=>te σ H fun v H1=>(D:Ends).nx (σ.set n (some v)) H1:TS) D σ H:=h
theorem s_compP{wi:TI}(h:wi σ H1 fun J H1=>∀D,H1 D=none->∃W:Nat->Nat->List V->Hp->Prop,
 (∃m,W 0 m [] (upd H1 D (.lst [])))/\∀i m ys H2,W i m ys H2->H2 D=some (.lst ys) /\
  ((J.stop i H2 ∧ Q (.ref D) H2) ∨ (J.go i H2 ∧ ∀ x H3, J.yld i H2 x H3 → ∃ a u v, x = .ref a ∧ SqT K H3 a [u, v] ∧ tt (some u :: some v :: σ) H3 fun ok H4 => if ok = true then
    te (some u::some v::σ) H4 (fun y H5=>H5 D=some (.lst ys)/\ys.length<sizeLine/\∃m',m'<m/\W (i+1) m' (ys++[y]) (upd H5 D (.lst (ys++[y]))))
    else ∃m',m'<m/\W (i+1) m' ys H4))):tCompP K wi tt te σ H1 Q:=h
theorem comp_p{J:It}{D:Addr}{QD:Hp->Prop}(n:Nat)(Pv:Nat->List V->Hp->Prop)(h0:Pv 0 [] (upd H1 D (.lst [])))(hP:∀i ys H,Pv i ys H->H D=some (.lst ys))(stop:∀ys H,Pv n ys H->J.stop n H/\QD H)(go:∀i ys H,i<n->Pv i ys H->J.go i H)
  (step:∀i ys H2,i<n->Pv i ys H2->∀x H3,J.yld i H2 x H3->∃a u v,x=.ref a/\SqT K H3 a [u,v]/\∀(R:VK) (S:Hp->Prop),(∀y H5,H5 D=some (.lst ys)->ys.length<sizeLine->Pv (i+1) (ys++[y]) (upd H5 D (.lst (ys++[y])))->R y H5)->(∀H4,Pv (i+1) ys H4->S H4) ->
   tt (some u::some v::σ) H3 fun ok H4=>if ok=true then te (some u::some v::σ) H4 R else S H4) :
  ∃W:Nat->Nat->List V->Hp->Prop,(∃m,W 0 m [] (upd H1 D (.lst [])))/\∀i m ys H2,W i m ys H2->H2 D=some (.lst ys) /\
   ((J.stop i H2 ∧ QD H2) ∨ (J.go i H2 ∧ ∀ x H3, J.yld i H2 x H3 → ∃ a u v, x = .ref a ∧ SqT K H3 a [u, v] ∧ tt (some u :: some v :: σ) H3 fun ok H4 => if ok = true then
     te (some u::some v::σ) H4 (fun y H5=>H5 D=some (.lst ys)/\ys.length<sizeLine/\∃m',m'<m/\W (i+1) m' (ys++[y]) (upd H5 D (.lst (ys++[y]))))
     else ∃m',m'<m/\W (i+1) m' ys H4)):=by
 refine⟨fun i m ys H=>m=n - i/\i<=n/\Pv i ys H,⟨n,rfl,Nat.zero_le _,h0⟩,?_⟩;rintro i m ys H2 ⟨rfl,hi,p⟩;refine⟨hP i ys H2 p,?_⟩;by_cases hlt:i<n
 ·refine .inr ⟨go i ys H2 hlt p,fun x H3 hy=>?_⟩
  obtain⟨a,u,v,e,hs,st⟩:=step i ys H2 hlt p x H3 hy;exact⟨a,u,v,e,hs,st _ _ (fun y H5 h1 h2 h3=>⟨h1,h2,n - (i+1),by omega,rfl,hlt,h3⟩) fun H4 h4=>⟨n - (i+1),by omega,rfl,hlt,h4⟩⟩
 ·have e:i=n:=by omega
  subst e;exact .inl (stop ys H2 p)
theorem for_i{J:It}{g:TG}{tb:TS}(n:Nat)(Pv:Nat->St->Hp->Prop)(h0:Pv 0 σ H)(stop:∀σ H,Pv n σ H->J.stop n H/\D.nx σ H)(go:∀i σ H,i<n->Pv i σ H->J.go i H)
  (hs:∀i σ H,i<n->Pv i σ H->∀x H',J.yld i H x H'->g x σ H' fun σ2 H2=>tb { D with nx:=Pv (i+1),ct:=Pv (i+1),bk:=D.nx } σ2 H2) :
  ∃W:Nat->Nat->St->Hp->Prop,(∃m,W 0 m σ H)/\∀i m σ H,W i m σ H ->
   (J.stop i H/\D.nx σ H)\/(J.go i H/\∃N:St->Hp->Prop,(∀σ' H',N σ' H'->∃m',m'<m/\W (i+1) m' σ' H')/\∀x H',J.yld i H x H'->g x σ H' fun σ2 H2=>tb { D with nx:=N,ct:=N,bk:=D.nx } σ2 H2):=by
 refine⟨fun i m σ H=>m=n - i/\i<=n/\Pv i σ H,⟨n,rfl,Nat.zero_le _,h0⟩,?_⟩;rintro i m σ H ⟨rfl,hi,p⟩;by_cases hlt:i<n
 ·exact .inr ⟨go i σ H hlt p,Pv (i+1),fun σ' H' p'=>⟨n - (i+1),by omega,rfl,hlt,p'⟩,fun x H' hy=>hs i σ H hlt p x H' hy⟩
 ·have e:i=n:=by omega
  subst e;exact .inl (stop σ H p)
theorem q_min(h:Q (.int (if j<i then j else i)) H):qMin [.int i,.int j] H Q:=h
theorem boolsOf_map(bs:List Bool):boolsOf (bs.map V.bl)=some bs:=by
 induction bs with
 | nil=>rfl
 | cons s r ih=>simp[boolsOf,ih]
theorem q_any{l:Addr}{bs:List Bool}(hl:H l=some (.lst (bs.map V.bl)))(h:Q (.bl (bs.any id)) H):qAny [.ref l] H Q:=by
 unfold qAny;simp only[hl];exact⟨bs,boolsOf_map bs,h⟩
theorem q_all{l:Addr}{bs:List Bool}(hl:H l=some (.lst (bs.map V.bl)))(h:Q (.bl (bs.all id)) H):qAll [.ref l] H Q:=by
 unfold qAll;simp only[hl];exact⟨bs,boolsOf_map bs,h⟩
theorem q_extend{l b:Addr}{xs zs:List V}(hl:H l=some (.lst xs))(hb:H b=some (.lst zs))(hz:xs.length+zs.length<=sizeLine)(h:Q .non (upd H l (.lst (xs++zs)))):qExtend (.ref l) [.ref b] H Q:=by
 unfold qExtend;simp only[hl,hb];exact⟨hz,h⟩
theorem q_pop{l:Addr}{xs:List V}{y:V}(hl:H l=some (.lst (xs++[y])))(h:Q y (upd H l (.lst xs))):qPop (.ref l) [] H Q:=by
 unfold qPop;simp only[hl];refine⟨y,by simp,?_⟩;simpa using h
theorem q_clear{l:Addr}{xs:List V}(hl:H l=some (.lst xs))(h:Q .non (upd H l (.lst []))):qClear (.ref l) [] H Q:=by
 unfold qClear;simp only[hl];exact h
theorem q_listL{p:Addr}{ys:List V}(hp:H p=some (.lst ys))(h:∀l H',H l=none->H' l=some (.lst ys)->Same H H'->Q (.ref l) H'):qList [.ref p] H Q:=by
 unfold qList;simp only[hp];exact fun l hl=>h l _ hl upd_same (same_new hl)
end
def IL(l:List Nat):List V:=l.map fun(n:Nat)=>V.int (n:Int)
theorem IL_len(l:List Nat):(IL l).length=l.length:=by simp[IL]
theorem IL_flat(l:List Nat):(IL l).all flatV=true:=by
 rw[List.all_eq_true];intro x hx;obtain⟨s,_,rfl⟩:=List.mem_map.mp hx;rfl
def KS(ks:List Nat):List (Key×V):=ks.map fun(k:Nat)=>(Sum.inl (k:Int),V.bl true)
theorem KS_val(ks:List Nat)(k:Nat):(valV (KS ks) (Sum.inl (k:Int))).isSome=decide (k∈ks):=by
 induction ks with
 | nil=>rfl
 | cons a r ih=>
  by_cases e:a=k
  ·subst e
   rw[show KS (a::r)=(Sum.inl (a:Int),V.bl true)::KS r from rfl,valV_pos rfl];simp
  ·rw[show KS (a::r)=(Sum.inl (a:Int),V.bl true)::KS r from rfl,valV_neg (by intro z;have:=Sum.inl.inj z;exact e (by omega)),ih]
   have:(k∈a::r)↔k∈r:=by
    rw[List.mem_cons];exact⟨fun h=>h.elim (fun z=>absurd z.symm e) id,.inr⟩
   simp[this]
def put1(ks:List Nat)(k:Nat):List Nat:=if k∈ks then ks else ks++[k]
theorem KS_put(ks:List Nat)(k:Nat):putK (KS ks) (Sum.inl (k:Int)) (V.bl true)=KS (put1 ks k):=by
 unfold putK put1;rw[valV_any,KS_val];by_cases h:k∈ks
 ·rw[if_pos (decide_eq_true h),if_pos h]
  unfold KS;rw[List.map_map];apply List.map_congr_left;intro a _;show(if(Sum.inl (a:Int):Key)=Sum.inl (k:Int)then ((Sum.inl (a:Int):Key),V.bl true)else ((Sum.inl (a:Int):Key),V.bl true))=_;split <;> rfl
 ·rw[if_neg (by simpa using h),if_neg h]
  simp[KS]
theorem mem_put1{ks:List Nat}{k j:Nat}:j∈put1 ks k↔j∈ks\/j=k:=by
 unfold put1;split
 ·rename_i h
  exact⟨.inl,fun q=>q.elim id fun z=>z ▸ h⟩
 ·simp
theorem nd_put1{ks:List Nat}{k:Nat}(h:ks.Nodup):(put1 ks k).Nodup:=by
 unfold put1;split
 ·exact h
 ·rename_i hk
  rw[List.nodup_append];exact⟨h,by simp,fun a ha b hb=>by rw[List.mem_singleton.mp hb];intro z;exact hk (z ▸ ha)⟩
theorem KS_len(ks:List Nat):(KS ks).length=ks.length:=by simp[KS]
theorem nd_le:∀(n:Nat) (ks:List Nat),ks.Nodup->(∀k∈ks,k<n)->ks.length<=n:=by
 intro n;induction n with
 | zero=>
  intro ks _ h;cases ks with
  | nil=>exact Nat.le_refl _
  | cons a r=>exact absurd (h a List.mem_cons_self) (Nat.not_lt_zero _)
 | succ n ih=>
  intro ks nd h;by_cases hn:n∈ks
  ·have:=ih (ks.erase n) (nd.erase n) fun k hk=>by
    have h1:=(List.Nodup.mem_erase_iff nd).mp hk;have:=h k h1.2;have:=h1.1;omega
   rw[List.length_erase_of_mem hn]at this;omega
  ·have:=ih ks nd fun k hk=>by
    have:=h k hk;have:k≠n:=fun z=>hn (z ▸ hk)
    omega
   omega
theorem dget_in{H:Hp}{d:Addr}{ks:List Nat}(h:H d=some (.dK (KS ks)))(k:Nat):∃o,DGet H d (.int (k:Int)) o/\o.isSome=decide (k∈ks):=⟨_,DGet.k (k:=Sum.inl (k:Int)) h,KS_val ks k⟩
theorem dput_in{H:Hp}{d:Addr}{ks:List Nat}(h:H d=some (.dK (KS ks)))(hl:ks.length<100000)(k:Nat):DPut H d (.int (k:Int)) (.bl true) (upd H d (.dK (KS (put1 ks k)))):=by
 rw[<-KS_put];exact DPut.k (k:=Sum.inl (k:Int)) h (smallT (by rw[KS_len];exact hl))
end RD
namespace RD
theorem nd_sub:∀(l m:List Nat),l.Nodup->(∀x∈l,x∈m)->l.length<=m.length
 | [],_,_,_=>Nat.zero_le _
 | a::r,m,nd,h=>by
  have ha:=h a List.mem_cons_self;have:=nd_sub r (m.erase a) (List.nodup_cons.mp nd).2 fun x hx=>(List.mem_erase_of_ne (show x≠a from fun z=>(List.nodup_cons.mp nd).1 (z ▸ hx))).mpr (h x (List.mem_cons_of_mem _ hx))
  rw[List.length_erase_of_mem ha]at this;have:=List.length_pos_of_mem ha;rw[List.length_cons];omega
inductive Gd(N:List (List Nat)):Nat->Prop
 | stop {k:Nat}:N[k]? = some []->Gd N k
 | step {k t:Nat} {l:List Nat}:N[k]? = some l->t∈l->Gd N t->Gd N k
inductive Rc(N:List (List Nat)):Nat->Prop
 | zero:Rc N 0
 | step {k t:Nat} {l:List Nat}:Rc N k->N[k]? = some l->t∈l->Rc N t
structure Valid(N:List (List Nat)):Prop where
 pos:0<N.length
 le:N.length<=400
 two:∀l∈N,l.length<=2
 lt:∀l∈N,∀t∈l,t<N.length
 rc:∀k,k<N.length->Rc N k
 gd:∀k,k<N.length->Gd N k
def mend1(N:List (List Nat))(G:List Nat):List (List Nat):=(List.range N.length).map fun k=>if k∈G then N.getD k [] else (N.length - 1)::(N.getD k []).drop 1
theorem mend1_len(N:List (List Nat))(G:List Nat):(mend1 N G).length=N.length:=by simp[mend1]
theorem mend1_at{N:List (List Nat)}{G:List Nat}{k:Nat}(h:k<N.length):(mend1 N G)[k]? = some (if k∈G then N.getD k [] else (N.length - 1)::(N.getD k []).drop 1):=by
 unfold mend1;rw[List.getElem?_map,List.getElem?_range h];rfl
theorem mend1_in{N:List (List Nat)}{G:List Nat}{k:Nat}{l:List Nat}(h:N[k]? = some l)(hk:k∈G):(mend1 N G)[k]? = some l:=by
 have hl:=(List.getElem?_eq_some_iff.mp h).1;rw[mend1_at hl,if_pos hk];simp[List.getD,h]
theorem mend1_out{N:List (List Nat)}{G:List Nat}{k:Nat}{l:List Nat}(h:N[k]? = some l)(hk:¬k∈G):(mend1 N G)[k]? = some ((N.length - 1)::l.drop 1):=by
 have hl:=(List.getElem?_eq_some_iff.mp h).1;rw[mend1_at hl,if_neg hk];simp[List.getD,h]
theorem gd_mend{N:List (List Nat)}{G:List Nat}(hG:∀k∈G,Gd N k)(hl:N[N.length - 1]? = some [])(hm:N.length - 1∈G):∀k,k<N.length->Gd (mend1 N G) k:=by
 have last:Gd (mend1 N G) (N.length - 1):=.stop (mend1_in hl hm);have out:∀k,k<N.length->¬k∈G->Gd (mend1 N G) k:=fun k hk h=>.step (mend1_out (l:=N[k]) (by simp) h) List.mem_cons_self last
 have go:∀k,Gd N k->Gd (mend1 N G) k:=by
  intro k h;induction h with
  | @stop k h=>
   by_cases hk:k∈G
   ·exact .stop (mend1_in h hk)
   ·exact out k (List.getElem?_eq_some_iff.mp h).1 hk
  | @step k t l h ht _ ih=>
   by_cases hk:k∈G
   ·exact .step (mend1_in h hk) ht ih
   ·exact out k (List.getElem?_eq_some_iff.mp h).1 hk
 intro k hk;by_cases h:k∈G
 ·exact go k (hG k h)
 ·exact out k hk h
theorem mend1_small{N:List (List Nat)}{G:List Nat}(hp:0<N.length)(hs:∀l∈N,l.length<=2/\∀t∈l,t<N.length)(hl:N[N.length - 1]? = some [])(hm:N.length - 1∈G):∀l∈mend1 N G,l.length<=2/\∀t∈l,t<N.length:=by
 intro l hl';obtain⟨k,hk⟩:=List.mem_iff_getElem?.mp hl';have hkl:k<N.length:=by have:=(List.getElem?_eq_some_iff.mp hk).1;rwa [mend1_len]at this
 rw[mend1_at hkl]at hk;have e:N.getD k []=N[k]:=by simp[List.getD,hkl]
 rw[e]at hk;obtain⟨h1,h2⟩:=hs N[k] (List.getElem_mem _);by_cases hg:k∈G
 ·rw[if_pos hg]at hk
  cases hk;exact⟨h1,h2⟩
 ·rw[if_neg hg]at hk
  cases hk;refine⟨?_,fun t ht=>?_⟩
  ·rw[List.length_cons,List.length_drop];omega
  ·rcases List.mem_cons.mp ht with z | z
   ·omega
   ·exact h2 t (List.drop_subset _ _ z)
def sub1(N:List (List Nat))(O:List Nat):List (List Nat):=O.map fun k=>(N.getD k []).map fun t=>O.idxOf t
theorem idx_lt{O:List Nat}{t:Nat}(h:t∈O):O.idxOf t<O.length:=List.idxOf_lt_length_iff.mpr h
theorem sub1_at{N:List (List Nat)}{O:List Nat}{k:Nat}{l:List Nat}(hk:k∈O)(h:N[k]? = some l):(sub1 N O)[O.idxOf k]? = some (l.map fun t=>O.idxOf t):=by
 unfold sub1
 have:O[O.idxOf k]? = some k:=by
  rw[List.getElem?_eq_getElem (idx_lt hk)];simp
 rw[List.getElem?_map,this];simp[List.getD,h]
theorem first_zero{O:List Nat}(h0:0∈O)(hs:O.Pairwise (· <= ·)):O.idxOf 0=0:=by
 cases O with
 | nil=>cases h0
 | cons a r=>
  have:a=0:=by
   rcases List.mem_cons.mp h0 with z | z
   ·exact z.symm
   ·have:=(List.pairwise_cons.mp hs).1 0 z
    omega
  subst this;simp
theorem valid_sub{N:List (List Nat)}{O:List Nat}(h0:0∈O)(hs:O.Pairwise (· <= ·))(hnd:O.Nodup)(hlt:∀k∈O,k<N.length)(hN:N.length<=400)(hcl:∀k∈O,∀l,N[k]? = some l->∀t∈l,t∈O)(hrc:∀k∈O,Rc N k)
  (hsm:∀l∈N,l.length<=2) (hgd:∀k,k<N.length->Gd N k):Valid (sub1 N O):=by
 have hlen:(sub1 N O).length=O.length:=by simp[sub1]
 have rc:∀k,Rc N k->k∈O/\Rc (sub1 N O) (O.idxOf k):=by
  intro k h;induction h with
  | zero=>
   refine⟨h0,?_⟩;rw[first_zero h0 hs];exact .zero
  | @step k t l _ hl ht ih=>
   obtain⟨i1,i2⟩:=ih;exact⟨hcl k i1 l hl t ht,.step i2 (sub1_at i1 hl) (List.mem_map.mpr ⟨t,ht,rfl⟩)⟩
 have gd:∀k,Gd N k->k∈O->Gd (sub1 N O) (O.idxOf k):=by
  intro k h;induction h with
  | @stop k h=>
   intro hk;exact .stop (by rw[sub1_at hk h];rfl)
  | @step k t l h ht _ ih=>
   intro hk;exact .step (sub1_at hk h) (List.mem_map.mpr ⟨t,ht,rfl⟩) (ih (hcl k hk l h t ht))
 have at_:∀i,i<O.length->∃k∈O,O.idxOf k=i:=fun i hi=>⟨O[i],List.getElem_mem _,hnd.idxOf_getElem i hi⟩
 have mem:∀l∈sub1 N O,∃k∈O,∃l',N[k]? = some l'/\l=l'.map fun t=>O.idxOf t:=by
  intro l hl;obtain⟨k,hk,rfl⟩:=List.mem_map.mp hl;refine⟨k,hk,N[k]'(hlt k hk),by simp[hlt k hk],?_⟩;simp[List.getD,hlt k hk]
 refine⟨?_,?_,fun l hl=>?_,fun l hl t ht=>?_,fun i hi=>?_,fun i hi=>?_⟩
 ·rw[hlen]
  exact List.length_pos_of_mem h0
 ·rw[hlen]
  exact Nat.le_trans (nd_le _ _ hnd hlt) hN
 ·obtain⟨k,hk,l',e,rfl⟩:=mem l hl
  rw[List.length_map];exact hsm l' (List.mem_of_getElem? e)
 ·obtain⟨k,hk,l',e,rfl⟩:=mem l hl
  obtain⟨t',ht',rfl⟩:=List.mem_map.mp ht;rw[hlen];exact idx_lt (hcl k hk l' e t' ht')
 ·rw[hlen]at hi
  obtain⟨k,hk,rfl⟩:=at_ i hi;exact(rc k (hrc k hk)).2
 ·rw[hlen]at hi
  obtain⟨k,hk,rfl⟩:=at_ i hi;exact gd k (hgd k (hlt k hk)) hk
end RD
namespace RD
open PySem PySem.Spec PyProof.Rows L2
structure Cn where
 C_Plan:Addr
 C_Ready:Addr
 C_Wanted:Addr
 k_DEED_KINDS:Addr
 k_FIRST_STEP:Addr
structure CnOk(K:PySem.W.Frag)(c:Cn):Prop where
 cls_Plan:Cls K c.C_Plan
 na_Plan_come_by:NoAttr K c.C_Plan "come_by"
 na_Plan_deed:NoAttr K c.C_Plan "deed"
 na_Plan_entries:NoAttr K c.C_Plan "entries"
 na_Plan_goes_by:NoAttr K c.C_Plan "goes_by"
 na_Plan_nexts:NoAttr K c.C_Plan "nexts"
 na_Plan_plan:NoAttr K c.C_Plan "plan"
 na_Plan_rows:NoAttr K c.C_Plan "rows"
 cls_Ready:Cls K c.C_Ready
 na_Ready_come_by:NoAttr K c.C_Ready "come_by"
 na_Ready_deed:NoAttr K c.C_Ready "deed"
 na_Ready_entries:NoAttr K c.C_Ready "entries"
 na_Ready_goes_by:NoAttr K c.C_Ready "goes_by"
 na_Ready_nexts:NoAttr K c.C_Ready "nexts"
 na_Ready_plan:NoAttr K c.C_Ready "plan"
 na_Ready_rows:NoAttr K c.C_Ready "rows"
 cls_Wanted:Cls K c.C_Wanted
 na_Wanted_come_by:NoAttr K c.C_Wanted "come_by"
 na_Wanted_deed:NoAttr K c.C_Wanted "deed"
 na_Wanted_entries:NoAttr K c.C_Wanted "entries"
 na_Wanted_goes_by:NoAttr K c.C_Wanted "goes_by"
 na_Wanted_nexts:NoAttr K c.C_Wanted "nexts"
 na_Wanted_plan:NoAttr K c.C_Wanted "plan"
 na_Wanted_rows:NoAttr K c.C_Wanted "rows"
 t_DEED_KINDS:∀H,SqT K H c.k_DEED_KINDS [.str "plus", .str "minus", .str "times", .str "less", .str "same"]
 t_FIRST_STEP:∀H,SqT K H c.k_FIRST_STEP [.int (-1),.int (0)]
def t_bag(K:PySem.W.Frag):TS:=tRet (tLst (tCons (tC (.int 0)) (tCons (tC (.int 1234567891)) (tCons (tC (.int 0)) (tCons (tComp (iList K (tSl (rSlL K) (tVar 0) (tNoPart) (tPart (tC (.int 63))))) (tTrue) (tCB qAbs (tCons (tVar 0) (tNil)))) (tNil))))))
def sp_bag(K:PySem.W.Frag):Sp:=fun vs H Q _=>vs.length=1/\t_bag K { nx:=fun _ H'=>Q .non H',rt:=Q } (vs.map some++List.replicate (1 - vs.length) none) H
def t_take(K:PySem.W.Frag):TS:=tSeq (tIfS (tTest (tOp qEq (tOp qIx (tVar 0) (tC (.int 0))) (tC (.int 0)))) (tSeq (tAsg (tC (.int 12345)) (gName 2)) (tSeq (tIfS (tTest (tOp qLt (tOp qIx (tVar 0) (tC (.int 2))) (tCB qLen (tCons (tOp qIx (tVar 0) (tC (.int 3))) (tNil))))) (tSeq (tAsg (tOp qIx (tOp qIx (tVar 0) (tC (.int 3))) (tOp qIx (tVar 0) (tC (.int 2)))) (gName 3)) (tSeq (tAugS (tVar 0) (tC (.int 2)) (tC (.int 1)) qGet (ipI fun i j=>i+j) qSet) (tSeq (tIfS (tTest (tOp qGe (tVar 3) (tC (.int 1000000000000000000)))) (tAsg (tVar 3) (gSub (tVar 0) (tC (.int 0)) qSet)) (tNext)) (tAsg (tOp qAdd (tOp qMod (tVar 3) (tC (.int 2147483647))) (tC (.int 1))) (gName 2))))) (tNext)) (tAsg (tOp qMod (tOp qAdd (tOp qMul (tOp qIx (tVar 0) (tC (.int 1))) (tC (.int 48271))) (tVar 2)) (tC (.int 2147483647))) (gSub (tVar 0) (tC (.int 1)) qSet)))) (tNext)) (tSeq (tIfS (tTest (tOp qGt (tOp qIx (tVar 0) (tC (.int 0))) (tC (.int 0)))) (tSeq (tAsg (tOp qMod (tOp qIx (tVar 0) (tC (.int 0))) (tVar 1)) (gName 4)) (tSeq (tAsg (tOp qDiv (tOp qIx (tVar 0) (tC (.int 0))) (tVar 1)) (gSub (tVar 0) (tC (.int 0)) qSet)) (tRet (tVar 4)))) (tNext)) (tSeq (tAsg (tOp qMod (tOp qMul (tOp qIx (tVar 0) (tC (.int 1))) (tC (.int 39373))) (tC (.int 1000000007))) (gName 5)) (tSeq (tAsg (tOp qMod (tOp qMul (tVar 5) (tC (.int 30011))) (tC (.int 998244353))) (gName 6)) (tSeq (tIfS (tTest (tOp qGt (tVar 1) (tC (.int 1000000)))) (tRet (tOp qMod (tOp qAdd (tOp qMul (tVar 6) (tC (.int 1000000000))) (tVar 5)) (tVar 1))) (tNext)) (tRet (tOp qMod (tOp qDiv (tVar 6) (tC (.int 3))) (tVar 1)))))))
def sp_take(K:PySem.W.Frag):Sp:=fun vs H Q _=>vs.length=2/\t_take K { nx:=fun _ H'=>Q .non H',rt:=Q } (vs.map some++List.replicate (7 - vs.length) none) H
def t_net(K:PySem.W.Frag):TS:=tSeq (tAsg (tLst (tNil)) (gName 2)) (tSeq (tFor (iRng1 (tCons (tVar 1) (tNil))) (gName 3) (tSeq (tAsg (tCB qMin (tCons (tOp qAdd (tVar 3) (tC (.int 1))) (tCons (tOp qSub (tVar 1) (tC (.int 1))) (tNil)))) (gName 4)) (tSeq (tAsg (tLst (tCons (tVar 4) (tCons (tCall (sp_take K) [] E0 (tCons (tVar 0) (tCons (tVar 1) (tNil)))) (tNil)))) (gName 5)) (tSeq (tAsg (tCall (sp_take K) [] E0 (tCons (tVar 0) (tCons (tC (.int 8)) (tNil)))) (gName 6)) (tSeq (tIfS (tTest (tOp qLt (tVar 6) (tC (.int 3)))) (tAsg (tLst (tCons (tOp qIx (tVar 5) (tC (.int 1))) (tCons (tVar 4) (tNil)))) (gName 5)) (tNext)) (tSeq (tIfS (tTest (tOp qEq (tVar 6) (tC (.int 3)))) (tAsg (tLst (tCons (tOp qIx (tVar 5) (tC (.int 1))) (tCons (tCall (sp_take K) [] E0 (tCons (tVar 0) (tCons (tVar 1) (tNil)))) (tNil)))) (gName 5)) (tNext)) (tSeq (tIfS (tOr (tAnd (tTest (tOp qGt (tVar 6) (tC (.int 3)))) (tTest (tOp qLt (tVar 6) (tC (.int 7))))) (tTest (tOp qEq (tVar 1) (tC (.int 1))))) (tAsg (tLst (tCons (tVar 4) (tNil))) (gName 5)) (tNext)) (tSeq (tIfS (tTest (tOp qEq (tVar 6) (tC (.int 7)))) (tAsg (tLst (tCons (tOp qIx (tVar 5) (tUn (rU fun i=>.int (-i)) (tC (.int 1)))) (tNil))) (gName 5)) (tNext)) (tSeq (tIfS (tOr (tTest (tOp qEq (tVar 3) (tOp qSub (tVar 1) (tC (.int 1))))) (tAnd (tTest (tOp qEq (tVar 6) (tC (.int 6)))) (tTest (tOp qEq (tCall (sp_take K) [] E0 (tCons (tVar 0) (tCons (tC (.int 4)) (tNil)))) (tC (.int 0)))))) (tAsg (tLst (tNil)) (gName 5)) (tNext)) (tDrop (tBM K "list" qAppend (tVar 2) (tCons (tVar 5) (tNil))))))))))))) (tRet (tVar 2)))
def sp_net(K:PySem.W.Frag):Sp:=fun vs H Q _=>vs.length=2/\t_net K { nx:=fun _ H'=>Q .non H',rt:=Q } (vs.map some++List.replicate (7 - vs.length) none) H
def t_mended(K:PySem.W.Frag):TS:=tSeq (tAsg (tDNewK) (gName 1)) (tSeq (tFor (iRng1 (tCons (tCB qLen (tCons (tVar 0) (tNil))) (tNil))) (gName 2) (tFor (iRng1 (tCons (tCB qLen (tCons (tVar 0) (tNil))) (tNil))) (gName 3) (tIfS (tOr (tTest (tOp qEq (tOp qIx (tVar 0) (tVar 3)) (tLst (tNil)))) (tB (tCB qAny (tCons (tComp (iList K (tOp qIx (tVar 0) (tVar 3))) (tTrue) (tDIn (tVar 0) (tVar 2))) (tNil))))) (sDPut (tVar 1) (tVar 3) (tC (.bl true))) (tNext)))) (tSeq (tAsg (tComp (iRng1 (tCons (tCB qLen (tCons (tVar 0) (tNil))) (tNil))) (tTrue) (tIf (tB (tDIn (tVar 0) (tVar 2))) (tOp qIx (tVar 1) (tVar 0)) (tOp qAdd (tLst (tCons (tOp qSub (tCB qLen (tCons (tVar 1) (tNil))) (tC (.int 1))) (tNil))) (tSl qSl (tOp qIx (tVar 1) (tVar 0)) (tPart (tC (.int 1))) (tNoPart))))) (gName 0)) (tSeq (tAsg (tDisp ((tC (.int 0),tC (.bl true))::[])) (gName 4)) (tSeq (tFor (iRng1 (tCons (tCB qLen (tCons (tVar 0) (tNil))) (tNil))) (gName 2) (tFor (iRng1 (tCons (tCB qLen (tCons (tVar 0) (tNil))) (tNil))) (gName 3) (tIfS (tB (tDIn (tVar 3) (tVar 4))) (tFor (iList K (tOp qIx (tVar 0) (tVar 3))) (gName 5) (sDPut (tVar 4) (tVar 5) (tC (.bl true)))) (tNext)))) (tSeq (tAsg (tCB qSorted (tCons (tCB qListD (tCons (tVar 4) (tNil))) (tNil))) (gName 6)) (tRet (tComp (iList K (tVar 6)) (tTrue) (tComp (iList K (tOp qIx (tVar 1) (tVar 0))) (tTrue) (tBM K "list" qIndex (tVar 8) (tCons (tVar 0) (tNil)))))))))))
def sp_mended(K:PySem.W.Frag):Sp:=fun vs H Q _=>vs.length=1/\t_mended K { nx:=fun _ H'=>Q .non H',rt:=Q } (vs.map some++List.replicate (7 - vs.length) none) H
def t_base(K:PySem.W.Frag):TS:=tSeq (tAsg (tC (.str "abcdefghijklmnopqrstuvwxyz")) (gName 2)) (tSeq (tAsg (tOp qAdd (tVar 2) (tC (.str "0123456789"))) (gName 3)) (tRet (tOp qAdd (tLst (tCons (tOp qIx (tVar 2) (tCall (sp_take K) [] E0 (tCons (tVar 0) (tCons (tC (.int 26)) (tNil))))) (tNil))) (tComp (iRng1 (tCons (tOp qSub (tVar 1) (tC (.int 1))) (tNil))) (tTrue) (tOp qIx (tVar 4) (tCall (sp_take K) [] E0 (tCons (tVar 1) (tCons (tC (.int 36)) (tNil)))))))))
def sp_base(K:PySem.W.Frag):Sp:=fun vs H Q _=>vs.length=2/\t_base K { nx:=fun _ H'=>Q .non H',rt:=Q } (vs.map some++List.replicate (4 - vs.length) none) H
def t_names(K:PySem.W.Frag):TS:=tSeq (tAsg (tC (.str "abcdefghijklmnopqrstuvwxyz")) (gName 2)) (tSeq (tAsg (tOp qAdd (tC (.int 1)) (tCall (sp_take K) [] E0 (tCons (tVar 0) (tCons (tC (.int 8)) (tNil))))) (gName 3)) (tSeq (tAsg (tLst (tCons (tCall (sp_base K) [] E0 (tCons (tVar 0) (tCons (tVar 3) (tNil)))) (tCons (tCall (sp_base K) [] E0 (tCons (tVar 0) (tCons (tOp qAdd (tOp qMod (tVar 3) (tC (.int 8))) (tC (.int 1))) (tNil)))) (tNil)))) (gName 4)) (tSeq (tAsg (tLst (tCons (tCall (sp_take K) [] E0 (tCons (tVar 0) (tCons (tVar 3) (tNil)))) (tCons (tCall (sp_take K) [] E0 (tCons (tVar 0) (tCons (tOp qAdd (tOp qMod (tVar 3) (tC (.int 8))) (tC (.int 1))) (tNil)))) (tNil)))) (gName 5)) (tSeq (tAsg (tCall (sp_take K) [] E0 (tCons (tVar 0) (tCons (tC (.int 26)) (tNil)))) (gName 6)) (tSeq (tAsg (tLst (tNil)) (gName 7)) (tSeq (tFor (iRng1 (tCons (tVar 1) (tNil))) (gName 8) (tSeq (tAsg (tCB qList (tCons (tOp qIx (tVar 4) (tOp qMod (tVar 8) (tC (.int 2)))) (tNil))) (gName 9)) (tSeq (tAsg (tOp qIx (tVar 2) (tOp qMod (tOp qAdd (tVar 6) (tOp qDiv (tVar 8) (tC (.int 2)))) (tC (.int 26)))) (gSub (tVar 9) (tOp qIx (tVar 5) (tOp qMod (tVar 8) (tC (.int 2)))) qSet)) (tDrop (tBM K "list" qAppend (tVar 7) (tCons (tBM K "str" qJoin (tC (.str "")) (tCons (tVar 9) (tNil))) (tNil))))))) (tSeq (tAsg (tOp qIx (tLst (tCons (tC (.str "k0")) (tCons (tC (.str "k1")) (tCons (tC (.str "set")) (tCons (tC (.str "ask")) (tCons (tC (.str "plus")) (tCons (tC (.str "k2")) (tNil)))))))) (tCall (sp_take K) [] E0 (tCons (tVar 0) (tCons (tC (.int 6)) (tNil))))) (gName 10)) (tSeq (tIfS (tAnd (tTest (tOp qEq (tCall (sp_take K) [] E0 (tCons (tVar 0) (tCons (tC (.int 2)) (tNil)))) (tC (.int 0)))) (tTest (tOp (qIn true) (tVar 10) (tVar 7)))) (tAsg (tVar 10) (gSub (tVar 7) (tCall (sp_take K) [] E0 (tCons (tVar 0) (tCons (tVar 1) (tNil)))) qSet)) (tNext)) (tRet (tVar 7))))))))))
def sp_names(K:PySem.W.Frag):Sp:=fun vs H Q _=>vs.length=2/\t_names K { nx:=fun _ H'=>Q .non H',rt:=Q } (vs.map some++List.replicate (11 - vs.length) none) H
def t_value(K:PySem.W.Frag):TS:=tRet (tOp qIx (tLst (tCons (tC (.int 0)) (tCons (tC (.int 1)) (tCons (tC (.int 2)) (tCons (tC (.int 999999999999)) (tCons (tCall (sp_take K) [] E0 (tCons (tVar 0) (tCons (tC (.int 1000000000000)) (tNil)))) (tNil))))))) (tCall (sp_take K) [] E0 (tCons (tVar 0) (tCons (tC (.int 5)) (tNil)))))
def sp_value(K:PySem.W.Frag):Sp:=fun vs H Q _=>vs.length=1/\t_value K { nx:=fun _ H'=>Q .non H',rt:=Q } (vs.map some++List.replicate (1 - vs.length) none) H
def t_operand(K:PySem.W.Frag):TS:=tSeq (tIfS (tTest (tOp qEq (tCall (sp_take K) [] E0 (tCons (tVar 0) (tCons (tC (.int 4)) (tNil)))) (tC (.int 0)))) (tRet (tCall (sp_value K) [] E0 (tCons (tVar 0) (tNil)))) (tNext)) (tRet (tOp qIx (tVar 1) (tCall (sp_take K) [] E0 (tCons (tVar 0) (tCons (tCB qLen (tCons (tVar 1) (tNil))) (tNil))))))
def sp_operand(K:PySem.W.Frag):Sp:=fun vs H Q _=>vs.length=2/\t_operand K { nx:=fun _ H'=>Q .non H',rt:=Q } (vs.map some++List.replicate (2 - vs.length) none) H
def t_deed(K:PySem.W.Frag):TS:=tSeq (tAsg (tOp qIx (tLst (tCons (tC (.str "plus")) (tCons (tC (.str "minus")) (tCons (tC (.str "times")) (tCons (tC (.str "less")) (tCons (tC (.str "same")) (tNil))))))) (tCall (sp_take K) [] E0 (tCons (tVar 0) (tCons (tC (.int 5)) (tNil))))) (gName 2)) (tRet (tTup (tCons (tVar 2) (tCons (tCall (sp_operand K) [] E0 (tCons (tVar 0) (tCons (tVar 1) (tNil)))) (tCons (tCall (sp_operand K) [] E0 (tCons (tVar 0) (tCons (tVar 1) (tNil)))) (tNil))))))
def sp_deed(K:PySem.W.Frag):Sp:=fun vs H Q _=>vs.length=2/\t_deed K { nx:=fun _ H'=>Q .non H',rt:=Q } (vs.map some++List.replicate (3 - vs.length) none) H
def t_row(K:PySem.W.Frag):TS:=tSeq (tAsg (tOp qIx (tVar 1) (tCall (sp_take K) [] E0 (tCons (tVar 0) (tCons (tCB qLen (tCons (tVar 1) (tNil))) (tNil))))) (gName 4)) (tSeq (tIfS (tTest (tOp qGt (tCall (sp_take K) [] E0 (tCons (tVar 0) (tCons (tC (.int 3)) (tNil)))) (tC (.int 0)))) (tAsg (tOp qIx (tVar 1) (tOp qAdd (tVar 2) (tCall (sp_take K) [] E0 (tCons (tVar 0) (tCons (tOp qSub (tCB qLen (tCons (tVar 1) (tNil))) (tVar 2)) (tNil)))))) (gName 4)) (tNext)) (tSeq (tAsg (tCall (sp_take K) [] E0 (tCons (tVar 0) (tCons (tC (.int 8)) (tNil)))) (gName 5)) (tSeq (tIfS (tTest (tOp qLt (tVar 5) (tC (.int 5)))) (tRet (tTup (tCons (tC (.str "set")) (tCons (tVar 4) (tCons (tOp qIx (tVar 3) (tCall (sp_take K) [] E0 (tCons (tVar 0) (tCons (tCB qLen (tCons (tVar 3) (tNil))) (tNil))))) (tNil)))))) (tNext)) (tSeq (tIfS (tTest (tOp qEq (tVar 5) (tC (.int 5)))) (tRet (tTup (tCons (tC (.str "copy")) (tCons (tVar 4) (tCons (tCall (sp_operand K) [] E0 (tCons (tVar 0) (tCons (tVar 1) (tNil)))) (tNil)))))) (tNext)) (tSeq (tIfS (tTest (tOp qEq (tVar 5) (tC (.int 6)))) (tRet (tOp qIx (tLst (tCons (tTup (tCons (tC (.str "take")) (tCons (tVar 4) (tNil)))) (tCons (tTup (tCons (tC (.str "tell")) (tCons (tCall (sp_operand K) [] E0 (tCons (tVar 0) (tCons (tVar 1) (tNil)))) (tNil)))) (tNil)))) (tCall (sp_take K) [] E0 (tCons (tVar 0) (tCons (tC (.int 2)) (tNil)))))) (tNext)) (tRet (tTup (tCons (tC (.str "skip")) (tNil)))))))))
def sp_row(K:PySem.W.Frag):Sp:=fun vs H Q _=>vs.length=4/\t_row K { nx:=fun _ H'=>Q .non H',rt:=Q } (vs.map some++List.replicate (6 - vs.length) none) H
def t_plan(K:PySem.W.Frag):TS:=tSeq (tAsg (tOp qAdd (tC (.int 1)) (tCall (sp_take K) [] E0 (tCons (tVar 0) (tCons (tC (.int 9)) (tNil))))) (gName 1)) (tSeq (tIfS (tTest (tOp qEq (tCall (sp_take K) [] E0 (tCons (tVar 0) (tCons (tC (.int 8)) (tNil)))) (tC (.int 0)))) (tAsg (tOp qAdd (tC (.int 15)) (tCall (sp_take K) [] E0 (tCons (tVar 0) (tCons (tC (.int 10)) (tNil))))) (gName 1)) (tNext)) (tSeq (tAsg (tCall (sp_mended K) [] E0 (tCons (tCall (sp_net K) [] E0 (tCons (tVar 0) (tCons (tVar 1) (tNil)))) (tNil))) (gName 2)) (tSeq (tAsg (tOp qAdd (tC (.int 1)) (tCall (sp_take K) [] E0 (tCons (tVar 0) (tCons (tC (.int 3)) (tNil))))) (gName 3)) (tSeq (tAsg (tCall (sp_names K) [] E0 (tCons (tVar 0) (tCons (tOp qAdd (tOp qAdd (tVar 3) (tC (.int 1))) (tCall (sp_take K) [] E0 (tCons (tVar 0) (tCons (tC (.int 2)) (tNil))))) (tNil)))) (gName 4)) (tSeq (fun D σ H=>(tComp (iRng1 (tCons (tOp qAdd (tC (.int 1)) (tCall (sp_take K) [] E0 (tCons (tVar 0) (tCons (tC (.int 3)) (tNil))))) (tNil))) (tTrue) (tCall (sp_deed K) [] E0 (tCons (tVar 1) (tCons (tSl qSl (tVar 5) (tNoPart) (tPart (tVar 4))) (tNil))))) σ H fun v H1=>D.nx (σ.set 5 (some v)) H1) (tSeq (tAsg (tLst (tNil)) (gName 6)) (tSeq (tFor (iList K (tVar 2)) (gName 7) (tIfS (tTest (tOp qEq (tCB qLen (tCons (tVar 7) (tNil))) (tC (.int 2)))) (tDrop (tBM K "list" qAppend (tVar 6) (tCons (tTup (tCons (tC (.str "ask")) (tCons (tCall (sp_operand K) [] E0 (tCons (tVar 0) (tCons (tVar 4) (tNil)))) (tNil)))) (tNil)))) (tDrop (tBM K "list" qAppend (tVar 6) (tCons (tCall (sp_row K) [] E0 (tCons (tVar 0) (tCons (tVar 4) (tCons (tVar 3) (tCons (tVar 5) (tNil)))))) (tNil)))))) (tRet (tTup (tCons (tVar 6) (tCons (tVar 2) (tCons (tVar 4) (tCons (tVar 5) (tNil))))))))))))))
def sp_plan(K:PySem.W.Frag):Sp:=fun vs H Q _=>vs.length=1/\t_plan K { nx:=fun _ H'=>Q .non H',rt:=Q } (vs.map some++List.replicate (8 - vs.length) none) H
def t_second(K:PySem.W.Frag):TS:=tSeq (tAsg (tVar 1) (gTup K 4 (gCons (gName 2) (gCons (gName 3) (gCons (gName 4) (gCons (gName 5) (gNil))))))) (tSeq (tIfS (tTest (tOp qEq (tCall (sp_take K) [] E0 (tCons (tVar 0) (tCons (tC (.int 2)) (tNil)))) (tC (.int 0)))) (tRet (tCall (sp_plan K) [] E0 (tCons (tVar 0) (tNil)))) (tNext)) (tSeq (tAsg (tCall (sp_take K) [] E0 (tCons (tVar 0) (tCons (tCB qLen (tCons (tVar 2) (tNil))) (tNil)))) (gName 6)) (tSeq (tAsg (tCB qList (tCons (tVar 2) (tNil))) (gName 7)) (tSeq (tIfS (tTest (tOp qNe (tOp qIx (tOp qIx (tVar 2) (tVar 6)) (tC (.int 0))) (tC (.str "ask")))) (tAsg (tCall (sp_row K) [] E0 (tCons (tVar 0) (tCons (tVar 4) (tCons (tC (.int 1)) (tCons (tVar 5) (tNil)))))) (gSub (tVar 7) (tVar 6) qSet)) (tNext)) (tRet (tTup (tCons (tVar 7) (tCons (tVar 3) (tCons (tVar 4) (tCons (tVar 5) (tNil)))))))))))
def sp_second(K:PySem.W.Frag):Sp:=fun vs H Q _=>vs.length=2/\t_second K { nx:=fun _ H'=>Q .non H',rt:=Q } (vs.map some++List.replicate (8 - vs.length) none) H
def t_lists(K:PySem.W.Frag):TS:=tRet (tComp (iList K (tVar 0)) (tTrue) (tCB qList (tCons (tVar 0) (tNil))))
def sp_lists(K:PySem.W.Frag):Sp:=fun vs H Q _=>vs.length=1/\t_lists K { nx:=fun _ H'=>Q .non H',rt:=Q } (vs.map some++List.replicate (1 - vs.length) none) H
def t_check_length(K:PySem.W.Frag):TS:=tSeq (tIfS (tOr (tNot (tB (tCB qIsi (tCons (tVar 0) (tCons (tC (.ty "list")) (tNil)))))) (tTest (tOp qLt (tCB qLen (tCons (tVar 0) (tNil))) (tVar 2)))) (fun _ _ _=>False) (tNext)) (tIfS (tTest (tOp qGt (tCB qLen (tCons (tVar 0) (tNil))) (tC (.int 400)))) (fun _ _ _=>False) (tNext))
def sp_check_length(K:PySem.W.Frag):Sp:=fun vs H Q _=>vs.length=3/\t_check_length K { nx:=fun _ H'=>Q .non H',rt:=Q } (vs.map some++List.replicate (3 - vs.length) none) H
def t_is_name(K:PySem.W.Frag):TS:=tSeq (tIfS (tOr (tNot (tB (tCB qIsi (tCons (tVar 0) (tCons (tC (.ty "str")) (tNil)))))) (tNot (tTest (tChain qLe qLe (tC (.int 1)) (tCB qLen (tCons (tVar 0) (tNil))) (tC (.int 8)))))) (tRet (tC (.bl false))) (tNext)) (tRet (tAndV (tOp (qIn false) (tOp qIx (tVar 0) (tC (.int 0))) (tC (.str "abcdefghijklmnopqrstuvwxyz"))) (tCB qAll (tCons (tComp (iStr (tVar 0)) (tTrue) (tOp (qIn false) (tVar 0) (tOp qAdd (tC (.str "abcdefghijklmnopqrstuvwxyz")) (tC (.str "0123456789"))))) (tNil)))))
def sp_is_name(K:PySem.W.Frag):Sp:=fun vs H Q _=>vs.length=1/\t_is_name K { nx:=fun _ H'=>Q .non H',rt:=Q } (vs.map some++List.replicate (1 - vs.length) none) H
def t_is_whole(K:PySem.W.Frag):TS:=tRet (tAndV (tCB qIsi (tCons (tVar 0) (tCons (tC (.ty "int")) (tNil)))) (tNotV (tCB qIsi (tCons (tVar 0) (tCons (tC (.ty "bool")) (tNil))))))
def sp_is_whole(K:PySem.W.Frag):Sp:=fun vs H Q _=>vs.length=1/\t_is_whole K { nx:=fun _ H'=>Q .non H',rt:=Q } (vs.map some++List.replicate (1 - vs.length) none) H
def t_is_value(K:PySem.W.Frag):TS:=tRet (tAndV (tCall (sp_is_whole K) [] E0 (tCons (tVar 0) (tNil))) (tChain qLe qLt (tC (.int 0)) (tVar 0) (tC (.int 1000000000000))))
def sp_is_value(K:PySem.W.Frag):Sp:=fun vs H Q _=>vs.length=1/\t_is_value K { nx:=fun _ H'=>Q .non H',rt:=Q } (vs.map some++List.replicate (1 - vs.length) none) H
def t_is_operand(K:PySem.W.Frag):TS:=tRet (tOrV (tCall (sp_is_name K) [] E0 (tCons (tVar 0) (tNil))) (tCall (sp_is_value K) [] E0 (tCons (tVar 0) (tNil))))
def sp_is_operand(K:PySem.W.Frag):Sp:=fun vs H Q _=>vs.length=1/\t_is_operand K { nx:=fun _ H'=>Q .non H',rt:=Q } (vs.map some++List.replicate (1 - vs.length) none) H
def t_is_deed(K:PySem.W.Frag)(c:Cn):TS:=tSeq (tIfS (tOr (tNot (tB (tCB qIsi (tCons (tVar 0) (tCons (tC (.ty "tuple")) (tNil)))))) (tTest (tOp qNe (tCB qLen (tCons (tVar 0) (tNil))) (tC (.int 3))))) (tRet (tC (.bl false))) (tNext)) (tRet (tAndV (tOp (qInK K) (tOp qIx (tVar 0) (tC (.int 0))) (tC (.ref c.k_DEED_KINDS))) (tAndV (tCall (sp_is_operand K) [] E0 (tCons (tOp qIx (tVar 0) (tC (.int 1))) (tNil))) (tCall (sp_is_operand K) [] E0 (tCons (tOp qIx (tVar 0) (tC (.int 2))) (tNil))))))
def sp_is_deed(K:PySem.W.Frag)(c:Cn):Sp:=fun vs H Q _=>vs.length=1/\t_is_deed K c { nx:=fun _ H'=>Q .non H',rt:=Q } (vs.map some++List.replicate (1 - vs.length) none) H
def t_is_row(K:PySem.W.Frag)(c:Cn):TS:=tSeq (tIfS (tOr (tNot (tB (tCB qIsi (tCons (tVar 0) (tCons (tC (.ty "tuple")) (tNil)))))) (tTest (tOp qEq (tCB qLen (tCons (tVar 0) (tNil))) (tC (.int 0))))) (tRet (tC (.bl false))) (tNext)) (tSeq (tAsg (tOp qIx (tVar 0) (tC (.int 0))) (gName 1)) (tSeq (tAsg (tSl qSl (tVar 0) (tPart (tC (.int 1))) (tNoPart)) (gName 2)) (tSeq (tIfS (tTest (tOp qEq (tVar 1) (tC (.str "set")))) (tRet (tAndV (tOp qEq (tCB qLen (tCons (tVar 2) (tNil))) (tC (.int 2))) (tAndV (tCall (sp_is_name K) [] E0 (tCons (tOp qIx (tVar 2) (tC (.int 0))) (tNil))) (tCall (sp_is_deed K c) [] E0 (tCons (tOp qIx (tVar 2) (tC (.int 1))) (tNil)))))) (tNext)) (tSeq (tIfS (tTest (tOp qEq (tVar 1) (tC (.str "copy")))) (tRet (tAndV (tOp qEq (tCB qLen (tCons (tVar 2) (tNil))) (tC (.int 2))) (tAndV (tCall (sp_is_name K) [] E0 (tCons (tOp qIx (tVar 2) (tC (.int 0))) (tNil))) (tCall (sp_is_operand K) [] E0 (tCons (tOp qIx (tVar 2) (tC (.int 1))) (tNil)))))) (tNext)) (tSeq (tIfS (tTest (tOp qEq (tVar 1) (tC (.str "take")))) (tRet (tAndV (tOp qEq (tCB qLen (tCons (tVar 2) (tNil))) (tC (.int 1))) (tCall (sp_is_name K) [] E0 (tCons (tOp qIx (tVar 2) (tC (.int 0))) (tNil))))) (tNext)) (tSeq (tIfS (tTest (tOp (qIn false) (tVar 1) (tTup (tCons (tC (.str "tell")) (tCons (tC (.str "ask")) (tNil)))))) (tRet (tAndV (tOp qEq (tCB qLen (tCons (tVar 2) (tNil))) (tC (.int 1))) (tCall (sp_is_operand K) [] E0 (tCons (tOp qIx (tVar 2) (tC (.int 0))) (tNil))))) (tNext)) (tRet (tAndV (tOp qEq (tVar 1) (tC (.str "skip"))) (tOp qEq (tCB qLen (tCons (tVar 2) (tNil))) (tC (.int 0)))))))))))
def sp_is_row(K:PySem.W.Frag)(c:Cn):Sp:=fun vs H Q _=>vs.length=1/\t_is_row K c { nx:=fun _ H'=>Q .non H',rt:=Q } (vs.map some++List.replicate (3 - vs.length) none) H
def t_check_each(K:PySem.W.Frag):TS:=tFor (iEnum K (tCons (tVar 0) (tNil))) (gTup K 2 (gCons (gName 1) (gCons (gName 2) (gNil)))) (tIfS (tNot (tB (tVar 2))) (fun _ _ _=>False) (tNext))
def sp_check_each(K:PySem.W.Frag):Sp:=fun vs H Q _=>vs.length=1/\t_check_each K { nx:=fun _ H'=>Q .non H',rt:=Q } (vs.map some++List.replicate (3 - vs.length) none) H
def t_is_below(K:PySem.W.Frag):TS:=tRet (tAndV (tCall (sp_is_whole K) [] E0 (tCons (tVar 0) (tNil))) (tChain qLe qLt (tC (.int 0)) (tVar 0) (tVar 1)))
def sp_is_below(K:PySem.W.Frag):Sp:=fun vs H Q _=>vs.length=2/\t_is_below K { nx:=fun _ H'=>Q .non H',rt:=Q } (vs.map some++List.replicate (2 - vs.length) none) H
def t_are_nexts(K:PySem.W.Frag):TS:=tSeq (tIfS (tNot (tB (tCB qIsi (tCons (tVar 1) (tCons (tC (.ty "list")) (tNil)))))) (tRet (tC (.bl false))) (tNext)) (tSeq (tAsg (tIf (tTest (tOp qEq (tOp qIx (tVar 0) (tC (.int 0))) (tC (.str "ask")))) (tTup (tCons (tC (.int 2)) (tNil))) (tTup (tCons (tC (.int 0)) (tCons (tC (.int 1)) (tNil))))) (gName 3)) (tRet (tAndV (tOp (qIn false) (tCB qLen (tCons (tVar 1) (tNil))) (tVar 3)) (tCB qAll (tCons (tComp (iList K (tVar 1)) (tTrue) (tCall (sp_is_below K) [] E0 (tCons (tVar 0) (tCons (tVar 3) (tNil))))) (tNil))))))
def sp_are_nexts(K:PySem.W.Frag):Sp:=fun vs H Q _=>vs.length=3/\t_are_nexts K { nx:=fun _ H'=>Q .non H',rt:=Q } (vs.map some++List.replicate (4 - vs.length) none) H
def t_check_nexts(K:PySem.W.Frag):TS:=tSeq (tIfS (tOr (tNot (tB (tCB qIsi (tCons (tVar 1) (tCons (tC (.ty "list")) (tNil)))))) (tTest (tOp qNe (tCB qLen (tCons (tVar 1) (tNil))) (tCB qLen (tCons (tVar 0) (tNil)))))) (fun _ _ _=>False) (tNext)) (tDrop (tCall (sp_check_each K) [] E0 (tCons (tCompP K (iZip K (tCons (tVar 0) (tCons (tVar 1) (tNil)))) (tTrue) (tCall (sp_are_nexts K) [] E0 (tCons (tVar 0) (tCons (tVar 1) (tCons (tCB qLen (tCons (tVar 2) (tNil))) (tNil)))))) (tNil))))
def sp_check_nexts(K:PySem.W.Frag):Sp:=fun vs H Q _=>vs.length=2/\t_check_nexts K { nx:=fun _ H'=>Q .non H',rt:=Q } (vs.map some++List.replicate (2 - vs.length) none) H
def t_reached(K:PySem.W.Frag):TS:=tSeq (tAsg (tDNewK) (gName 2)) (tSeq (tAsg (tCB qList (tCons (tVar 0) (tNil))) (gName 3)) (tSeq (tWhile (tTest (tOp qGt (tCB qLen (tCons (tVar 3) (tNil))) (tC (.int 0)))) (tSeq (tAsg (tBM0 K "list" qPop (tVar 3)) (gName 4)) (tIfS (tB (tDNotIn (tVar 4) (tVar 2))) (tSeq (sDPut (tVar 2) (tVar 4) (tC (.bl true))) (tDrop (tBM K "list" qExtend (tVar 3) (tCons (tOp qIx (tVar 1) (tVar 4)) (tNil))))) (tNext)))) (tRet (tVar 2))))
def sp_reached(K:PySem.W.Frag):Sp:=fun vs H Q _=>vs.length=2/\t_reached K { nx:=fun _ H'=>Q .non H',rt:=Q } (vs.map some++List.replicate (5 - vs.length) none) H
def t_turned(K:PySem.W.Frag):TS:=tSeq (fun D σ H=>(tComp (iList K (tVar 0)) (tTrue) (tLst (tNil))) σ H fun v H1=>D.nx (σ.set 1 (some v)) H1) (tSeq (tFor (iEnum K (tCons (tVar 0) (tNil))) (gTup K 2 (gCons (gName 2) (gCons (gName 3) (gNil)))) (tFor (iList K (tVar 3)) (gName 4) (tDrop (tBM K "list" qAppend (tOp qIx (tVar 1) (tVar 4)) (tCons (tVar 2) (tNil)))))) (tRet (tVar 1)))
def sp_turned(K:PySem.W.Frag):Sp:=fun vs H Q _=>vs.length=1/\t_turned K { nx:=fun _ H'=>Q .non H',rt:=Q } (vs.map some++List.replicate (5 - vs.length) none) H
def t_stops_of(K:PySem.W.Frag):TS:=tRet (tCompP K (iEnum K (tCons (tVar 0) (tNil))) (tTest (tOp qEq (tCB qLen (tCons (tVar 1) (tNil))) (tC (.int 0)))) (tVar 0))
def sp_stops_of(K:PySem.W.Frag):Sp:=fun vs H Q _=>vs.length=1/\t_stops_of K { nx:=fun _ H'=>Q .non H',rt:=Q } (vs.map some++List.replicate (1 - vs.length) none) H
def t_check_ways(K:PySem.W.Frag):TS:=tSeq (tAsg (tCall (sp_reached K) [] E0 (tCons (tLst (tCons (tC (.int 0)) (tNil))) (tCons (tVar 0) (tNil)))) (gName 1)) (tSeq (tAsg (tCall (sp_reached K) [] E0 (tCons (tCall (sp_stops_of K) [] E0 (tCons (tVar 0) (tNil))) (tCons (tCall (sp_turned K) [] E0 (tCons (tVar 0) (tNil))) (tNil)))) (gName 2)) (tFor (iRng1 (tCons (tCB qLen (tCons (tVar 0) (tNil))) (tNil))) (gName 3) (tIfS (tOr (tB (tDNotIn (tVar 3) (tVar 1))) (tB (tDNotIn (tVar 3) (tVar 2)))) (fun _ _ _=>False) (tNext))))
def sp_check_ways(K:PySem.W.Frag):Sp:=fun vs H Q _=>vs.length=1/\t_check_ways K { nx:=fun _ H'=>Q .non H',rt:=Q } (vs.map some++List.replicate (4 - vs.length) none) H
def t_steps_of(K:PySem.W.Frag)(c:Cn):TS:=tSeq (tAsg (tLst (tCons (tC (.ref c.k_FIRST_STEP)) (tNil))) (gName 1)) (tSeq (tFor (iEnum K (tCons (tVar 0) (tNil))) (gTup K 2 (gCons (gName 2) (gCons (gName 3) (gNil)))) (tDrop (tBM K "list" qExtend (tVar 1) (tCons (tComp (iRng1 (tCons (tCB qLen (tCons (tVar 3) (tNil))) (tNil))) (tTrue) (tTup (tCons (tVar 3) (tCons (tVar 0) (tNil))))) (tNil))))) (tRet (tVar 1)))
def sp_steps_of(K:PySem.W.Frag)(c:Cn):Sp:=fun vs H Q _=>vs.length=1/\t_steps_of K c { nx:=fun _ H'=>Q .non H',rt:=Q } (vs.map some++List.replicate (4 - vs.length) none) H
def t_Plan_leads_to(K:PySem.W.Frag)(c:Cn):TS:=tSeq (tIfS (tTest (tOp (qEqK K) (tVar 1) (tC (.ref c.k_FIRST_STEP)))) (tRet (tC (.int 0))) (tNext)) (tRet (tOp qIx (tOp qIx (tFld K (tVar 0) "nexts") (tOp qIx (tVar 1) (tC (.int 0)))) (tOp qIx (tVar 1) (tC (.int 1)))))
def sp_Plan_leads_to(K:PySem.W.Frag)(c:Cn):Sp:=fun vs H Q _=>vs.length=2/\t_Plan_leads_to K c { nx:=fun _ H'=>Q .non H',rt:=Q } (vs.map some++List.replicate (2 - vs.length) none) H
def t_Plan_init(K:PySem.W.Frag)(c:Cn):TS:=tSeq (tDrop (tCall (sp_check_length K) [] E0 (tCons (tVar 1) (tCons (tC (.int 0)) (tCons (tC (.int 1)) (tNil)))))) (tSeq (tDrop (tCall (sp_check_each K) [] E0 (tCons (tComp (iList K (tVar 1)) (tTrue) (tCall (sp_is_row K c) [] E0 (tCons (tVar 0) (tNil)))) (tNil)))) (tSeq (tDrop (tCall (sp_check_nexts K) [] E0 (tCons (tVar 1) (tCons (tVar 2) (tNil))))) (tSeq (tDrop (tCall (sp_check_ways K) [] E0 (tCons (tVar 2) (tNil)))) (tSeq (sFld K (tVar 0) (tCB qList (tCons (tVar 1) (tNil))) "rows") (tSeq (sFld K (tVar 0) (tComp (iList K (tVar 2)) (tTrue) (tCB qList (tCons (tVar 0) (tNil)))) "nexts") (tSeq (sFld K (tVar 0) (tComp (iList K (tVar 1)) (tTrue) (tLst (tNil))) "entries") (tFor (iList K (tCall (sp_steps_of K c) [] E0 (tCons (tFld K (tVar 0) "nexts") (tNil)))) (gName 3) (tDrop (tBM K "list" qAppend (tOp qIx (tFld K (tVar 0) "entries") (tMeth c.C_Plan "leads_to" (sp_Plan_leads_to K c) [] E0 (tVar 0) (tCons (tVar 3) (tNil)))) (tCons (tVar 3) (tNil)))))))))))
def sp_Plan_init(K:PySem.W.Frag)(c:Cn):Sp:=fun vs H Q _=>vs.length=3/\t_Plan_init K c { nx:=fun _ H'=>Q .non H',rt:=Q } (vs.map some++List.replicate (4 - vs.length) none) H
def t_made(K:PySem.W.Frag)(c:Cn):TS:=tSeq (tAsg (tLst (tCons (tCB qList (tCons (tVar 0) (tNil))) (tCons (tCall (sp_lists K) [] E0 (tCons (tVar 1) (tNil))) (tNil)))) (gName 2)) (tSeq (tAsg (tMake c.C_Plan (sp_Plan_init K c) [] E0 (tCons (tOp qIx (tVar 2) (tC (.int 0))) (tCons (tOp qIx (tVar 2) (tC (.int 1))) (tNil)))) (gName 3)) (tSeq (tDrop (tBM0 K "list" qClear (tOp qIx (tVar 2) (tC (.int 0))))) (tSeq (tFor (iList K (tOp qIx (tVar 2) (tC (.int 1)))) (gName 4) (tDrop (tBM0 K "list" qClear (tVar 4)))) (tRet (tVar 3)))))
def sp_made(K:PySem.W.Frag)(c:Cn):Sp:=fun vs H Q _=>vs.length=2/\t_made K c { nx:=fun _ H'=>Q .non H',rt:=Q } (vs.map some++List.replicate (5 - vs.length) none) H
def t_Ready_ready_at(K:PySem.W.Frag):TS:=tRet (tDNotIn (tVar 1) (tFld K (tVar 0) "come_by"))
def sp_Ready_ready_at(K:PySem.W.Frag):Sp:=fun vs H Q _=>vs.length=2/\t_Ready_ready_at K { nx:=fun _ H'=>Q .non H',rt:=Q } (vs.map some++List.replicate (2 - vs.length) none) H
def t_set_by(K:PySem.W.Frag):TS:=tRet (tIf (tTest (tOp (qIn false) (tOp qIx (tVar 0) (tC (.int 0))) (tTup (tCons (tC (.str "set")) (tCons (tC (.str "copy")) (tCons (tC (.str "take")) (tNil))))))) (tOp qIx (tVar 0) (tC (.int 1))) (tC .non))
def sp_set_by(K:PySem.W.Frag):Sp:=fun vs H Q _=>vs.length=1/\t_set_by K { nx:=fun _ H'=>Q .non H',rt:=Q } (vs.map some++List.replicate (1 - vs.length) none) H
def t_spoils(K:PySem.W.Frag):TS:=tRet (tOp (qIn false) (tCall (sp_set_by K) [] E0 (tCons (tVar 0) (tNil))) (tSl qSl (tVar 1) (tPart (tC (.int 1))) (tNoPart)))
def sp_spoils(K:PySem.W.Frag):Sp:=fun vs H Q _=>vs.length=2/\t_spoils K { nx:=fun _ H'=>Q .non H',rt:=Q } (vs.map some++List.replicate (2 - vs.length) none) H
def t_deed_of(K:PySem.W.Frag):TS:=tRet (tIf (tTest (tOp qEq (tOp qIx (tVar 0) (tC (.int 0))) (tC (.str "set")))) (tOp qIx (tVar 0) (tC (.int 2))) (tC .non))
def sp_deed_of(K:PySem.W.Frag):Sp:=fun vs H Q _=>vs.length=1/\t_deed_of K { nx:=fun _ H'=>Q .non H',rt:=Q } (vs.map some++List.replicate (1 - vs.length) none) H
def t_does(K:PySem.W.Frag):TS:=tRet (tOp qEq (tCall (sp_deed_of K) [] E0 (tCons (tVar 0) (tNil))) (tVar 1))
def sp_does(K:PySem.W.Frag):Sp:=fun vs H Q _=>vs.length=2/\t_does K { nx:=fun _ H'=>Q .non H',rt:=Q } (vs.map some++List.replicate (2 - vs.length) none) H
def t_Ready_ready_behind(K:PySem.W.Frag)(c:Cn):TS:=tSeq (tAsg (tOp qIx (tFld K (tFld K (tVar 0) "plan") "rows") (tVar 1)) (gName 2)) (tSeq (tIfS (tB (tCall (sp_spoils K) [] E0 (tCons (tVar 2) (tCons (tFld K (tVar 0) "deed") (tNil))))) (tRet (tC (.bl false))) (tNext)) (tRet (tOrV (tCall (sp_does K) [] E0 (tCons (tVar 2) (tCons (tFld K (tVar 0) "deed") (tNil)))) (tMeth c.C_Ready "ready_at" (sp_Ready_ready_at K) [] E0 (tVar 0) (tCons (tVar 1) (tNil))))))
def sp_Ready_ready_behind(K:PySem.W.Frag)(c:Cn):Sp:=fun vs H Q _=>vs.length=2/\t_Ready_ready_behind K c { nx:=fun _ H'=>Q .non H',rt:=Q } (vs.map some++List.replicate (3 - vs.length) none) H
def t_Ready_ready_on(K:PySem.W.Frag)(c:Cn):TS:=tRet (tAndV (tOp (qNeK K) (tVar 1) (tC (.ref c.k_FIRST_STEP))) (tMeth c.C_Ready "ready_behind" (sp_Ready_ready_behind K c) [] E0 (tVar 0) (tCons (tOp qIx (tVar 1) (tC (.int 0))) (tNil))))
def sp_Ready_ready_on(K:PySem.W.Frag)(c:Cn):Sp:=fun vs H Q _=>vs.length=2/\t_Ready_ready_on K c { nx:=fun _ H'=>Q .non H',rt:=Q } (vs.map some++List.replicate (2 - vs.length) none) H
def t_traced(K:PySem.W.Frag)(c:Cn):TS:=tSeq (tAsg (tLst (tCons (tDGet (tVar 0) (tVar 1)) (tNil))) (gName 2)) (tSeq (tWhile (tTest (tOp (qNeK K) (tOp qIx (tVar 2) (tUn (rU fun i=>.int (-i)) (tC (.int 1)))) (tC (.ref c.k_FIRST_STEP)))) (tDrop (tBM K "list" qAppend (tVar 2) (tCons (tDGet (tVar 0) (tOp qIx (tOp qIx (tVar 2) (tUn (rU fun i=>.int (-i)) (tC (.int 1)))) (tC (.int 0)))) (tNil))))) (tSeq (tDrop (tBM0 K "list" qReverse (tVar 2))) (tRet (tVar 2))))
def sp_traced(K:PySem.W.Frag)(c:Cn):Sp:=fun vs H Q _=>vs.length=2/\t_traced K c { nx:=fun _ H'=>Q .non H',rt:=Q } (vs.map some++List.replicate (3 - vs.length) none) H
def t_way_to(K:PySem.W.Frag)(c:Cn):TS:=tSeq (tAsg (tDisp ((tC (.int 0),tC (.ref c.k_FIRST_STEP))::[])) (gName 2)) (tSeq (tAsg (tLst (tCons (tC (.int 0)) (tNil))) (gName 3)) (tSeq (tAsg (tC (.int 0)) (gName 4)) (tSeq (tWhile (tB (tDNotIn (tVar 1) (tVar 2))) (tSeq (tAsg (tOp qIx (tVar 3) (tVar 4)) (gName 5)) (tSeq (tAug 4 (tC (.int 1)) (ipI fun i j=>i+j)) (tFor (iEnum K (tCons (tOp qIx (tFld K (tVar 0) "nexts") (tVar 5)) (tNil))) (gTup K 2 (gCons (gName 6) (gCons (gName 7) (gNil)))) (tIfS (tB (tDNotIn (tVar 7) (tVar 2))) (tSeq (sDPut (tVar 2) (tVar 7) (tTup (tCons (tVar 5) (tCons (tVar 6) (tNil))))) (tDrop (tBM K "list" qAppend (tVar 3) (tCons (tVar 7) (tNil))))) (tNext)))))) (tRet (tCall (sp_traced K c) [] E0 (tCons (tVar 2) (tCons (tVar 1) (tNil))))))))
def sp_way_to(K:PySem.W.Frag)(c:Cn):Sp:=fun vs H Q _=>vs.length=2/\t_way_to K c { nx:=fun _ H'=>Q .non H',rt:=Q } (vs.map some++List.replicate (8 - vs.length) none) H
def t_Ready_begins_unready(K:PySem.W.Frag)(c:Cn):TS:=tRet (tOrV (tOp (qEqK K) (tVar 1) (tC (.ref c.k_FIRST_STEP))) (tCall (sp_spoils K) [] E0 (tCons (tOp qIx (tFld K (tFld K (tVar 0) "plan") "rows") (tOp qIx (tVar 1) (tC (.int 0)))) (tCons (tFld K (tVar 0) "deed") (tNil)))))
def sp_Ready_begins_unready(K:PySem.W.Frag)(c:Cn):Sp:=fun vs H Q _=>vs.length=2/\t_Ready_begins_unready K c { nx:=fun _ H'=>Q .non H',rt:=Q } (vs.map some++List.replicate (2 - vs.length) none) H
def t_Ready_way_unready(K:PySem.W.Frag)(c:Cn):TS:=tSeq (tIfS (tB (tMeth c.C_Ready "ready_at" (sp_Ready_ready_at K) [] E0 (tVar 0) (tCons (tVar 1) (tNil)))) (tRet (tC .non)) (tNext)) (tSeq (tAsg (tLst (tCons (tDGet (tFld K (tVar 0) "come_by") (tVar 1)) (tNil))) (gName 2)) (tSeq (tWhile (tNot (tB (tMeth c.C_Ready "begins_unready" (sp_Ready_begins_unready K c) [] E0 (tVar 0) (tCons (tOp qIx (tVar 2) (tUn (rU fun i=>.int (-i)) (tC (.int 1)))) (tNil))))) (tDrop (tBM K "list" qAppend (tVar 2) (tCons (tDGet (tFld K (tVar 0) "come_by") (tOp qIx (tOp qIx (tVar 2) (tUn (rU fun i=>.int (-i)) (tC (.int 1)))) (tC (.int 0)))) (tNil))))) (tSeq (tDrop (tBM0 K "list" qReverse (tVar 2))) (tSeq (tIfS (tTest (tOp (qEqK K) (tOp qIx (tVar 2) (tC (.int 0))) (tC (.ref c.k_FIRST_STEP)))) (tRet (tVar 2)) (tNext)) (tRet (tOp qAdd (tCall (sp_way_to K c) [] E0 (tCons (tFld K (tVar 0) "plan") (tCons (tOp qIx (tOp qIx (tVar 2) (tC (.int 0))) (tC (.int 0))) (tNil)))) (tVar 2)))))))
def sp_Ready_way_unready(K:PySem.W.Frag)(c:Cn):Sp:=fun vs H Q _=>vs.length=2/\t_Ready_way_unready K c { nx:=fun _ H'=>Q .non H',rt:=Q } (vs.map some++List.replicate (3 - vs.length) none) H
def t_Wanted_wanted_at(K:PySem.W.Frag):TS:=tRet (tDNotIn (tVar 1) (tFld K (tVar 0) "goes_by"))
def sp_Wanted_wanted_at(K:PySem.W.Frag):Sp:=fun vs H Q _=>vs.length=2/\t_Wanted_wanted_at K { nx:=fun _ H'=>Q .non H',rt:=Q } (vs.map some++List.replicate (2 - vs.length) none) H
def t_Wanted_wanted_behind(K:PySem.W.Frag)(c:Cn):TS:=tSeq (tAsg (tOp qIx (tFld K (tFld K (tVar 0) "plan") "nexts") (tVar 1)) (gName 2)) (tRet (tAndV (tOp qGt (tCB qLen (tCons (tVar 2) (tNil))) (tC (.int 0))) (tCB qAll (tCons (tComp (iList K (tVar 2)) (tTrue) (tMeth c.C_Wanted "wanted_at" (sp_Wanted_wanted_at K) [] E0 (tVar 1) (tCons (tVar 0) (tNil)))) (tNil)))))
def sp_Wanted_wanted_behind(K:PySem.W.Frag)(c:Cn):Sp:=fun vs H Q _=>vs.length=2/\t_Wanted_wanted_behind K c { nx:=fun _ H'=>Q .non H',rt:=Q } (vs.map some++List.replicate (3 - vs.length) none) H
def t_Wanted_wanted_on(K:PySem.W.Frag)(c:Cn):TS:=tRet (tMeth c.C_Wanted "wanted_at" (sp_Wanted_wanted_at K) [] E0 (tVar 0) (tCons (tMeth c.C_Plan "leads_to" (sp_Plan_leads_to K c) [] E0 (tFld K (tVar 0) "plan") (tCons (tVar 1) (tNil))) (tNil)))
def sp_Wanted_wanted_on(K:PySem.W.Frag)(c:Cn):Sp:=fun vs H Q _=>vs.length=2/\t_Wanted_wanted_on K c { nx:=fun _ H'=>Q .non H',rt:=Q } (vs.map some++List.replicate (2 - vs.length) none) H
def t_followed(K:PySem.W.Frag)(c:Cn):TS:=tSeq (tAsg (tLst (tNil)) (gName 3)) (tSeq (tAsg (tDGet (tVar 1) (tVar 2)) (gName 4)) (tSeq (tWhile (tTest (tOp qIsNot (tVar 4) (tC .non))) (tSeq (tDrop (tBM K "list" qAppend (tVar 3) (tCons (tVar 4) (tNil)))) (tAsg (tDGet (tVar 1) (tMeth c.C_Plan "leads_to" (sp_Plan_leads_to K c) [] E0 (tVar 0) (tCons (tVar 4) (tNil)))) (gName 4)))) (tRet (tVar 3))))
def sp_followed(K:PySem.W.Frag)(c:Cn):Sp:=fun vs H Q _=>vs.length=3/\t_followed K c { nx:=fun _ H'=>Q .non H',rt:=Q } (vs.map some++List.replicate (5 - vs.length) none) H
def t_Plan_stops(K:PySem.W.Frag):TS:=tRet (tCall (sp_stops_of K) [] E0 (tCons (tFld K (tVar 0) "nexts") (tNil)))
def sp_Plan_stops(K:PySem.W.Frag):Sp:=fun vs H Q _=>vs.length=1/\t_Plan_stops K { nx:=fun _ H'=>Q .non H',rt:=Q } (vs.map some++List.replicate (1 - vs.length) none) H
def t_Plan_steps_into(K:PySem.W.Frag):TS:=tRet (tCB qList (tCons (tOp qIx (tFld K (tVar 0) "entries") (tVar 1)) (tNil)))
def sp_Plan_steps_into(K:PySem.W.Frag):Sp:=fun vs H Q _=>vs.length=2/\t_Plan_steps_into K { nx:=fun _ H'=>Q .non H',rt:=Q } (vs.map some++List.replicate (2 - vs.length) none) H
def t_way_on(K:PySem.W.Frag)(c:Cn):TS:=tSeq (tAsg (tCB qDictL (tCons (tComp (iList K (tMeth c.C_Plan "stops" (sp_Plan_stops K) [] E0 (tVar 0) tNil)) (tTrue) (tTup (tCons (tVar 0) (tCons (tC .non) (tNil))))) (tNil))) (gName 2)) (tSeq (tAsg (tMeth c.C_Plan "stops" (sp_Plan_stops K) [] E0 (tVar 0) tNil) (gName 3)) (tSeq (tAsg (tC (.int 0)) (gName 4)) (tSeq (tWhile (tB (tDNotIn (tVar 1) (tVar 2))) (tSeq (tAsg (tOp qIx (tVar 3) (tVar 4)) (gName 5)) (tSeq (tAug 4 (tC (.int 1)) (ipI fun i j=>i+j)) (tFor (iList K (tMeth c.C_Plan "steps_into" (sp_Plan_steps_into K) [] E0 (tVar 0) (tCons (tVar 5) (tNil)))) (gName 6) (tIfS (tAnd (tTest (tOp (qNeK K) (tVar 6) (tC (.ref c.k_FIRST_STEP)))) (tB (tDNotIn (tOp qIx (tVar 6) (tC (.int 0))) (tVar 2)))) (tSeq (sDPut (tVar 2) (tOp qIx (tVar 6) (tC (.int 0))) (tVar 6)) (tDrop (tBM K "list" qAppend (tVar 3) (tCons (tOp qIx (tVar 6) (tC (.int 0))) (tNil))))) (tNext)))))) (tRet (tCall (sp_followed K c) [] E0 (tCons (tVar 0) (tCons (tVar 2) (tCons (tVar 1) (tNil)))))))))
def sp_way_on(K:PySem.W.Frag)(c:Cn):Sp:=fun vs H Q _=>vs.length=2/\t_way_on K c { nx:=fun _ H'=>Q .non H',rt:=Q } (vs.map some++List.replicate (7 - vs.length) none) H
def t_Wanted_way_unwanted(K:PySem.W.Frag)(c:Cn):TS:=tSeq (tIfS (tB (tMeth c.C_Wanted "wanted_at" (sp_Wanted_wanted_at K) [] E0 (tVar 0) (tCons (tVar 1) (tNil)))) (tRet (tC .non)) (tNext)) (tSeq (tAsg (tCall (sp_followed K c) [] E0 (tCons (tFld K (tVar 0) "plan") (tCons (tFld K (tVar 0) "goes_by") (tCons (tVar 1) (tNil))))) (gName 2)) (tSeq (tAsg (tIf (tTest (tOp qGt (tCB qLen (tCons (tVar 2) (tNil))) (tC (.int 0)))) (tMeth c.C_Plan "leads_to" (sp_Plan_leads_to K c) [] E0 (tFld K (tVar 0) "plan") (tCons (tOp qIx (tVar 2) (tUn (rU fun i=>.int (-i)) (tC (.int 1)))) (tNil))) (tVar 1)) (gName 3)) (tRet (tOp qAdd (tVar 2) (tCall (sp_way_on K c) [] E0 (tCons (tFld K (tVar 0) "plan") (tCons (tVar 3) (tNil))))))))
def sp_Wanted_way_unwanted(K:PySem.W.Frag)(c:Cn):Sp:=fun vs H Q _=>vs.length=2/\t_Wanted_way_unwanted K c { nx:=fun _ H'=>Q .non H',rt:=Q } (vs.map some++List.replicate (4 - vs.length) none) H
def t_told(K:PySem.W.Frag)(c:Cn):TS:=tSeq (tIfS (tTest (tOp qEq (tVar 2) (tC (.int 0)))) (tRet (tMeth c.C_Ready "ready_at" (sp_Ready_ready_at K) [] E0 (tVar 0) (tCons (tVar 3) (tNil)))) (tNext)) (tSeq (tIfS (tTest (tOp qEq (tVar 2) (tC (.int 1)))) (tRet (tMeth c.C_Ready "ready_behind" (sp_Ready_ready_behind K c) [] E0 (tVar 0) (tCons (tVar 3) (tNil)))) (tNext)) (tSeq (tIfS (tTest (tOp qEq (tVar 2) (tC (.int 2)))) (tRet (tMeth c.C_Ready "ready_on" (sp_Ready_ready_on K c) [] E0 (tVar 0) (tCons (tVar 4) (tNil)))) (tNext)) (tSeq (tIfS (tTest (tOp qEq (tVar 2) (tC (.int 3)))) (tRet (tOp qIs (tMeth c.C_Ready "way_unready" (sp_Ready_way_unready K c) [] E0 (tVar 0) (tCons (tVar 3) (tNil))) (tC .non))) (tNext)) (tSeq (tIfS (tTest (tOp qEq (tVar 2) (tC (.int 4)))) (tRet (tMeth c.C_Wanted "wanted_at" (sp_Wanted_wanted_at K) [] E0 (tVar 1) (tCons (tVar 3) (tNil)))) (tNext)) (tSeq (tIfS (tTest (tOp qEq (tVar 2) (tC (.int 5)))) (tRet (tMeth c.C_Wanted "wanted_behind" (sp_Wanted_wanted_behind K c) [] E0 (tVar 1) (tCons (tVar 3) (tNil)))) (tNext)) (tSeq (tIfS (tTest (tOp qEq (tVar 2) (tC (.int 6)))) (tRet (tMeth c.C_Wanted "wanted_on" (sp_Wanted_wanted_on K c) [] E0 (tVar 1) (tCons (tVar 4) (tNil)))) (tNext)) (tRet (tOp qIs (tMeth c.C_Wanted "way_unwanted" (sp_Wanted_way_unwanted K c) [] E0 (tVar 1) (tCons (tVar 3) (tNil))) (tC .non)))))))))
def sp_told(K:PySem.W.Frag)(c:Cn):Sp:=fun vs H Q _=>vs.length=5/\t_told K c { nx:=fun _ H'=>Q .non H',rt:=Q } (vs.map some++List.replicate (5 - vs.length) none) H
def t_unwanted_ends(K:PySem.W.Frag):TS:=tSeq (tAsg (tLst (tNil)) (gName 2)) (tSeq (tFor (iEnum K (tCons (tFld K (tVar 0) "rows") (tNil))) (gTup K 2 (gCons (gName 3) (gCons (gName 4) (gNil)))) (tIfS (tAnd (tNot (tB (tCall (sp_does K) [] E0 (tCons (tVar 4) (tCons (tVar 1) (tNil)))))) (tOr (tB (tCall (sp_spoils K) [] E0 (tCons (tVar 4) (tCons (tVar 1) (tNil))))) (tTest (tOp qEq (tCB qLen (tCons (tOp qIx (tFld K (tVar 0) "nexts") (tVar 3)) (tNil))) (tC (.int 0)))))) (tDrop (tBM K "list" qAppend (tVar 2) (tCons (tVar 3) (tNil)))) (tNext))) (tRet (tVar 2)))
def sp_unwanted_ends(K:PySem.W.Frag):Sp:=fun vs H Q _=>vs.length=2/\t_unwanted_ends K { nx:=fun _ H'=>Q .non H',rt:=Q } (vs.map some++List.replicate (5 - vs.length) none) H
def t_unwanted_steps(K:PySem.W.Frag)(c:Cn):TS:=tSeq (tAsg (tCall (sp_unwanted_ends K) [] E0 (tCons (tVar 0) (tCons (tVar 1) (tNil)))) (gName 2)) (tSeq (tAsg (tCB qDictL (tCons (tComp (iList K (tVar 2)) (tTrue) (tTup (tCons (tVar 0) (tCons (tC .non) (tNil))))) (tNil))) (gName 3)) (tSeq (tAsg (tC (.int 0)) (gName 4)) (tSeq (tWhile (tTest (tOp qLt (tVar 4) (tCB qLen (tCons (tVar 2) (tNil))))) (tSeq (tAsg (tOp qIx (tVar 2) (tVar 4)) (gName 5)) (tSeq (tAug 4 (tC (.int 1)) (ipI fun i j=>i+j)) (tFor (iList K (tMeth c.C_Plan "steps_into" (sp_Plan_steps_into K) [] E0 (tVar 0) (tCons (tVar 5) (tNil)))) (gName 6) (tIfS (tAnd (tTest (tOp (qNeK K) (tVar 6) (tC (.ref c.k_FIRST_STEP)))) (tAnd (tB (tDNotIn (tOp qIx (tVar 6) (tC (.int 0))) (tVar 3))) (tNot (tB (tCall (sp_does K) [] E0 (tCons (tOp qIx (tFld K (tVar 0) "rows") (tOp qIx (tVar 6) (tC (.int 0)))) (tCons (tVar 1) (tNil)))))))) (tSeq (sDPut (tVar 3) (tOp qIx (tVar 6) (tC (.int 0))) (tVar 6)) (tDrop (tBM K "list" qAppend (tVar 2) (tCons (tOp qIx (tVar 6) (tC (.int 0))) (tNil))))) (tNext)))))) (tRet (tVar 3)))))
def sp_unwanted_steps(K:PySem.W.Frag)(c:Cn):Sp:=fun vs H Q _=>vs.length=2/\t_unwanted_steps K c { nx:=fun _ H'=>Q .non H',rt:=Q } (vs.map some++List.replicate (7 - vs.length) none) H
def t_Wanted_init(K:PySem.W.Frag)(c:Cn):TS:=tSeq (sFld K (tVar 0) (tVar 1) "plan") (sFld K (tVar 0) (tCall (sp_unwanted_steps K c) [] E0 (tCons (tVar 1) (tCons (tVar 2) (tNil)))) "goes_by")
def sp_Wanted_init(K:PySem.W.Frag)(c:Cn):Sp:=fun vs H Q _=>vs.length=3/\t_Wanted_init K c { nx:=fun _ H'=>Q .non H',rt:=Q } (vs.map some++List.replicate (3 - vs.length) none) H
def t_pass_on(K:PySem.W.Frag):TS:=tFor (iEnum K (tCons (tOp qIx (tFld K (tVar 0) "nexts") (tVar 1)) (tNil))) (gTup K 2 (gCons (gName 4) (gCons (gName 5) (gNil)))) (tIfS (tB (tDNotIn (tVar 5) (tVar 2))) (tSeq (sDPut (tVar 2) (tVar 5) (tTup (tCons (tVar 1) (tCons (tVar 4) (tNil))))) (tDrop (tBM K "list" qAppend (tVar 3) (tCons (tVar 5) (tNil))))) (tNext))
def sp_pass_on(K:PySem.W.Frag):Sp:=fun vs H Q _=>vs.length=4/\t_pass_on K { nx:=fun _ H'=>Q .non H',rt:=Q } (vs.map some++List.replicate (6 - vs.length) none) H
def t_unready_steps(K:PySem.W.Frag)(c:Cn):TS:=tSeq (tAsg (tDisp ((tC (.int 0),tC (.ref c.k_FIRST_STEP))::[])) (gName 3)) (tSeq (tAsg (tLst (tCons (tC (.int 0)) (tNil))) (gName 4)) (tSeq (tFor (iRng1 (tCons (tCB qLen (tCons (tFld K (tVar 0) "rows") (tNil))) (tNil))) (gName 5) (tIfS (tB (tOp qIx (tVar 2) (tVar 5))) (tDrop (tCall (sp_pass_on K) [] E0 (tCons (tVar 0) (tCons (tVar 5) (tCons (tVar 3) (tCons (tVar 4) (tNil))))))) (tNext))) (tSeq (tAsg (tC (.int 0)) (gName 6)) (tSeq (tWhile (tTest (tOp qLt (tVar 6) (tCB qLen (tCons (tVar 4) (tNil))))) (tSeq (tAsg (tOp qIx (tVar 4) (tVar 6)) (gName 5)) (tSeq (tAug 6 (tC (.int 1)) (ipI fun i j=>i+j)) (tIfS (tNot (tB (tOp qIx (tVar 1) (tVar 5)))) (tDrop (tCall (sp_pass_on K) [] E0 (tCons (tVar 0) (tCons (tVar 5) (tCons (tVar 3) (tCons (tVar 4) (tNil))))))) (tNext))))) (tRet (tVar 3))))))
def sp_unready_steps(K:PySem.W.Frag)(c:Cn):Sp:=fun vs H Q _=>vs.length=3/\t_unready_steps K c { nx:=fun _ H'=>Q .non H',rt:=Q } (vs.map some++List.replicate (7 - vs.length) none) H
def t_Ready_init(K:PySem.W.Frag)(c:Cn):TS:=tSeq (sFld K (tVar 0) (tVar 1) "plan") (tSeq (sFld K (tVar 0) (tVar 2) "deed") (tSeq (fun D σ H=>(tComp (iList K (tFld K (tVar 1) "rows")) (tTrue) (tCall (sp_does K) [] E0 (tCons (tVar 0) (tCons (tVar 3) (tNil))))) σ H fun v H1=>D.nx (σ.set 3 (some v)) H1) (sFld K (tVar 0) (tCall (sp_unready_steps K c) [] E0 (tCons (tVar 1) (tCons (tVar 3) (tCons (tComp (iList K (tFld K (tVar 1) "rows")) (tTrue) (tCall (sp_spoils K) [] E0 (tCons (tVar 0) (tCons (tVar 3) (tNil))))) (tNil))))) "come_by")))
def sp_Ready_init(K:PySem.W.Frag)(c:Cn):Sp:=fun vs H Q _=>vs.length=3/\t_Ready_init K c { nx:=fun _ H'=>Q .non H',rt:=Q } (vs.map some++List.replicate (4 - vs.length) none) H
def t_law(K:PySem.W.Frag)(c:Cn):TS:=tSeq (tAsg (tCall (sp_bag K) [] E0 (tCons (tVar 0) (tNil))) (gName 1)) (tSeq (tAsg (tCall (sp_plan K) [] E0 (tCons (tVar 1) (tNil))) (gName 2)) (tSeq (tAsg (tCall (sp_second K) [] E0 (tCons (tVar 1) (tCons (tVar 2) (tNil)))) (gName 3)) (tSeq (tAsg (tLst (tCons (tOp qIx (tOp qIx (tVar 2) (tC (.int 3))) (tC (.int 0))) (tCons (tOp qIx (tOp qIx (tVar 3) (tC (.int 3))) (tUn (rU fun i=>.int (-i)) (tC (.int 1)))) (tCons (tCall (sp_deed K) [] E0 (tCons (tVar 1) (tCons (tOp qIx (tVar 2) (tC (.int 2))) (tNil)))) (tNil))))) (gName 4)) (tSeq (tAsg (tLst (tNil)) (gName 5)) (tSeq (tFor (iList K (tLst (tCons (tVar 2) (tCons (tVar 3) (tNil))))) (gTup K 4 (gCons (gName 6) (gCons (gName 7) (gCons (gName 8) (gCons (gName 9) (gNil)))))) (tSeq (tAsg (tCall (sp_made K c) [] E0 (tCons (tVar 6) (tCons (tVar 7) (tNil)))) (gName 10)) (tFor (iList K (tVar 4)) (gName 11) (tDrop (tBM K "list" qAppend (tVar 5) (tCons (tTup (tCons (tMake c.C_Ready (sp_Ready_init K c) [] E0 (tCons (tVar 10) (tCons (tVar 11) (tNil)))) (tCons (tMake c.C_Wanted (sp_Wanted_init K c) [] E0 (tCons (tVar 10) (tCons (tVar 11) (tNil)))) (tCons (tVar 6) (tCons (tVar 7) (tCons (tVar 11) (tNil))))))) (tNil))))))) (tSeq (tFor (iRng1 (tCons (tOp qAdd (tC (.int 6)) (tCall (sp_take K) [] E0 (tCons (tVar 1) (tCons (tC (.int 19)) (tNil))))) (tNil))) (gName 12) (tSeq (tAsg (tOp qIx (tVar 5) (tCall (sp_take K) [] E0 (tCons (tVar 1) (tCons (tC (.int 6)) (tNil))))) (gTup K 5 (gCons (gName 13) (gCons (gName 14) (gCons (gName 6) (gCons (gName 7) (gCons (gName 11) (gNil)))))))) (tSeq (tAsg (tCall (sp_take K) [] E0 (tCons (tVar 1) (tCons (tCB qLen (tCons (tVar 6) (tNil))) (tNil)))) (gName 15)) (tSeq (tAsg (tTup (tCons (tUn (rU fun i=>.int (-i)) (tC (.int 1))) (tCons (tC (.int 0)) (tNil)))) (gName 16)) (tSeq (tIfS (tAnd (tTest (tOp qNe (tOp qIx (tVar 7) (tVar 15)) (tLst (tNil)))) (tTest (tOp qGt (tCall (sp_take K) [] E0 (tCons (tVar 1) (tCons (tC (.int 6)) (tNil)))) (tC (.int 0))))) (tAsg (tTup (tCons (tVar 15) (tCons (tCall (sp_take K) [] E0 (tCons (tVar 1) (tCons (tCB qLen (tCons (tOp qIx (tVar 7) (tVar 15)) (tNil))) (tNil)))) (tNil)))) (gName 16)) (tNext)) (tSeq (tAsg (tCall (sp_take K) [] E0 (tCons (tVar 1) (tCons (tC (.int 8)) (tNil)))) (gName 17)) (tSeq (tAsg (tCall (sp_made K c) [] E0 (tCons (tVar 6) (tCons (tVar 7) (tNil)))) (gName 18)) (tSeq (tAsg (tCall (sp_told K c) [] E0 (tCons (tMake c.C_Ready (sp_Ready_init K c) [] E0 (tCons (tVar 18) (tCons (tVar 11) (tNil)))) (tCons (tMake c.C_Wanted (sp_Wanted_init K c) [] E0 (tCons (tVar 18) (tCons (tVar 11) (tNil)))) (tCons (tVar 17) (tCons (tVar 15) (tCons (tVar 16) (tNil))))))) (gName 19)) (tFor (iRng1 (tCons (tC (.int 2)) (tNil))) (gName 20) (tSeq (tAsg (tCall (sp_told K c) [] E0 (tCons (tVar 13) (tCons (tVar 14) (tCons (tVar 17) (tCons (tVar 15) (tCons (tVar 16) (tNil))))))) (gName 21)) (tIfS (tOr (tNot (tB (tCB qIsi (tCons (tVar 21) (tCons (tC (.ty "bool")) (tNil)))))) (tTest (tOp qNe (tVar 21) (tVar 19)))) (tRet (tC (.bl false))) (tNext)))))))))))) (tRet (tC (.bl true)))))))))
def sp_law(K:PySem.W.Frag):Sp:=fun vs H Q _=>vs.length=1/\∀c,CnOk K c->t_law K c { nx:=fun _ H'=>Q .non H',rt:=Q } (vs.map some++List.replicate (22 - vs.length) none) H
end RD
local macro_rules | `(tactic| walk_at "st") => `(tactic| (with_reducible first
 | refine RD.s_asg ?_ | refine RD.s_gname ?_ | refine RD.s_gsub ?_ | refine RD.s_ret ?_ | refine RD.s_drop ?_ | refine RD.s_if ?_ | refine RD.s_next ?_ | refine RD.s_test ?_ | refine RD.s_tB ?_ | refine RD.s_not ?_ | refine RD.s_and ?_ | refine RD.s_or ?_ | refine RD.s_andV ?_ | refine RD.s_orV ?_ | refine RD.s_notV ?_ | refine RD.s_ifE ?_ | refine RD.s_op ?_ | refine RD.s_chain ?_ | refine RD.s_un ?_ | refine RD.s_neg ?_ | refine RD.s_c ?_ | refine RD.s_cons ?_ | refine RD.s_nil ?_ | refine RD.s_call ?_ | refine RD.s_cb ?_ | refine RD.s_tup ?_ | refine RD.s_lst ?_ | refine RD.s_sl ?_ | refine RD.s_part ?_ | refine RD.s_nopart ?_ | refine RD.s_rev ?_ | refine RD.s_true ?_ | refine RD.s_augS ?_ | refine RD.s_bmS ?_
 | refine RD.s_var (by with_unfolding_all rfl) ?_ | refine Exists.intro _ (And.intro (Eq.refl (L2.V.bl _)) ?_) | refine Exists.intro _ (And.intro (Eq.refl (L2.V.int _)) ?_)
 | refine RD.q_add ?_ | refine RD.q_int0 ?_ | refine RD.q_ip ?_ | refine RD.q_abs ?_ | refine RD.q_eq rfl ?_ | refine RD.q_ne rfl ?_))
local macro_rules | `(tactic| walk_at "ev") => `(tactic| repeat walk_at "st")
local macro_rules | `(tactic| walk_at "go") => `(tactic| repeat (first | with_reducible refine RD.s_seq ?_ | walk_at "st"))
namespace RD
open PySem PySem.Spec L2
section
variable {σ:St}{H1:Hp}{te:TE}{tt:TT}{D:Addr}
theorem s_istr{ta:TE}{H:Hp}{R:It->Hp->Prop}(h:ta σ H fun v H2=>∃x,v=.str x/\R (Its x) H2):iStr ta σ H R:=h
theorem comp_str{QD:Hp->Prop}{x:Str}(Pv:Nat->List V->Hp->Prop)(h0:Pv 0 [] (upd H1 D (.lst [])))(hP:∀i ys H,Pv i ys H->H D=some (.lst ys))
  (step:∀i c ys H2,x.cps[i]? = some c->Pv i ys H2->∀(R:VK) (R':Hp->Prop),(∀y H5,H5 D=some (.lst ys)->ys.length<sizeLine->Pv (i+1) (ys++[y]) (upd H5 D (.lst (ys++[y])))->R y H5)->(∀H4,Pv (i+1) ys H4->R' H4) ->
   tt (some (.str ⟨#[c]⟩)::σ) H2 fun ok H4=>if ok=true then te (some (.str ⟨#[c]⟩)::σ) H4 R else R' H4)
  (done:∀ys H2,Pv x.length ys H2->QD H2) :
  ∃W:Nat->Nat->List V->Hp->Prop,(∃m,W 0 m [] (upd H1 D (.lst [])))/\∀i m ys H2,W i m ys H2->H2 D=some (.lst ys) /\
   (((Its x).stop i H2 ∧ QD H2) ∨ ((Its x).go i H2 ∧ ∀ v H3, (Its x).yld i H2 v H3 → tt (some v :: σ) H3 fun ok H4 => if ok = true then
     te (some v::σ) H4 (fun y H5=>H5 D=some (.lst ys)/\ys.length<sizeLine/\∃m',m'<m/\W (i+1) m' (ys++[y]) (upd H5 D (.lst (ys++[y]))))
     else ∃m',m'<m/\W (i+1) m' ys H4)):=by
 refine⟨fun i m ys H=>m=x.length - i/\i<=x.length/\Pv i ys H,⟨x.length,rfl,Nat.zero_le _,h0⟩,?_⟩;rintro i m ys H2 ⟨rfl,hi,p⟩;refine⟨hP i ys H2 p,?_⟩;by_cases hlt:i<x.length
 ·refine .inr ⟨hlt,fun v H3 y=>?_⟩
  obtain⟨e,c,hc,ev⟩:=y;subst e ev;exact step i c ys _ hc p _ _ (fun y H5 h1 h2 h3=>⟨h1,h2,x.length - (i+1),by omega,rfl,hlt,h3⟩) fun H4 h=>⟨x.length - (i+1),by omega,rfl,hlt,h⟩
 ·have e:i=x.length:=by omega
  subst e;exact .inl ⟨Nat.le_refl _,done ys H2 p⟩
end
def sgn(S:Str)(c:Nat):Bool := !(Builtin.Str.occurrences S ⟨#[c]⟩ 0 S.length 1).isEmpty
theorem q_inS{S:Str}{c:Nat}{H:Hp}{Q:VK}(h:Q (.bl (sgn S c)) H):qIn false (.str ⟨#[c]⟩) (.str S) H Q:=h
abbrev LET:Str := "abcdefghijklmnopqrstuvwxyz"
abbrev SGN:Str := "abcdefghijklmnopqrstuvwxyz0123456789"
theorem sgn_eq:LET++("0123456789" : Str)=SGN:=by decide +kernel
def nameB(z:Str):Bool:=decide (1<=z.length)&&decide (z.length<=8)&&(match z.cps[0]? with | some c=>sgn LET c | none=>false)&&z.cps.toList.all (sgn SGN)
theorem is_name_str{K:PySem.W.Frag}{H:Hp}{z:Str}{Q:VK}{E:XK}(hz:z.length<=100)(k:∀H',Same H H'->Q (.bl (nameB z)) H'):sp_is_name K [.str z] H Q E:=by
 refine⟨rfl,?_⟩;unfold t_is_name;have hz':=small (show z.length<=100000 by omega)
 with_reducible refine s_seq ?_
 walk_at "ev";refine q_isi (s := "str") rfl (by decide) ?_;walk_at "ev";refine iteF' (by decide) ?_;walk_at "ev";refine q_lenS hz' ?_;walk_at "ev";by_cases h1:1<=z.length
 case neg=>
  refine iteF' (decide_eq_false (by omega)) ?_;walk_at "ev";refine iteT' rfl ?_;walk_at "ev";have e:nameB z=false:=by unfold nameB;rw[decide_eq_false h1];simp
  rw[<-e];exact k H (Same.refl _)
 refine iteT' (decide_eq_true (by omega)) ?_;walk_at "ev";by_cases h8:z.length<=8
 case neg=>
  rw[decide_eq_false (show ¬((z.length:Int)<=8) by omega)];refine iteT' rfl ?_;walk_at "ev";have e:nameB z=false:=by unfold nameB;rw[decide_eq_false h8];simp
  rw[<-e];exact k H (Same.refl _)
 rw[decide_eq_true (show(z.length:Int)<=8 by omega)];refine iteF' rfl ?_;walk_at "ev";have hl:z.cps.toList.length=z.length:=Array.length_toList;obtain⟨c0,hc0,hc1⟩:=atI_of (xs:=z.cps.toList) (i:=0) (by decide) (by omega);have hc2:z.cps[0]? = some c0:=by rw[<-Array.getElem?_toList];exact hc1
 refine q_ixS hz' hc0 ?_;walk_at "ev"
 have en:nameB z=(sgn LET c0&&z.cps.toList.all (sgn SGN)):=by
  unfold nameB;rw[decide_eq_true h1,decide_eq_true h8,hc2];simp
 refine q_inS (S:=LET) ?_;refine⟨_,rfl,?_⟩;cases hs:sgn LET c0 with
 | false=>
  refine iteF ?_;have e:nameB z=false:=by rw[en,hs];rfl
  rw[<-e];exact k H (Same.refl _)
 | true=>
  refine iteT ?_;walk_at "ev"
  with_reducible refine s_comp (s_istr ?_)
  walk_at "ev";refine⟨z,rfl,fun D hD=>?_⟩;refine comp_str (fun i ys H2=>ys=(z.cps.toList.take i).map (fun c=>V.bl (sgn SGN c))/\H2=upd H D (.lst ys)) ⟨by simp,rfl⟩ ?_ ?_ ?_
  ·rintro i ys _ ⟨_,rfl⟩
   exact upd_same
  ·rintro i c ys _ hc ⟨rfl,rfl⟩ R R' hR hR'
   have hc':z.cps.toList[i]? = some c:=by rw[Array.getElem?_toList];exact hc
   walk_at "ev";refine iteT ?_;walk_at "ev";refine q_addS (small (by decide +kernel)) ?_;have e:(("abcdefghijklmnopqrstuvwxyz" : Str)++("0123456789" : Str))=SGN:=sgn_eq;rw[e];refine q_inS (S:=SGN) ?_;refine hR (.bl (sgn SGN c)) _ upd_same (smallT ?_) ⟨?_,?_⟩
   ·rw[List.length_map,List.length_take];omega
   ·rw[List.take_add_one,hc'];simp
   ·rw[upd_upd]
  ·rintro ys _ ⟨rfl,rfl⟩
   walk_at "ev"
   have eb:boolsOf ((z.cps.toList.take z.length).map (fun c=>V.bl (sgn SGN c)))=some ((z.cps.toList.take z.length).map (sgn SGN)):=by
    generalize z.cps.toList.take z.length=l;induction l with
    | nil=>rfl
    | cons a r ih=>simp[boolsOf,ih]
   have ea:((z.cps.toList.take z.length).map (sgn SGN)).all id=nameB z:=by
    rw[en,hs,Bool.true_and,List.take_of_length_le (by omega),List.all_map];rfl
   refine(show qAll [.ref D] _ _ from ?_);unfold qAll;simp only[upd_same];refine⟨_,eb,?_⟩;rw[ea];exact k _ (same_new hD)
end RD
namespace RD
open PySem PySem.Spec L2
def NmS(s:Str):Prop:=nameB s=true/\s.length<=8
def OpN(v:V):Prop:=(∃s,v=.str s/\NmS s)\/∃n:Int,v=.int n/\0<=n/\n<1000000000000
theorem OpN.flat{v:V}(h:OpN v):flatV v=true:=by
 rcases h with ⟨s,rfl,_⟩ | ⟨n,rfl,_⟩ <;> rfl
abbrev KINDS:List Str:=["plus", "minus", "times", "less", "same"]
def DeedN(H:Hp)(p:Addr):Prop:=∃k v1 v2,H p=some (.tup [.str k,v1,v2])/\OpN v1/\OpN v2/\k∈KINDS
theorem DeedN.ts{H H':Hp}{p:Addr}(h:DeedN H p)(t:TSame H H'):DeedN H' p:=by
 obtain⟨k,v1,v2,h,a,b,c⟩:=h;exact⟨k,v1,v2,t _ _ h,a,b,c⟩
inductive RowS(H:Hp):List V->Prop
 | set (n:Str) (p:Addr):NmS n->DeedN H p->RowS H [.str "set", .str n,.ref p]
 | copy (n:Str) (v:V):NmS n->OpN v->RowS H [.str "copy", .str n,v]
 | take (n:Str):NmS n->RowS H [.str "take", .str n]
 | tell (v:V):OpN v->RowS H [.str "tell", v]
 | ask (v:V):OpN v->RowS H [.str "ask", v]
 | skip:RowS H [.str "skip"]
theorem RowS.ts{H H':Hp}{xs:List V}(h:RowS H xs)(t:TSame H H'):RowS H' xs:=by
 cases h with
 | set n p a d=>exact .set n p a (d.ts t)
 | copy n v a o=>exact .copy n v a o
 | take n a=>exact .take n a
 | tell v o=>exact .tell v o
 | ask v o=>exact .ask v o
 | skip=>exact .skip
def RowN(H:Hp)(v:V)(ask:Bool):Prop:=∃p xs,v=.ref p/\H p=some (.tup xs)/\RowS H xs/\(∃k r,xs=.str k::r/\decide ((k:Str) = "ask")=ask)
theorem RowN.ts{H H':Hp}{v:V}{a:Bool}(h:RowN H v a)(t:TSame H H'):RowN H' v a:=by
 obtain⟨p,xs,rfl,h,r,q⟩:=h;exact⟨p,xs,rfl,t _ _ h,r.ts t,q⟩
theorem intrun{H:Hp}{n:Int}{Q:VK}(k:Q (.bl true) H) :
  tRet (tAndV (tCB qIsi (tCons (tVar 0) (tCons (tC (.ty "int")) tNil))) (tNotV (tCB qIsi (tCons (tVar 0) (tCons (tC (.ty "bool")) tNil))))) { nx:=fun _ H'=>Q .non H',rt:=Q } [some (.int n)] H:=by
 walk_at "ev";refine q_isi (s := "int") rfl (by decide) ?_;walk_at "ev";refine iteT' (by decide) ?_;walk_at "ev";refine q_isi (s := "int") rfl (by decide) ?_;walk_at "ev";exact k
theorem is_whole_int{K:PySem.W.Frag}{H:Hp}{n:Int}{Q:VK}{E:XK}(k:Q (.bl true) H):sp_is_whole K [.int n] H Q E:=⟨rfl,intrun k⟩
theorem is_value_int{K:PySem.W.Frag}{H:Hp}{n:Int}{Q:VK}{E:XK}(h0:0<=n)(h1:n<1000000000000)(k:Q (.bl true) H):sp_is_value K [.int n] H Q E:=by
 refine⟨rfl,?_⟩;unfold t_is_value;walk_at "ev";refine is_whole_int ?_;refine⟨_,rfl,iteT ?_⟩;walk_at "ev";refine iteT' (decide_eq_true h0) ?_;walk_at "ev";show Q (.bl (decide (n<1000000000000))) H;rw[decide_eq_true h1];exact k
theorem is_below_int{K:PySem.W.Frag}{H:Hp}{n m:Int}{Q:VK}{E:XK}(h0:0<=n)(h1:n<m)(k:Q (.bl true) H):sp_is_below K [.int n,.int m] H Q E:=by
 refine⟨rfl,?_⟩;unfold t_is_below;walk_at "ev";refine is_whole_int ?_;refine⟨_,rfl,iteT ?_⟩;walk_at "ev";refine iteT' (decide_eq_true h0) ?_;walk_at "ev";show Q (.bl (decide (n<m))) H;rw[decide_eq_true h1];exact k
theorem is_name_nm{K:PySem.W.Frag}{H:Hp}{z:Str}{Q:VK}{E:XK}(h:NmS z)(k:∀H',Same H H'->Q (.bl true) H'):sp_is_name K [.str z] H Q E:=by
 refine is_name_str (by have:=h.2;omega) fun H' s=>?_
 rw[h.1];exact k H' s
theorem is_name_int{K:PySem.W.Frag}{H:Hp}{n:Int}{Q:VK}{E:XK}(k:Q (.bl false) H):sp_is_name K [.int n] H Q E:=by
 refine⟨rfl,?_⟩;unfold t_is_name
 with_reducible refine s_seq ?_
 walk_at "ev";refine q_isi (s := "int") rfl (by decide) ?_;walk_at "ev";refine iteT' (by decide) ?_;refine iteT' rfl ?_;walk_at "ev";exact k
theorem is_operand_op{K:PySem.W.Frag}{H:Hp}{v:V}{Q:VK}{E:XK}(h:OpN v)(k:∀H',Same H H'->Q (.bl true) H'):sp_is_operand K [v] H Q E:=by
 refine⟨rfl,?_⟩;unfold t_is_operand;walk_at "ev";rcases h with ⟨s,rfl,hs⟩ | ⟨n,rfl,h0,h1⟩
 ·refine is_name_nm hs fun G s=>?_
  exact⟨_,rfl,iteT (k G s)⟩
 ·refine is_name_int ?_
  refine⟨_,rfl,iteF ?_⟩;walk_at "ev";exact is_value_int h0 h1 (k H (Same.refl _))
theorem kinds_in{k:Str}(h:k∈KINDS):inV (.str k) [.str "plus", .str "minus", .str "times", .str "less", .str "same"]=true:=by
 simp only[KINDS,List.mem_cons,List.not_mem_nil,or_false]at h;rcases h with rfl | rfl | rfl | rfl | rfl <;> decide +kernel
theorem is_deed_dd{K:PySem.W.Frag}{c:Cn}{H:Hp}{p:Addr}{Q:VK}{E:XK}(ck:CnOk K c)(h:DeedN H p)(k:∀H',Same H H'->Q (.bl true) H'):sp_is_deed K c [.ref p] H Q E:=by
 obtain⟨kd,v1,v2,hp,o1,o2,hk⟩:=h;refine⟨rfl,?_⟩;unfold t_is_deed
 with_reducible refine s_seq ?_
 walk_at "ev";refine q_isi (s := "tuple") (by simp only[tyName,hp]) (by decide) ?_;walk_at "ev";refine iteF' (by decide) ?_;walk_at "ev";refine q_lenT hp ?_;walk_at "ev";refine iteF' (by simp) ?_;walk_at "ev";refine q_ixT hp (atI0 _ _) ?_;walk_at "ev";refine⟨_,_,rfl,ck.t_DEED_KINDS H,rfl,rfl,?_⟩;refine⟨_,rfl,iteT' (kinds_in hk) ?_⟩;walk_at "ev";refine q_ixT hp (atI1 _ _ _) ?_;walk_at "ev";refine is_operand_op o1 fun G1 s1=>?_
 refine⟨_,rfl,iteT ?_⟩;walk_at "ev";refine q_ixT (s1 _ _ hp) (atI2 _ _ _ _) ?_;walk_at "ev";exact is_operand_op o2 fun G2 s2=>k G2 (s1.trans s2)
theorem cut1(a:V)(r:List V):cutV (a::r) (some 1) none=r:=by
 unfold cutV
 have e:HT.sIx (a::r).length 0 (some 1)=1:=by
  have:=HT.sIx_nat (a::r).length 0 1;rw[show((1:Nat):Int)=1 from rfl]at this;rw[this,List.length_cons];omega
 rw[e];show List.take ((a::r).length - 1) r=r;rw[List.take_of_length_le (by simp)]
theorem notwhole(a:V)(r:List V):¬(HT.sIx (a::r).length 0 (some 1)=0/\HT.sIx (a::r).length (a::r).length none=(a::r).length):=by
 intro h
 have e:HT.sIx (a::r).length 0 (some 1)=1:=by
  have:=HT.sIx_nat (a::r).length 0 1;rw[show((1:Nat):Int)=1 from rfl]at this;rw[this,List.length_cons];omega
 omega
theorem is_row_rw{K:PySem.W.Frag}{c:Cn}{H:Hp}{v:V}{a:Bool}{Q:VK}{E:XK}(ck:CnOk K c)(h:RowN H v a)(k:∀H',Same H H'->Q (.bl true) H'):sp_is_row K c [v] H Q E:=by
 obtain⟨p,xs,rfl,hp,hr,kd,r,rfl,_⟩:=h;refine⟨rfl,?_⟩;unfold t_is_row
 with_reducible refine s_seq ?_
 walk_at "ev";refine q_isi (s := "tuple") (by simp only[tyName,hp]) (by decide) ?_;walk_at "ev";refine iteF' (by decide) ?_;walk_at "ev";refine q_lenT hp ?_;walk_at "ev";refine iteF' (decide_eq_false (by intro z;have:=V.int.inj z;rw[List.length_cons]at this;omega)) ?_;walk_at "ev"
 with_reducible refine s_seq ?_
 walk_at "ev";refine q_ixT hp (atI0 _ _) ?_;walk_at "ev"
 with_reducible refine s_seq ?_
 walk_at "ev";refine q_slT hp (notwhole _ _) fun q G hq e s=>?_
 rw[cut1]at e;walk_at "ev";have hr:=hr.ts (Same.ts s);cases hr with
 | set n d hn hd=>
  with_reducible refine s_seq ?_
  walk_at "ev";refine iteT' (by decide) ?_;walk_at "ev";refine q_lenT e ?_;walk_at "ev";refine iteT' (by simp) ?_;walk_at "ev";refine q_ixT e (atI0 _ _) ?_;walk_at "ev";refine is_name_nm hn fun G1 s1=>?_
  refine⟨_,rfl,iteT ?_⟩;walk_at "ev";refine q_ixT (s1 _ _ e) (atI1 _ _ _) ?_;walk_at "ev";exact is_deed_dd ck (hd.ts (Same.ts s1)) fun G2 s2=>k G2 ((s.trans s1).trans s2)
 | copy n v hn ho=>
  with_reducible refine s_seq ?_
  walk_at "ev";refine iteF' (by decide) ?_;walk_at "ev"
  with_reducible refine s_seq ?_
  walk_at "ev";refine iteT' (by decide) ?_;walk_at "ev";refine q_lenT e ?_;walk_at "ev";refine iteT' (by simp) ?_;walk_at "ev";refine q_ixT e (atI0 _ _) ?_;walk_at "ev";refine is_name_nm hn fun G1 s1=>?_
  refine⟨_,rfl,iteT ?_⟩;walk_at "ev";refine q_ixT (s1 _ _ e) (atI1 _ _ _) ?_;walk_at "ev";exact is_operand_op ho fun G2 s2=>k G2 ((s.trans s1).trans s2)
 | take n hn=>
  with_reducible refine s_seq ?_
  walk_at "ev";refine iteF' (by decide) ?_;walk_at "ev"
  with_reducible refine s_seq ?_
  walk_at "ev";refine iteF' (by decide) ?_;walk_at "ev"
  with_reducible refine s_seq ?_
  walk_at "ev";refine iteT' (by decide) ?_;walk_at "ev";refine q_lenT e ?_;walk_at "ev";refine iteT' (by simp) ?_;walk_at "ev";refine q_ixT e (atI0 _ _) ?_;walk_at "ev";exact is_name_nm hn fun G1 s1=>k G1 (s.trans s1)
 | tell v ho=>
  with_reducible refine s_seq ?_
  walk_at "ev";refine iteF' (by decide) ?_;walk_at "ev"
  with_reducible refine s_seq ?_
  walk_at "ev";refine iteF' (by decide) ?_;walk_at "ev"
  with_reducible refine s_seq ?_
  walk_at "ev";refine iteF' (by decide) ?_;walk_at "ev"
  with_reducible refine s_seq ?_
  walk_at "ev";refine new_i (by simp) fun q2 G2 hq2 e2 s2=>?_
  refine q_inT e2 rfl rfl ?_;walk_at "ev";refine iteT' (by decide +kernel) ?_;walk_at "ev";refine q_lenT (s2 _ _ e) ?_;walk_at "ev";refine iteT' (by simp) ?_;walk_at "ev";refine q_ixT (s2 _ _ e) (atI0 _ _) ?_;walk_at "ev";exact is_operand_op ho fun G1 s1=>k G1 ((s.trans s2).trans s1)
 | ask v ho=>
  with_reducible refine s_seq ?_
  walk_at "ev";refine iteF' (by decide) ?_;walk_at "ev"
  with_reducible refine s_seq ?_
  walk_at "ev";refine iteF' (by decide) ?_;walk_at "ev"
  with_reducible refine s_seq ?_
  walk_at "ev";refine iteF' (by decide) ?_;walk_at "ev"
  with_reducible refine s_seq ?_
  walk_at "ev";refine new_i (by simp) fun q2 G2 hq2 e2 s2=>?_
  refine q_inT e2 rfl rfl ?_;walk_at "ev";refine iteT' (by decide +kernel) ?_;walk_at "ev";refine q_lenT (s2 _ _ e) ?_;walk_at "ev";refine iteT' (by simp) ?_;walk_at "ev";refine q_ixT (s2 _ _ e) (atI0 _ _) ?_;walk_at "ev";exact is_operand_op ho fun G1 s1=>k G1 ((s.trans s2).trans s1)
 | skip=>
  with_reducible refine s_seq ?_
  walk_at "ev";refine iteF' (by decide) ?_;walk_at "ev"
  with_reducible refine s_seq ?_
  walk_at "ev";refine iteF' (by decide) ?_;walk_at "ev"
  with_reducible refine s_seq ?_
  walk_at "ev";refine iteF' (by decide) ?_;walk_at "ev"
  with_reducible refine s_seq ?_
  walk_at "ev";refine new_i (by simp) fun q2 G2 hq2 e2 s2=>?_
  refine q_inT e2 rfl rfl ?_;walk_at "ev";refine iteF' (by decide +kernel) ?_;walk_at "ev";refine iteT' (by decide) ?_;walk_at "ev";refine q_lenT (s2 _ _ e) ?_;walk_at "ev";have e0:decide (V.int ((([]:List V).length:Nat):Int)=V.int 0)=true:=by decide
  rw[e0];exact k G2 (s.trans s2)
end RD
namespace RD
open PySem PySem.Spec L2
theorem ix0{α:Type}(a b c d:α):ixN [a,b,c,d].length 0=some 0:=by
 show ixN 4 0=some 0;decide
theorem ix1{α:Type}(a b c d:α):ixN [a,b,c,d].length 1=some 1:=by
 show ixN 4 1=some 1;decide
theorem ix2{α:Type}(a b c d:α):ixN [a,b,c,d].length 2=some 2:=by
 show ixN 4 2=some 2;decide
structure BagP(H:Hp)(b:Addr)(i0 i1 i2:Int)(c:Addr)(ns:List Int):Prop where
 hb:H b=some (.lst [.int i0,.int i1,.int i2,.ref c])
 hc:H c=some (.lst (ns.map V.int))
 p0:0<=i0
 p1:0<=i1
 p1':i1<2147483647
 p2:0<=i2
 pn:∀x∈ns,0<=x
theorem BagP.bag{H:Hp}{b:Addr}{i0 i1 i2:Int}{c:Addr}{ns:List Int}(h:BagP H b i0 i1 i2 c ns):Bag H b c:=⟨i0,i1,i2,ns,h.hb,h.hc,h.p0,h.p1,h.p1',h.p2,h.pn⟩
theorem Bag.parts{H:Hp}{b c:Addr}(h:Bag H b c):∃i0 i1 i2 ns,BagP H b i0 i1 i2 c ns:=by
 obtain⟨i0,i1,i2,ns,h1,h2,h3,h4,h5,h6,h7⟩:=h.ex;exact⟨i0,i1,i2,ns,h1,h2,h3,h4,h5,h6,h7⟩
theorem BagP.ne{H:Hp}{b:Addr}{i0 i1 i2:Int}{c:Addr}{ns:List Int}(h:BagP H b i0 i1 i2 c ns):c≠b:=ne_of h.hc h.hb (by
  intro z;have z:=HO.lst.inj z;cases ns with
  | nil=>cases z
  | cons a r=>cases r with
   | nil=>cases z
   | cons a2 r=>cases r with
    | nil=>cases z
    | cons a3 r=>cases r with
     | nil=>cases z
     | cons a4 r=>simp at z)
theorem BagP.put{H:Hp}{b:Addr}{i0 i1 i2 j0 j1 j2:Int}{c:Addr}{ns:List Int}(h:BagP H b i0 i1 i2 c ns)(q0:0<=j0)(q1:0<=j1)(q1':j1<2147483647)(q2:0<=j2) :
  BagP (upd H b (.lst [.int j0,.int j1,.int j2,.ref c])) b j0 j1 j2 c ns:=⟨upd_same,by rw[upd_ne h.ne];exact h.hc,q0,q1,q1',q2,h.pn⟩
theorem take_ok{K:PySem.W.Frag}{H:Hp}{b c:Addr}{many:Int}{Q:VK}{E:XK}(hB:Bag H b c)(h0:0<many)(h1:many<2 ^ 64)
  (k:∀n H',0<=n->n<many->Bag H' b c->Kept b H H'->Q (.int n) H'):sp_take K [.ref b,.int many] H Q E:=by
 obtain⟨i0,i1,i2,ns,B⟩:=hB.parts;refine⟨rfl,?_⟩;unfold t_take;refine s_cut (P:=fun σ H1=>∃x2 x3 j0 j1 j2,σ=[some (.ref b),some (.int many),x2,x3,none,none,none]/\BagP H1 b j0 j1 j2 c ns/\Kept b H H1) ?_ ?_
 ·-- the second part
  rintro _ H1 ⟨x2,x3,j0,j1,j2,rfl,B1,k1⟩;refine s_cut (P:=fun σ H2=>H2=H1/\σ=[some (.ref b),some (.int many),x2,x3,none,none,none]) ?_ ?_
  ·rintro _ _ ⟨rfl,rfl⟩
   walk_at "go";refine q_ixL B1.hb (atI1 _ _ _) ?_;walk_at "go";refine q_int (.inr (by omega)) ?_;walk_at "go";refine q_int (by omega) ?_;walk_at "go";have g1:=Int.emod_nonneg (j1 * 39373) (show(1000000007:Int)≠0 by decide);have g2:=Int.emod_lt_of_pos (j1 * 39373) (show(0:Int)<1000000007 by decide);refine q_int (.inr (by omega)) ?_;walk_at "go";refine q_int (by omega) ?_;walk_at "go";have g3:=Int.emod_nonneg (j1 * 39373 % 1000000007 * 30011) (show(998244353:Int)≠0 by decide);have g4:=Int.emod_lt_of_pos (j1 * 39373 % 1000000007 * 30011) (show(0:Int)<998244353 by decide);refine ite2 (fun _=>?_) (fun _=>?_)
   ·walk_at "go"
    refine q_int (.inr (by omega)) ?_;walk_at "go";refine q_int h0 ?_;exact k _ _ (Int.emod_nonneg _ (by omega)) (Int.emod_lt_of_pos _ h0) B1.bag k1
   ·walk_at "go"
    refine q_int (by omega) ?_;walk_at "go";refine q_int h0 ?_;exact k _ _ (Int.emod_nonneg _ (by omega)) (Int.emod_lt_of_pos _ h0) B1.bag k1
  ·intro nx hnx
   walk_at "go";refine q_ixL B1.hb (atI0 _ _) ?_;walk_at "go";refine ite2 (fun _=>?_) (fun _=>?_)
   ·walk_at "go"
    refine q_ixL B1.hb (atI0 _ _) ?_;walk_at "go";refine q_int h0 ?_;walk_at "go";refine q_ixL B1.hb (atI0 _ _) ?_;walk_at "go";refine q_int ⟨h0,h1⟩ ?_;walk_at "go";refine q_set B1.hb (ix0 _ _ _ _) ?_;walk_at "go";refine k _ _ (Int.emod_nonneg _ (by omega)) (Int.emod_lt_of_pos _ h0) (B1.put (Int.ediv_nonneg B1.p0 (by omega)) B1.p1 B1.p1' B1.p2).bag (k1.trans (Kept.upd _ _ _))
   ·walk_at "go"
    exact hnx _ _ ⟨rfl,rfl⟩
 ·intro nx hnx
  walk_at "go";refine q_ixL B.hb (atI0 _ _) ?_;walk_at "go";refine ite2 (fun e=>?_) (fun _=>?_)
  ·have e:i0=0:=by simpa using e
   subst e
   with_reducible refine s_seq ?_
   walk_at "ev"
   with_reducible refine s_cut (P:=fun σ H1=>∃m x3 j0 j2,σ=[some (.ref b),some (.int many),some (.int m),x3,none,none,none]/\BagP H1 b j0 i1 j2 c ns/\Kept b H H1/\0<=m) ?_ ?_
   ·rintro _ H1 ⟨m,x3,j0,j2,rfl,B1,k1,hm⟩
    walk_at "go";refine q_ixL B1.hb (atI1 _ _ _) ?_;walk_at "go";refine q_int (.inr (by omega)) ?_;walk_at "go";refine q_int (by omega) ?_;walk_at "go";refine q_set B1.hb (ix1 _ _ _ _) ?_;have g1:=Int.emod_nonneg (i1 * 48271+m) (show(2147483647:Int)≠0 by decide);have g2:=Int.emod_lt_of_pos (i1 * 48271+m) (show(0:Int)<2147483647 by decide);exact hnx _ _ ⟨_,x3,j0,_,j2,rfl,B1.put B1.p0 g1 g2 B1.p2,k1.trans (Kept.upd _ _ _)⟩
   ·intro nx2 hnx2
    walk_at "go";refine q_ixL B.hb (atI2 _ _ _ _) ?_;walk_at "go";refine q_ixL B.hb (atI3 _ _ _ _ _) ?_;walk_at "go";refine q_lenL B.hc ?_;walk_at "go";refine ite2 (fun e=>?_) (fun _=>?_)
    ·have e:i2<(ns.length:Int):=by simpa using e
     obtain⟨v,ev,ev2⟩:=atI_of (xs:=ns.map V.int) B.p2 (by simpa using e)
     obtain⟨z,ez,rfl⟩:∃z,ns[i2.toNat]? = some z/\v=V.int z:=by
      rw[List.getElem?_map]at ev2;cases q:ns[i2.toNat]? with
      | none=>rw[q]at ev2;cases ev2
      | some z=>rw[q]at ev2;exact⟨z,rfl,(Option.some.inj ev2).symm⟩
     have hz:0<=z:=B.pn z (List.mem_of_getElem? ez);walk_at "go";refine q_ixL B.hb (atI3 _ _ _ _ _) ?_;walk_at "go";refine q_ixL B.hb (atI2 _ _ _ _) ?_;walk_at "go";refine q_ixL B.hc ev ?_;walk_at "go";refine q_get B.hb (by decide) rfl ?_;walk_at "ev";refine q_set B.hb (ix2 _ _ _ _) ?_;have B2:=B.put (j0:=0) (j1:=i1) (j2:=i2+1) (Int.le_refl _) B.p1 B.p1' (by have:=B.p2;omega)
     with_reducible refine s_cut (P:=fun σ H1=>∃j0,σ=[some (.ref b),some (.int many),some (.int 12345),some (.int z),none,none,none]/\BagP H1 b j0 i1 (i2+1) c ns/\Kept b H H1) ?_ ?_
     ·rintro _ H1 ⟨j0,rfl,B1,k1⟩
      walk_at "go";refine q_int (by omega) ?_;walk_at "go";have g1:=Int.emod_nonneg z (show(2147483647:Int)≠0 by decide);exact hnx2 _ _ ⟨_,_,j0,_,rfl,B1,k1,by omega⟩
     ·intro nx3 hnx3
      walk_at "go";refine ite2 (fun _=>?_) (fun _=>?_)
      ·walk_at "go"
       refine q_set B2.hb (ix0 _ _ _ _) ?_;refine hnx3 _ _ ⟨z,rfl,?_,(Kept.upd _ _ _).trans (Kept.upd _ _ _)⟩;exact B2.put hz B.p1 B.p1' (by have:=B.p2;omega)
      ·walk_at "go"
       exact hnx3 _ _ ⟨0,rfl,B2,Kept.upd _ _ _⟩
    ·walk_at "go"
     exact hnx2 _ _ ⟨_,_,0,i2,rfl,B,Kept.refl _ _,by decide⟩
  ·walk_at "go"
   exact hnx _ _ ⟨_,_,i0,i1,i2,rfl,B,Kept.refl _ _⟩
end RD
namespace RD
open PySem PySem.Spec L2
theorem bag_ok{K:PySem.W.Frag}{H:Hp}{a:Addr}{ns:List Int}{Q:VK}{E:XK}(hS:SqL K H a (ns.map V.int))(hl:ns.length<=63)
  (k:∀b c H',Bag H' b c->Same H H'->H b=none->Q (.ref b) H'):sp_bag K [.ref a] H Q E:=by
 refine⟨rfl,?_⟩;unfold t_bag;walk_at "go"
 with_reducible refine s_comp (s_ilst ?_)
 walk_at "go";refine⟨a,_,rfl,hS,fun p hp=>⟨p,rfl,⟨_,SqL.of upd_same⟩,fun D hD=>?_⟩⟩
 have hcut:cutV (ns.map V.int) none (some 63)=ns.map V.int:=by
  unfold cutV;have e:HT.sIx (ns.map V.int).length 0 none=0:=rfl
  have e2:HT.sIx (ns.map V.int).length (ns.map V.int).length (some 63)=ns.length:=by
   have:=HT.sIx_nat (ns.map V.int).length (ns.map V.int).length 63;rw[List.length_map]at this ⊢;rw[show((63:Nat):Int)=63 from rfl]at this;rw[this];omega
  rw[e,e2,List.drop_zero,Nat.sub_zero,List.take_of_length_le (by simp)]
 rw[hcut]at hD ⊢;have s1:Same H (upd H p (.lst (ns.map V.int))):=same_new hp;refine comp_lst (xs:=ns.map V.int) (fun i ys H2=>ys=(ns.take i).map (fun x=>V.int (if x<0 then -x else x))/\H2=upd (upd H p (.lst (ns.map V.int))) D (.lst ys)) ⟨by simp,rfl⟩ ?_ ?_ ?_ ?_
 ·rintro i ys _ ⟨_,rfl⟩
  exact upd_same
 ·rintro i ys _ _ ⟨_,rfl⟩
  refine SqL.of ?_;rw[upd_ne (ne_of_none upd_same hD),upd_same]
 ·rintro i x ys _ hx ⟨rfl,rfl⟩ R hR
  rw[List.getElem?_map]at hx;cases e:ns[i]? with
  | none=>rw[e]at hx;cases hx
  | some z=>
   rw[e]at hx;cases hx;walk_at "ev";refine hR _ _ upd_same (smallT ?_) ⟨?_,?_⟩
   ·rw[List.length_map,List.length_take];omega
   ·rw[List.take_add_one,e];simp
   ·rw[upd_upd]
 ·rintro ys _ ⟨rfl,rfl⟩
  walk_at "ev";refine new_i (by simp) fun b H4 hb hb4 s4=>?_
  rw[List.length_map,List.take_of_length_le (Nat.le_refl _)]at hb s4;refine k b D _ ⟨0,1234567891,0,ns.map (fun x=>if x<0 then -x else x),hb4,?_,by decide,by decide,by decide,by decide,?_⟩ ?_ ?_
  ·rw[s4 D _ upd_same,List.map_map];rfl
  ·intro x hx
   obtain⟨y,_,rfl⟩:=List.mem_map.mp hx;split <;> omega
  ·exact(s1.trans (same_new hD)).trans s4
  ·exact(s1.trans (same_new hD)).free hb
end RD
namespace RD
open PySem PySem.Spec L2
structure NamesN(H:Hp)(a:Addr):Prop where
 ex:∃ss:List Str,H a=some (.lst (ss.map V.str))/\ss≠[]/\ss.length<=8/\∀s∈ss,NmS s
theorem NamesN.kept{b c a:Addr}{H H':Hp}(h:NamesN H a)(hB:Bag H b c)(k:Kept b H H'):NamesN H' a/\a≠b:=by
 obtain⟨ss,h1,h2,h3,h4⟩:=h.ex;obtain⟨i0,i1,i2,ns,hb,_⟩:=hB.ex
 have ne:a≠b:=ne_of h1 hb (by
  intro z;have z:=HO.lst.inj z;cases ss with
  | nil=>exact h2 rfl
  | cons s r=>cases z)
 exact⟨⟨ss,k.1 a _ h1 ne,h2,h3,h4⟩,ne⟩
theorem NamesN.same{H H':Hp}{a:Addr}(h:NamesN H a)(s:Same H H'):NamesN H' a:=by
 obtain⟨ss,h1,h2,h3⟩:=h.ex;exact⟨ss,s _ _ h1,h2,h3⟩
theorem sgn_let:∀c∈LET.cps.toList,sgn LET c=true:=by decide +kernel
theorem sgn_sgn:∀c∈SGN.cps.toList,sgn SGN c=true:=by decide +kernel
theorem let_sgn:∀c∈LET.cps.toList,sgn SGN c=true:=by decide +kernel
theorem join_signs(cs:List Nat):Txt.join (Str.ofString "") (cs.map fun k=>(⟨#[k]⟩:Str))=⟨cs.toArray⟩:=by
 show Builtin.Str.glued (PySem.Str.ofString "") _=_;rw[StrLaws.glued_eq_join];exact PyProof.Rows.join_ones cs
theorem nm_of{ch:Nat}{cs:List Nat}(h1:ch∈LET.cps.toList)(h2:∀c∈cs,c∈SGN.cps.toList)(hl:cs.length<=7):NmS ((⟨#[ch]⟩:Str)++⟨cs.toArray⟩):=by
 have hlen:((⟨#[ch]⟩:Str)++⟨cs.toArray⟩).length=cs.length+1:=by
  rw[Str.length_append];show 1+cs.toArray.size=_;rw[List.size_toArray];omega
 have hc:((⟨#[ch]⟩:Str)++⟨cs.toArray⟩).cps=(ch::cs).toArray:=by
  rw[Str.cps_append];show #[ch]++cs.toArray=_;simp
 refine⟨?_,by omega⟩;unfold nameB;rw[hlen,hc];have e0:(ch::cs).toArray[0]? = some ch:=by simp
 rw[e0];simp only[Bool.and_eq_true,decide_eq_true_eq,List.all_eq_true];refine⟨⟨⟨by omega,by omega⟩,sgn_let ch h1⟩,?_⟩;intro c hcc;have hcc:c∈ch::cs:=by simpa using hcc
 rcases List.mem_cons.mp hcc with q | q
 ·subst q;exact let_sgn _ h1
 ·exact sgn_sgn c (h2 c q)
theorem snoc_nm{ss:List Str}{s:Str}(h:∀s∈ss,NmS s)(hs:NmS s):∀t∈ss++[s],NmS t:=by
 intro t ht;rcases List.mem_append.mp ht with q | q
 ·exact h t q
 ·rw[List.mem_singleton.mp q];exact hs
end RD
namespace RD
open PySem PySem.Spec L2
structure PoolN(H:Hp)(a:Addr):Prop where
 ex:∃ps:List Addr,H a=some (.lst (ps.map V.ref))/\ps≠[]/\ps.length<=8/\∀p∈ps,DeedN H p
theorem refs_ne{H:Hp}{b c a:Addr}{as:List Addr}(hB:Bag H b c)(h:H a=some (.lst (as.map V.ref))):a≠b:=by
 obtain⟨i0,i1,i2,ns,hb,_⟩:=hB.ex;refine ne_of h hb ?_;intro z;have z:=HO.lst.inj z;cases as with
 | nil=>cases z
 | cons s r=>cases z
theorem short_ne{H:Hp}{b c a:Addr}{xs:List V}(hB:Bag H b c)(h:H a=some (.lst xs))(hl:xs.length<=3):a≠b:=by
 obtain⟨i0,i1,i2,ns,hb,_⟩:=hB.ex;refine ne_of h hb ?_;intro z;have z:=HO.lst.inj z;rw[z]at hl;simp at hl
theorem PoolN.kept{b c a:Addr}{H H':Hp}(h:PoolN H a)(hB:Bag H b c)(k:Kept b H H'):PoolN H' a:=by
 obtain⟨ps,h1,h2,h3,h4⟩:=h.ex;exact⟨ps,k.1 a _ h1 (refs_ne hB h1),h2,h3,fun p hp=>(h4 p hp).ts (Kept.ts k hB)⟩
theorem PoolN.same{a:Addr}{H H':Hp}(h:PoolN H a)(k:Same H H'):PoolN H' a:=by
 obtain⟨ps,h1,h2,h3,h4⟩:=h.ex;exact⟨ps,k a _ h1,h2,h3,fun p hp=>(h4 p hp).ts (Same.ts k)⟩
structure NetAt(H:Hp)(a:Addr)(N:List (List Nat)):Prop where
 ex:∃as:List Addr,H a=some (.lst (as.map V.ref))/\as.length=N.length/\∀(i:Nat) x l,as[i]? = some x->N[i]? = some l->H x=some (.lst (IL l))
theorem NetAt.same{a:Addr}{H H':Hp}{N:List (List Nat)}(h:NetAt H a N)(k:Same H H'):NetAt H' a N:=by
 obtain⟨as,h1,h2,h3⟩:=h.ex;exact⟨as,k a _ h1,h2,fun i x l e1 e2=>k _ _ (h3 i x l e1 e2)⟩
theorem NetAt.kept{b c a:Addr}{H H':Hp}{N:List (List Nat)}(h:NetAt H a N)(hB:Bag H b c)(hN:∀l∈N,l.length<=2)(k:Kept b H H'):NetAt H' a N:=by
 obtain⟨as,h1,h2,h3⟩:=h.ex;refine⟨as,k.1 a _ h1 (refs_ne hB h1),h2,fun i x l e1 e2=>?_⟩;have q:=h3 i x l e1 e2;refine k.1 _ _ q (short_ne hB q ?_);rw[IL_len];have:=hN l (List.mem_of_getElem? e2);omega
theorem NetAt.at{a:Addr}{H:Hp}{N:List (List Nat)}(h:NetAt H a N){k:Nat}{l:List Nat}(e:N[k]? = some l):∃(xs:List V) (x:Addr),H a=some (.lst xs)/\atI xs (k:Int)=some (.ref x)/\H x=some (.lst (IL l))/\xs.length=N.length:=by
 obtain⟨as,h1,h2,h3⟩:=h.ex;have hk:k<as.length:=by rw[h2];exact(List.getElem?_eq_some_iff.mp e).1
 have e1:as[k]? = some as[k]:=by simp
 refine⟨_,as[k],h1,?_,h3 k _ l e1 e,by rw[List.length_map,h2]⟩;exact atI_nat (by rw[List.getElem?_map,e1];rfl)
theorem NetAt.len{a:Addr}{H:Hp}{N:List (List Nat)}(h:NetAt H a N):∃xs,H a=some (.lst xs)/\xs.length=N.length:=by
 obtain⟨as,h1,h2,h3⟩:=h.ex;exact⟨_,h1,by rw[List.length_map,h2]⟩
theorem IL_at{l:List Nat}{j t:Nat}(e:l[j]? = some t):atI (IL l) (j:Int)=some (.int (t:Int)):=atI_nat (by unfold IL;rw[List.getElem?_map,e];rfl)
theorem pick_ok{K:PySem.W.Frag}{H:Hp}{b c a:Addr}{Q:VK}{E:XK}(hB:Bag H b c){xs:List V}(ha:H a=some (.lst xs))(na:a≠b)(h0:xs≠[])(hl:xs.length<=100)
  (k:∀(n:Int) v H',atI xs n=some v->v∈xs->H' a=some (.lst xs)->Bag H' b c->Kept b H H'->Q (.int n) H'):sp_take K [.ref b,.int xs.length] H Q E:=by
 have hp:0<xs.length:=List.length_pos_iff.mpr h0;refine take_ok hB (by omega) (by omega) fun n H1 n0 n1 B1 k1=>?_
 obtain⟨v,hv,hv2⟩:=atI_of (xs:=xs) n0 n1;exact k n v H1 hv (List.mem_of_getElem? hv2) (k1.1 _ _ ha na) B1 k1
theorem snoc_cases{α:Type}(l:List α):l=[]\/∃r a,l=r++[a]:=by
 cases h:l.reverse with
 | nil=>left;simpa using h
 | cons a r=>
  right;refine⟨r.reverse,a,?_⟩;have:=congrArg List.reverse h;simpa using this
theorem atI_last{α:Type}{xs:List α}{a:α}:atI (xs++[a]) (-1)=some a:=by
 unfold atI ixN;rw[if_neg (by decide),if_pos (by rw[List.length_append,List.length_singleton];omega)];have:(-1+((xs++[a]).length:Int)).toNat=xs.length:=by rw[List.length_append,List.length_singleton];omega
 rw[this];simp
end RD
namespace RD
open PySem PySem.Spec L2
structure NetI(H0 H:Hp)(b c D:Addr)(m:Nat)(as:List Addr)(N:List (List Nat)):Prop where
 bag:Bag H b c
 kept:Kept b H0 H
 hD:H D=some (.lst (as.map V.ref))
 nb:D≠b
 nc:D≠c
 len:as.length=N.length
 at_:∀(i:Nat) x l,as[i]? = some x->N[i]? = some l->H x=some (.lst (IL l))/\x≠D/\x≠b
 small:∀l∈N,l.length<=2/\∀t∈l,t<m
theorem NetI.next{H0 H H':Hp}{b c D:Addr}{m:Nat}{as:List Addr}{N:List (List Nat)}(h:NetI H0 H b c D m as N)(B:Bag H' b c)(k:Kept b H H'):NetI H0 H' b c D m as N:=
 ⟨B,h.kept.trans k,k.1 _ _ h.hD h.nb,h.nb,h.nc,h.len,fun i x l e1 e2=>let⟨q1,q2,q3⟩:=h.at_ i x l e1 e2; ⟨k.1 _ _ q1 q3,q2,q3⟩,h.small⟩
structure SomeI(H:Hp)(b D q:Addr)(m:Nat)(l:List Nat):Prop where
 h:H q=some (.lst (IL l))
 nD:q≠D
 nb:q≠b
 len:l.length<=2
 lt:∀t∈l,t<m
theorem SomeI.next{H H':Hp}{b D q:Addr}{m:Nat}{l:List Nat}(h:SomeI H b D q m l)(k:Kept b H H'):SomeI H' b D q m l:=⟨k.1 _ _ h.h h.nb,h.nD,h.nb,h.len,h.lt⟩
theorem snocAt{α:Type}{xs:List α}{x y:α}{i:Nat}(h:(xs++[x])[i]? = some y):(i<xs.length/\xs[i]? = some y)\/(i=xs.length/\y=x):=by
 by_cases hi:i<xs.length
 ·left
  rw[List.getElem?_append_left hi]at h;exact⟨hi,h⟩
 ·right
  rw[List.getElem?_append_right (by omega)]at h
  have:i - xs.length=0:=by
   have:=(List.getElem?_eq_some_iff.mp h).1;simp at this;omega
  rw[this]at h;simp at h;exact⟨by omega,h.symm⟩
theorem dec_i{a b:Int}:decide (V.int a=V.int b)=decide (a=b):=by
 by_cases h:a=b
 ·subst h;simp
 ·rw[decide_eq_false h,decide_eq_false (fun z=>h (V.int.inj z))]
end RD
namespace RD
open PySem PySem.Spec L2
theorem last_at{l:List Nat}(h:l≠[]):∃z:Nat,atI (IL l) (-1)=some (.int (z:Int))/\z∈l:=by
 rcases snoc_cases l with rfl | ⟨r,z,rfl⟩
 ·exact(h rfl).elim
 ·refine⟨z,?_,by simp⟩
  rw[show IL (r++[z])=IL r++[V.int (z:Int)] by simp[IL]];exact atI_last
theorem net_ok{K:PySem.W.Frag}{H:Hp}{b c:Addr}{m:Nat}{Q:VK}{E:XK}(hB:Bag H b c)(m0:0<m)(m1:m<=24)
  (k:∀a N H',NetAt H' a N->N.length=m->(∀l∈N,l.length<=2/\∀t∈l,t<m)->N[m - 1]? = some []->Bag H' b c->Kept b H H'->Q (.ref a) H'):sp_net K [.ref b,.int (m:Int)] H Q E:=by
 refine⟨rfl,?_⟩;unfold t_net
 with_reducible refine s_seq ?_
 walk_at "ev";refine new_i (by simp) fun D H1 hD e1 s1=>?_
 walk_at "ev";obtain⟨nb,nc⟩:=hB.nb hD;have B1:=hB.same s1
 with_reducible refine s_seq ?_
 with_reducible refine s_for (s_rng1 ?_)
 walk_at "ev";refine⟨m,rfl,by omega,by omega,?_⟩;rw[Int.toNat_natCast];refine for_range (fun i σ H2=>∃x3 x4 x5 x6 as N,σ=[some (.ref b),some (.int (m:Int)),some (.ref D),x3,x4,x5,x6]/\NetI H H2 b c D m as N/\N.length=i/\(i=m->N[m - 1]? = some [])) ?_ ?_ ?_
 ·exact⟨_,_,_,_,[],[],rfl,⟨B1,Kept.of_same s1,e1,nb,nc,rfl,fun i x l e=>by simp at e,fun l h=>by simp at h⟩,rfl,fun z=>by omega⟩
 ·rintro i _ H2 hi ⟨x3,x4,x5,x6,as,N,rfl,I2,hlen,_⟩
  walk_at "ev";rw[Int.zero_add]
  with_reducible refine s_seq ?_
  walk_at "ev";refine q_min ?_;walk_at "ev"
  obtain⟨r,hr,hrm⟩:∃r:Nat,(if(m:Int) - 1<(i:Int)+1 then (m:Int) - 1 else (i:Int)+1)=(r:Int)/\r<m:=by
   by_cases h:(m:Int) - 1<(i:Int)+1
   ·exact⟨m - 1,by rw[if_pos h];omega,by omega⟩
   ·exact⟨i+1,by rw[if_neg h];omega,by omega⟩
  rw[hr]
  with_reducible refine s_seq ?_
  walk_at "ev";refine take_ok I2.bag (by omega) (by omega) fun j H3 j0 j1 B3 k3=>?_
  obtain⟨j,rfl⟩:=Int.eq_ofNat_of_zero_le j0;walk_at "ev";refine new_i (by simp) fun q H4 hq e4 s4=>?_
  walk_at "ev";have I3:=I2.next B3 k3;have I4:=I3.next (B3.same s4) (Kept.of_same s4)
  have S4:SomeI H4 b D q m [r,j]:=⟨e4,(ne_of_none I3.hD hq).symm,(B3.nb hq).1,by simp,fun t ht=>by
   simp only[List.mem_cons,List.not_mem_nil,or_false]at ht;rcases ht with rfl | rfl
   ·exact hrm
   ·omega⟩
  with_reducible refine s_seq ?_
  walk_at "ev";refine take_ok I4.bag (by decide) (by decide) fun w H5 w0 w1 B5 k5=>?_
  walk_at "ev";have I5:=I4.next B5 k5;have S5:=S4.next k5
  with_reducible refine s_cut (P:=fun σ H6=>∃q l,σ=[some (.ref b),some (.int (m:Int)),some (.ref D),some (.int (i:Int)),some (.int (r:Int)),some (.ref q),some (.int w)]/\NetI H H6 b c D m as N/\SomeI H6 b D q m l/\l.length=2) ?_ ?_
  rotate_left
  ·intro nx hnx
   walk_at "ev";refine ite2 (fun _=>?_) (fun _=>?_)
   ·walk_at "ev"
    refine q_ixL S5.h (atI1 _ _ _) ?_;walk_at "ev";refine new_i (by simp) fun q6 H6 hq6 e6 s6=>?_
    exact hnx _ _ ⟨q6,[j,r],rfl,I5.next (B5.same s6) (Kept.of_same s6),⟨e6,(ne_of_none I5.hD hq6).symm,(B5.nb hq6).1,by simp,fun t ht=>by
     simp only[List.mem_cons,List.not_mem_nil,or_false]at ht;rcases ht with rfl | rfl
     ·exact S5.lt _ (by simp)
     ·exact S5.lt _ (by simp)⟩,rfl⟩
   ·walk_at "ev"
    exact hnx _ _ ⟨q,[r,j],rfl,I5,S5,rfl⟩
  rintro _ H6 ⟨q,l,rfl,I6,S6,hl6⟩
  obtain⟨l0,l1,rfl⟩:∃l0 l1,l=[l0,l1]:=by
   match l,hl6 with
   | [a,b],_=>exact⟨a,b,rfl⟩
  with_reducible refine s_cut (P:=fun σ H6=>∃q l,σ=[some (.ref b),some (.int (m:Int)),some (.ref D),some (.int (i:Int)),some (.int (r:Int)),some (.ref q),some (.int w)]/\NetI H H6 b c D m as N/\SomeI H6 b D q m l/\l.length=2) ?_ ?_
  rotate_left
  ·intro nx hnx
   walk_at "ev";refine ite2 (fun _=>?_) (fun _=>?_)
   ·walk_at "ev"
    refine q_ixL S6.h (atI1 _ _ _) ?_;walk_at "ev";refine take_ok I6.bag (by omega) (by omega) fun j2 H7 z0 z1 B7 k7=>?_
    obtain⟨j2,rfl⟩:=Int.eq_ofNat_of_zero_le z0;walk_at "ev";have I7:=I6.next B7 k7;refine new_i (by simp) fun q8 H8 hq8 e8 s8=>?_
    exact hnx _ _ ⟨q8,[l1,j2],rfl,I7.next (B7.same s8) (Kept.of_same s8),⟨e8,(ne_of_none I7.hD hq8).symm,(B7.nb hq8).1,by simp,fun t ht=>by
     simp only[List.mem_cons,List.not_mem_nil,or_false]at ht;rcases ht with rfl | rfl
     ·exact S6.lt _ (by simp)
     ·omega⟩,rfl⟩
   ·walk_at "ev"
    exact hnx _ _ ⟨q,_,rfl,I6,S6,rfl⟩
  clear S6 I6 l0 l1 hl6 S5 I5 S4 I4 I3 B3 k3 B5 k5 s4 e4 hq;rintro _ H6 ⟨q,l,rfl,I6,S6,hl6⟩
  obtain⟨l0,l1,rfl⟩:∃l0 l1,l=[l0,l1]:=by
   match l,hl6 with
   | [a,b],_=>exact⟨a,b,rfl⟩
  with_reducible refine s_cut (P:=fun σ H6=>∃q l,σ=[some (.ref b),some (.int (m:Int)),some (.ref D),some (.int (i:Int)),some (.int (r:Int)),some (.ref q),some (.int w)]/\NetI H H6 b c D m as N/\SomeI H6 b D q m l/\l≠[]) ?_ ?_
  rotate_left
  ·intro nx hnx
   have one:∀H7,H7=H6->New (.lst [V.int (r:Int)]) 1 H7 fun v H1=>nx [some (.ref b),some (.int (m:Int)),some (.ref D),some (.int (i:Int)),some (.int (r:Int)),some v,some (.int w)] H1:=by
    rintro _ rfl;refine new_i (by simp) fun q8 H8 hq8 e8 s8=>?_
    exact hnx _ _ ⟨q8,[r],rfl,I6.next (I6.bag.same s8) (Kept.of_same s8),⟨e8,(ne_of_none I6.hD hq8).symm,(I6.bag.nb hq8).1,by simp,fun t ht=>by rw[List.mem_singleton.mp ht];exact hrm⟩,by simp⟩
   walk_at "ev";refine ite2 (fun a3=>?_) (fun a3=>?_)
   ·walk_at "ev"
    refine ite2 (fun a7=>?_) (fun a7=>?_)
    ·refine iteT' rfl ?_
     walk_at "ev";exact one _ rfl
    ·walk_at "ev"
     refine ite2 (fun a1=>?_) (fun a1=>?_)
     ·walk_at "ev"
      exact one _ rfl
     ·walk_at "ev"
      exact hnx _ _ ⟨q,_,rfl,I6,S6,by simp⟩
   ·walk_at "ev"
    refine iteF' rfl ?_;walk_at "ev";refine ite2 (fun a1=>?_) (fun a1=>?_)
    ·walk_at "ev"
     exact one _ rfl
    ·walk_at "ev"
     exact hnx _ _ ⟨q,_,rfl,I6,S6,by simp⟩
  clear S6 I6 l0 l1 hl6;rintro _ H6 ⟨q,l,rfl,I6,S6,hl6⟩
  with_reducible refine s_cut (P:=fun σ H6=>∃q l,σ=[some (.ref b),some (.int (m:Int)),some (.ref D),some (.int (i:Int)),some (.int (r:Int)),some (.ref q),some (.int w)]/\NetI H H6 b c D m as N/\SomeI H6 b D q m l) ?_ ?_
  rotate_left
  ·intro nx hnx
   walk_at "ev";refine ite2 (fun a7=>?_) (fun a7=>?_)
   ·walk_at "ev"
    obtain⟨z,hz,hzl⟩:=last_at hl6;refine q_ixL S6.h hz ?_;walk_at "ev";refine new_i (by simp) fun q8 H8 hq8 e8 s8=>?_
    exact hnx _ _ ⟨q8,[z],rfl,I6.next (I6.bag.same s8) (Kept.of_same s8),⟨e8,(ne_of_none I6.hD hq8).symm,(I6.bag.nb hq8).1,by simp,fun t ht=>by rw[List.mem_singleton.mp ht];exact S6.lt _ hzl⟩⟩
   ·walk_at "ev"
    exact hnx _ _ ⟨q,_,rfl,I6,S6⟩
  clear S6 I6 hl6 l;rintro _ H6 ⟨q,l,rfl,I6,S6⟩
  with_reducible refine s_cut (P:=fun σ H6=>∃q l,σ=[some (.ref b),some (.int (m:Int)),some (.ref D),some (.int (i:Int)),some (.int (r:Int)),some (.ref q),some (.int w)]/\NetI H H6 b c D m as N/\SomeI H6 b D q m l/\(i+1=m->l=[])) ?_ ?_
  rotate_left
  ·intro nx hnx
   have none:∀H7,NetI H H7 b c D m as N->New (.lst []) 0 H7 fun v H1=>nx [some (.ref b),some (.int (m:Int)),some (.ref D),some (.int (i:Int)),some (.int (r:Int)),some v,some (.int w)] H1:=by
    intro H7 I7;refine new_i (by simp) fun q8 H8 hq8 e8 s8=>?_
    exact hnx _ _ ⟨q8,[],rfl,I7.next (I7.bag.same s8) (Kept.of_same s8),⟨e8,(ne_of_none I7.hD hq8).symm,(I7.bag.nb hq8).1,by simp,fun t ht=>by simp at ht⟩,fun _=>rfl⟩
   walk_at "ev";refine ite2 (fun a1=>?_) (fun a1=>?_)
   ·refine iteT' rfl ?_
    walk_at "ev";exact none _ I6
   ·rw[dec_i]at a1
    have a1:¬((i:Int)=(m:Int) - 1):=fun z=>a1 (decide_eq_true z)
    walk_at "ev";refine ite2 (fun a6=>?_) (fun a6=>?_)
    ·walk_at "ev"
     refine take_ok I6.bag (by decide) (by decide) fun z H7 z0 z1 B7 k7=>?_
     walk_at "ev";refine ite2 (fun a0=>?_) (fun a0=>?_)
     ·walk_at "ev"
      exact none _ (I6.next B7 k7)
     ·walk_at "ev"
      exact hnx _ _ ⟨q,l,rfl,I6.next B7 k7,S6.next k7,fun z=>by omega⟩
    ·refine iteF' rfl ?_
     walk_at "ev";exact hnx _ _ ⟨q,l,rfl,I6,S6,fun z=>by omega⟩
  clear S6 I6 l;rintro _ H6 ⟨q,l,rfl,I6,S6,hlast⟩;walk_at "ev"
  with_reducible refine s_bm ?_
  walk_at "ev";refine⟨ty_list I6.hD,?_⟩;walk_at "ev";refine q_append I6.hD (smallT (by rw[List.length_map,I6.len];omega)) ?_;have nqc:D≠c:=I6.nc;refine⟨_,_,_,_,as++[q],N++[l],rfl,⟨I6.bag.put I6.nb nqc,I6.kept.put hD,by rw[upd_same];simp,I6.nb,I6.nc,by simp[I6.len],?_,?_⟩,by simp[hlen],?_⟩
  ·intro i' x' l' e1' e2'
   rcases snocAt e1' with ⟨hi1,f1⟩ | ⟨hi1,f1⟩
   ·rcases snocAt e2' with ⟨hi2,f2⟩ | ⟨hi2,f2⟩
    ·obtain⟨g1,g2,g3⟩:=I6.at_ i' x' l' f1 f2
     exact⟨by rw[upd_ne g2];exact g1,g2,g3⟩
    ·have:=I6.len;omega
   ·rcases snocAt e2' with ⟨hi2,f2⟩ | ⟨hi2,f2⟩
    ·have:=I6.len;omega
    ·subst f1 f2
     exact⟨by rw[upd_ne S6.nD];exact S6.h,S6.nD,S6.nb⟩
  ·intro l' hl'
   rcases List.mem_append.mp hl' with z | z
   ·exact I6.small l' z
   ·rw[List.mem_singleton.mp z];exact⟨S6.len,S6.lt⟩
  ·intro z
   rw[hlast z];have:m - 1=N.length:=by omega
   rw[this];simp
 ·rintro _ H2 ⟨x3,x4,x5,x6,as,N,rfl,I2,hlen,hlast⟩
  walk_at "ev";exact k D N H2 ⟨as,I2.hD,I2.len,fun i x l e1 e2=>(I2.at_ i x l e1 e2).1⟩ hlen I2.small (hlast rfl) I2.bag I2.kept
end RD
namespace RD
open PySem PySem.Spec L2
theorem let_in:∀c∈LET.cps.toList,c∈SGN.cps.toList:=by decide +kernel
def NmL(cs:List Nat):Prop:=∃ch r,cs=ch::r/\ch∈LET.cps.toList/\(∀c∈r,c∈SGN.cps.toList)/\r.length<=7
def SL(cs:List Nat):List V:=cs.map fun k=>V.str (⟨#[k]⟩:Str)
theorem SL_len(cs:List Nat):(SL cs).length=cs.length:=by simp[SL]
theorem cons_str(ch:Nat)(r:List Nat):(⟨(ch::r).toArray⟩:Str)=(⟨#[ch]⟩:Str)++⟨r.toArray⟩:=by
 apply congrArg Str.mk;show _ = #[ch]++r.toArray;simp
theorem NmL.nm{cs:List Nat}(h:NmL cs):NmS ⟨cs.toArray⟩:=by
 obtain⟨ch,r,rfl,h1,h2,h3⟩:=h;rw[cons_str];exact nm_of h1 h2 h3
theorem NmL.set{cs:List Nat}(h:NmL cs){i ch:Nat}(hc:ch∈LET.cps.toList):NmL (cs.set i ch):=by
 obtain⟨c0,r,rfl,h1,h2,h3⟩:=h;cases i with
 | zero=>exact⟨ch,r,rfl,hc,h2,h3⟩
 | succ i=>
  refine⟨c0,r.set i ch,rfl,h1,fun c hcc=>?_,by rw[List.length_set];exact h3⟩;rcases List.mem_or_eq_of_mem_set hcc with q | q
  ·exact h2 c q
  ·rw[q];exact let_in ch hc
theorem join_ok{H:Hp}{l:Addr}{cs:List Nat}{Q:VK}(h:H l=some (.lst (SL cs)))(hl:cs.length<=100)(k:Q (.str ⟨cs.toArray⟩) H):qJoin (.str "") [.ref l] H Q:=by
 have he:SL cs=(cs.map fun k=>(⟨#[k]⟩:Str)).map V.str:=by unfold SL;rw[List.map_map];rfl
 rw[he]at h
 have hsum:((cs.map fun k=>(⟨#[k]⟩:Str)).map (·.length)).sum=cs.length:=by
  clear h he hl k;induction cs with
  | nil=>rfl
  | cons s r ih=>
   rw[List.map_cons,List.map_cons,List.sum_cons,ih,List.length_cons];show 1+_=_;omega
 refine q_join h (strsOf_map _) ?_ ?_
 ·rw[hsum,List.length_map]
  show cs.length+cs.length * 0<=_;omega
 ·have hj:Txt.join (Str.ofString "") (cs.map fun k=>(⟨#[k]⟩:Str))=⟨cs.toArray⟩:=join_signs cs
  show Q (.str (Txt.join (Str.ofString "") (cs.map fun k=>(⟨#[k]⟩:Str)))) H;rw[hj];exact k
theorem letters_at{n:Int}(h0:0<=n)(h1:n<26):∃ch,atI ("abcdefghijklmnopqrstuvwxyz" : Str).cps.toList n=some ch/\ch∈LET.cps.toList:=by
 obtain⟨ch,hc,hc2⟩:=atI_of (xs:=("abcdefghijklmnopqrstuvwxyz" : Str).cps.toList) h0 (by
  have:(("abcdefghijklmnopqrstuvwxyz" : Str).cps.toList).length=26:=by decide +kernel
  omega)
 exact⟨ch,hc,List.mem_of_getElem? hc2⟩
theorem signs_at{n:Int}(h0:0<=n)(h1:n<36):∃ch,atI (("abcdefghijklmnopqrstuvwxyz" : Str)++("0123456789" : Str)).cps.toList n=some ch/\ch∈SGN.cps.toList:=by
 obtain⟨ch,hc,hc2⟩:=atI_of (xs:=(("abcdefghijklmnopqrstuvwxyz" : Str)++("0123456789" : Str)).cps.toList) h0 (by
  have:((("abcdefghijklmnopqrstuvwxyz" : Str)++("0123456789" : Str)).cps.toList).length=36:=by decide +kernel
  omega)
 refine⟨ch,hc,?_⟩;rw[<-sgn_eq];exact List.mem_of_getElem? hc2
theorem base_ok{K:PySem.W.Frag}{H:Hp}{b c:Addr}{n:Nat}{Q:VK}{E:XK}(hB:Bag H b c)(n0:1<=n)(n1:n<=8)(k:∀a cs H',H a=none->H' a=some (.lst (SL cs))->NmL cs->cs.length=n->Bag H' b c->Kept b H H'->Q (.ref a) H'):sp_base K [.ref b,.int (n:Int)] H Q E:=by
 refine⟨rfl,?_⟩;unfold t_base
 with_reducible refine s_seq ?_
 walk_at "ev"
 with_reducible refine s_seq ?_
 walk_at "ev";refine q_addS (small (by decide +kernel)) ?_;walk_at "ev";refine take_ok hB (by decide) (by decide) fun i H1 i0 i1 B1 k1=>?_
 obtain⟨ch,hc,hcm⟩:=letters_at i0 i1;refine q_ixS (small (by decide +kernel)) hc ?_;walk_at "ev";refine new_i (by simp) fun p H2 hp e2 s2=>?_
 have B2:=B1.same s2
 with_reducible refine s_comp (s_rng1 ?_)
 walk_at "ev";refine⟨(n:Int) - 1,rfl,by omega,by omega,fun D hD=>?_⟩;obtain⟨nb,nc⟩:=B2.nb hD;obtain⟨pb,_⟩:=B1.nb hp;refine comp_rng (fun i ys H3=>∃cs:List Nat,ys=SL cs/\cs.length=i/\(∀c∈cs,c∈SGN.cps.toList)/\H3 D=some (.lst ys)/\Bag H3 b c/\Kept b H2 H3) ?_ ?_ ?_ ?_
 ·exact⟨[],rfl,rfl,by simp,upd_same,B2.new hD,Kept.new hD⟩
 ·rintro i ys H3 ⟨_,_,_,_,h,_⟩
  exact h
 ·rintro i ys H3 hi ⟨cs,rfl,rfl,h1,hd,B3,k3⟩ R hR
  walk_at "ev";refine take_ok B3 (by decide) (by decide) fun j H4 j0 j1 B4 k4=>?_
  obtain⟨cj,hcj,hcm2⟩:=signs_at j0 j1;refine q_ixS (small (by decide +kernel)) hcj ?_;refine hR _ _ (k4.1 _ _ hd nb) (smallT (by rw[SL_len];omega)) ⟨cs++[cj],by simp[SL],by simp,?_,upd_same,B4.put nb nc,(k3.trans k4).put hD⟩;intro s hs;rcases List.mem_append.mp hs with q | q
  ·exact h1 s q
  ·rw[List.mem_singleton.mp q];exact hcm2
 ·rintro ys H3 ⟨cs,rfl,hn,h1,hd,B3,k3⟩
  refine q_addL (k3.1 _ _ e2 pb) hd (new_i (by simp[SL];omega) fun a H4 ha e4 s4=>?_);have e5:[V.str (⟨#[ch]⟩:Str)]++SL cs=SL (ch::cs):=by simp[SL]
  rw[e5]at e4;have k03:Kept b H H3:=(k1.trans (Kept.of_same s2)).trans k3;exact k a (ch::cs) H4 (k03.none ha) e4 ⟨ch,cs,rfl,hcm,h1,by omega⟩ (by rw[List.length_cons];omega) (B3.same s4) (k03.trans (Kept.of_same s4))
theorem names_ok{K:PySem.W.Frag}{H:Hp}{b c:Addr}{m:Nat}{Q:VK}{E:XK}(hB:Bag H b c)(m0:2<=m)(m1:m<=5)(k:∀a ss H',H' a=some (.lst ((ss:List Str).map V.str))->ss.length=m->(∀s∈ss,NmS s)->a≠b->Bag H' b c->Kept b H H'->Q (.ref a) H') :
  sp_names K [.ref b,.int (m:Int)] H Q E:=by
 refine⟨rfl,?_⟩;unfold t_names
 with_reducible refine s_seq ?_
 walk_at "ev"
 with_reducible refine s_seq ?_
 walk_at "ev";refine take_ok hB (by decide) (by decide) fun z H1 z0 z1 B1 k1=>?_
 obtain⟨z,rfl⟩:=Int.eq_ofNat_of_zero_le z0;walk_at "ev";obtain⟨sz,hsz⟩:∃sz:Nat,(1:Int)+(z:Int)=(sz:Int):=⟨1+z,by omega⟩;obtain⟨tz,htz⟩:∃tz:Nat,(sz:Int) % 8+1=(tz:Int):=⟨sz % 8+1,by omega⟩;have ht8:1<=tz/\tz<=8:=by omega
 rw[hsz]
 with_reducible refine s_seq ?_
 walk_at "ev";refine base_ok B1 (by omega) (by omega) fun a1 c1 H2 _ e2 n2 l2 B2 k2=>?_
 walk_at "ev";refine q_int (by decide) ?_;walk_at "ev";rw[htz];refine base_ok B2 ht8.1 ht8.2 fun a2 c2 H3 f3 e3 n3 l3 B3 k3=>?_
 walk_at "ev";refine new_i (by simp) fun ba H4 hba e4 s4=>?_
 walk_at "ev"
 have short1:∀ {H:Hp} {a:Addr} {cs:List Nat},Bag H b c->H a=some (.lst (SL cs))->a≠b:=by
  intro H a cs hB h;obtain⟨i0,i1,i2,ns,hb,_⟩:=hB.ex;refine ne_of h hb ?_;intro z;have z:=HO.lst.inj z;cases cs with
  | nil=>cases z
  | cons s r=>cases z
 have A1:H4 a1=some (.lst (SL c1)):=s4 _ _ (k3.1 _ _ e2 (short1 B2 e2));have A2:H4 a2=some (.lst (SL c2)):=s4 _ _ e3;have B4:=B3.same s4
 with_reducible refine s_seq ?_
 walk_at "ev";refine take_ok B4 (by omega) (by omega) fun p1 H5 p10 p11 B5 k5=>?_
 obtain⟨p1,rfl⟩:=Int.eq_ofNat_of_zero_le p10;walk_at "ev";refine q_int (by decide) ?_;walk_at "ev";rw[htz];refine take_ok B5 (by omega) (by omega) fun p2 H6 p20 p21 B6 k6=>?_
 obtain⟨p2,rfl⟩:=Int.eq_ofNat_of_zero_le p20;walk_at "ev";refine new_i (by simp) fun sa H7 hsa e7 s7=>?_
 walk_at "ev"
 with_reducible refine s_seq ?_
 walk_at "ev";refine take_ok (B6.same s7) (by decide) (by decide) fun f H8 f0 f1 B8 k8=>?_
 walk_at "ev"
 with_reducible refine s_seq ?_
 walk_at "ev";refine new_i (by simp) fun D H9 hD e9 s9=>?_
 walk_at "ev";have B9:=B8.same s9;have k49:Kept b H4 H9:=(((k5.trans k6).trans (Kept.of_same s7)).trans k8).trans (Kept.of_same s9);have A1':H9 a1=some (.lst (SL c1)):=k49.1 _ _ A1 (short1 B4 A1);have A2':H9 a2=some (.lst (SL c2)):=k49.1 _ _ A2 (short1 B4 A2);have Ba:H9 ba=some (.lst [.ref a1,.ref a2]):=k49.1 _ _ e4 (B3.nb hba).1;have Sa:H9 sa=some (.lst [.int (p1:Int),.int (p2:Int)]):=s9 _ _ (k8.1 _ _ e7 (B6.nb hsa).1);obtain⟨nb,nc⟩:=B8.nb hD;have k08:Kept b H H8:=((((k1.trans k2).trans k3).trans (Kept.of_same s4)).trans ((k5.trans k6).trans (Kept.of_same s7))).trans k8;have hD0:=k08.none hD;have k09:Kept b H H9:=k08.trans (Kept.of_same s9);have f0':=f0
 with_reducible refine s_seq ?_
 with_reducible refine s_for (s_rng1 ?_)
 walk_at "ev";refine⟨m,rfl,by omega,by omega,?_⟩;rw[Int.toNat_natCast];refine for_range (fun i σ H10=>∃y8 y9 ss,σ=[some (.ref b),some (.int (m:Int)),some (.str "abcdefghijklmnopqrstuvwxyz"),some (.int (sz:Int)),some (.ref ba),some (.ref sa),some (.int f),some (.ref D),y8,y9,none]/\H10 D=some (.lst ((ss:List Str).map V.str))/\ss.length=i/\(∀s∈ss,NmS s)/\(∀x o,H9 x=some o->x≠D->H10 x=some o)/\Same H8 H10) ?_ ?_ ?_
 ·exact⟨_,_,[],rfl,e9,rfl,by simp,fun x o e _=>e,s9⟩
 ·rintro i _ H10 hi ⟨y8,y9,ss,rfl,hD10,ls,hss,fr,s10⟩
  walk_at "ev";rw[Int.zero_add];have nba:ba≠D:=ne_of_none (k8.1 _ _ (s7 _ _ (k6.1 _ _ (k5.1 _ _ e4 (B3.nb hba).1) (B3.nb hba).1)) (B3.nb hba).1) hD;have nsa:sa≠D:=ne_of_none (k8.1 _ _ e7 (B6.nb hsa).1) hD
  have na1:a1≠D:=ne_of A1' e9 (by
   intro z;have z:=HO.lst.inj z;obtain⟨ch,r,rfl,_⟩:=n2;cases z)
  have na2:a2≠D:=ne_of A2' e9 (by
   intro z;have z:=HO.lst.inj z;obtain⟨ch,r,rfl,_⟩:=n3;cases z)
  have one:∀(ax:Addr) (cx:List Nat) (px:Nat),H10 ax=some (.lst (SL cx))->NmL cx->cx.length<=8->px<cx.length->∀R:VK,
    (∀q H11,H10 q=none->H11 q=some (.lst (SL cx))->Same H10 H11->R (.ref q) H11)->qList [.ref ax] H10 R:=fun ax cx px h _ _ _ R hR=>q_listL h fun q H11 a b c=>hR q H11 a b c
  have step:∀(ax:Addr) (cx:List Nat) (px:Nat),atI [V.ref a1,V.ref a2] ((i:Int) % 2)=some (.ref ax)->atI [V.int (p1:Int),V.int (p2:Int)] ((i:Int) % 2)=some (.int (px:Int))->H10 ax=some (.lst (SL cx))->NmL cx->cx.length<=8->px<cx.length->True:=fun _ _ _ _ _ _ _ _ _=>trivial
  obtain⟨ax,cx,px,g1,g2,g3,g4,g5,g6⟩:∃(ax:Addr) (cx:List Nat) (px:Nat),atI [V.ref a1,V.ref a2] ((i:Int) % 2)=some (.ref ax)/\atI [V.int (p1:Int),V.int (p2:Int)] ((i:Int) % 2)=some (.int (px:Int))/\H10 ax=some (.lst (SL cx))/\NmL cx/\cx.length<=8/\px<cx.length:=by
   rcases(show i % 2=0\/i % 2=1 by omega)with q | q
   ·have e:(i:Int) % 2=0:=by omega
    rw[e];exact⟨a1,c1,p1,atI0 _ _,atI0 _ _,fr _ _ A1' na1,n2,by omega,by omega⟩
   ·have e:(i:Int) % 2=1:=by omega
    rw[e];exact⟨a2,c2,p2,atI1 _ _ _,atI1 _ _ _,fr _ _ A2' na2,n3,by omega,by omega⟩
  clear one step
  with_reducible refine s_seq ?_
  walk_at "ev";refine q_int (by decide) ?_;refine q_ixL (fr _ _ Ba nba) g1 ?_;walk_at "ev";refine q_listL g3 fun q H11 hq e11 s11=>?_
  walk_at "ev"
  with_reducible refine s_seq ?_
  walk_at "ev";refine q_int ⟨by decide,by decide⟩ ?_;walk_at "ev";refine q_int (by decide) ?_;obtain⟨ch,hc,hcm⟩:=letters_at (n:=(f+(i:Int) / 2) % 26) (Int.emod_nonneg _ (by decide)) (Int.emod_lt_of_pos _ (by decide));refine q_ixS (small (by decide +kernel)) hc ?_;walk_at "ev";refine q_int (by decide) ?_;refine q_ixL (s11 _ _ (fr _ _ Sa nsa)) g2 ?_
  have hix:ixN (SL cx).length (px:Int)=some px:=by
   unfold ixN;rw[if_pos (by omega),if_pos (by rw[SL_len];omega),Int.toNat_natCast]
  refine q_set e11 hix ?_;have eset:(SL cx).set px (V.str (⟨#[ch]⟩:Str))=SL (cx.set px ch):=by unfold SL;rw[List.map_set]
  rw[eset];have nm:=(g4.set (i:=px) hcm).nm;walk_at "ev";have hqD:q≠D:=(ne_of_none hD10 hq).symm
  with_reducible refine s_bm ?_
  walk_at "ev";have hD12:(upd H11 q (.lst (SL (cx.set px ch)))) D=some (.lst (ss.map V.str)):=by rw[upd_ne hqD.symm];exact s11 _ _ hD10
  refine⟨ty_list hD12,?_⟩;walk_at "ev";refine join_ok upd_same (by rw[List.length_set];omega) ?_;walk_at "ev";refine q_append hD12 (smallT (by rw[List.length_map];omega)) ?_;refine⟨_,_,ss++[⟨(cx.set px ch).toArray⟩],rfl,by rw[upd_same];simp,by simp[ls],snoc_nm hss nm,fun x o e n=>?_,fun x o e=>?_⟩
  ·have:=fr x o e n
   rw[upd_ne n,upd_ne (ne_of_none this hq)];exact s11 _ _ this
  ·have:=s10 x o e
   rw[upd_ne (ne_of_none e hD),upd_ne (ne_of_none this hq)];exact s11 _ _ this
 rintro _ H10 ⟨y8,y9,ss,rfl,hD10,ls,hss,fr,s10⟩;have B10:=B8.same s10;have k10:Kept b H8 H10:=Kept.of_same s10
 with_reducible refine s_seq ?_
 walk_at "ev";refine new_i (by simp) fun wa H11 hwa e11 s11=>?_
 walk_at "ev";refine take_ok (B10.same s11) (by decide) (by decide) fun wi H12 wi0 wi1 B12 k12=>?_
 have hwa':=k12.1 _ _ e11 (B10.nb hwa).1;obtain⟨v,hv,hv2⟩:=atI_of (xs:=([.str "k0", .str "k1", .str "set", .str "ask", .str "plus", .str "k2"]:List V)) wi0 (by simpa using wi1);refine q_ixL hwa' hv ?_
 have:∃w:Str,v=.str w/\NmS w:=by
  have m:=List.mem_of_getElem? hv2;simp only[List.mem_cons,List.not_mem_nil,or_false]at m;have mw:∀s∈(["k0", "k1", "set", "ask", "plus", "k2"]:List Str),nameB s=true/\s.length<=8:=by decide +kernel
  rcases m with rfl | rfl | rfl | rfl | rfl | rfl <;> exact⟨_,rfl,mw _ (by simp)⟩
 obtain⟨wd,rfl,hwd⟩:=this;walk_at "ev";have hD12:H12 D=some (.lst (ss.map V.str)):=k12.1 _ _ (s11 _ _ hD10) nb;have k012:Kept b H H12:=(k08.trans k10).trans ((Kept.of_same s11).trans k12)
 with_reducible refine s_cut (P:=fun σ H13=>∃ss:List Str,σ[7]? = some (some (V.ref D))/\H13 D=some (.lst (ss.map V.str))/\ss.length=m/\(∀s∈ss,NmS s)/\Bag H13 b c/\Kept b H H13) ?_ ?_
 rotate_left
 ·intro nx hnx
  walk_at "ev";refine take_ok B12 (by decide) (by decide) fun q H13 _ _ B13 k13=>?_
  have hD13:=k13.1 _ _ hD12 nb;walk_at "ev";refine ite2 (fun _=>?_) (fun _=>?_)
  ·walk_at "ev"
   refine q_ninL hD13 rfl (by
    rw[List.all_eq_true];intro x hx;obtain⟨s,_,rfl⟩:=List.mem_map.mp hx;rfl) ?_
   walk_at "ev";refine ite2 (fun _=>?_) (fun _=>?_)
   ·walk_at "ev"
    refine take_ok B13 (by omega) (by omega) fun u H14 u0 u1 B14 k14=>?_
    obtain⟨u,rfl⟩:=Int.eq_ofNat_of_zero_le u0;have hD14:=k14.1 _ _ hD13 nb
    have hix:ixN (ss.map V.str).length (u:Int)=some u:=by
     unfold ixN;rw[if_pos (by omega),if_pos (by rw[List.length_map];omega),Int.toNat_natCast]
    refine q_set hD14 hix ?_;refine hnx _ _ ⟨ss.set u wd,rfl,by rw[upd_same,List.map_set],by rw[List.length_set];exact ls,fun s hs=>?_,B14.put nb nc,((k012.trans k13).trans k14).put hD0⟩;rcases List.mem_or_eq_of_mem_set hs with q | q
    ·exact hss s q
    ·rw[q];exact hwd
   ·walk_at "ev"
    exact hnx _ _ ⟨ss,rfl,hD13,ls,hss,B13,k012.trans k13⟩
  ·refine iteF' rfl ?_
   walk_at "ev";exact hnx _ _ ⟨ss,rfl,hD13,ls,hss,B13,k012.trans k13⟩
 rintro σ H13 ⟨ss',hσ,hD13,ls',hss',B13,k13⟩
 with_reducible refine s_ret ?_
 with_reducible refine s_var hσ ?_
 exact k D ss' H13 hD13 ls' hss' nb B13 k13
theorem value_ok{K:PySem.W.Frag}{H:Hp}{b c:Addr}{Q:VK}{E:XK}(hB:Bag H b c)(k:∀n H',0<=n->n<1000000000000->Bag H' b c->Kept b H H'->Q (.int n) H'):sp_value K [.ref b] H Q E:=by
 refine⟨rfl,?_⟩;unfold t_value;walk_at "ev";refine take_ok hB (by decide) (by decide) fun n2 H2 b0 b1 B2 k2=>?_
 walk_at "ev";refine new_i (by simp) fun p G hp e s=>?_
 walk_at "ev";refine take_ok (B2.same s) (by decide) (by decide) fun n3 H3 c0 c1 B3 k3=>?_
 have hp3:=k3.1 p _ e (B2.nb hp).1;have kk:Kept b H H3:=k2.trans ((Kept.of_same s).trans k3);obtain⟨v,hv,hv2⟩:=atI_of (xs:=([.int 0,.int 1,.int 2,.int 999999999999,.int n2]:List V)) c0 (by simpa using c1);refine q_ixL hp3 hv ?_
 have:∃n,v=.int n/\0<=n/\n<1000000000000:=by
  have m:=List.mem_of_getElem? hv2;simp only[List.mem_cons,List.not_mem_nil,or_false]at m;rcases m with rfl | rfl | rfl | rfl | rfl
  ·exact⟨0,rfl,by decide,by decide⟩
  ·exact⟨1,rfl,by decide,by decide⟩
  ·exact⟨2,rfl,by decide,by decide⟩
  ·exact⟨_,rfl,by decide,by decide⟩
  ·exact⟨_,rfl,by omega,by omega⟩
 obtain⟨n,rfl,q0,q1⟩:=this;exact k n H3 q0 q1 B3 kk
end RD
namespace RD
open PySem PySem.Spec L2
theorem cutD1(xs:List V):cutV xs (some 1) none=xs.drop 1:=by
 cases xs with
 | nil=>rfl
 | cons a r=>rw[cut1];rfl
theorem IL_drop(l:List Nat)(n:Nat):(IL l).drop n=IL (l.drop n):=by unfold IL;rw[List.map_drop]
theorem flatEq_nil(xs:List V):flatEq xs []=decide (xs.length=0):=by
 unfold flatEq;rw[show min xs.length ([]:List V).length=0 by simp];simp only[List.range_zero,List.all_nil,Bool.true_and,List.length_nil];by_cases h:xs.length=0
 ·rw[h];rfl
 ·rw[decide_eq_false h]
  simpa using h
theorem any_in{l G:List Nat}(h:(l.map fun t=>decide (t∈G)).any id=true):∃t∈l,t∈G:=by
 obtain⟨x,hx,e⟩:=List.any_eq_true.mp h;obtain⟨t,ht,rfl⟩:=List.mem_map.mp hx;exact⟨t,ht,of_decide_eq_true e⟩
theorem il_take{α:Type}(l:List Nat)(f:Nat->α)(i:Nat){t:Nat}(e:l[i]? = some t):(l.take (i+1)).map f=(l.take i).map f++[f t]:=by
 rw[List.take_add_one,e];simp
structure GoodI(H0 H:Hp)(d:Addr)(N:List (List Nat))(G:List Nat):Prop where
 same:Same H0 H
 hd:H d=some (.dK (KS G))
 nd:G.Nodup
 lt:∀k∈G,k<N.length
 gd:∀k∈G,Gd N k
theorem GoodI.next{H0 H H':Hp}{d:Addr}{N:List (List Nat)}{G:List Nat}(h:GoodI H0 H d N G)(s:Same H H'):GoodI H0 H' d N G:=⟨h.same.trans s,s _ _ h.hd,h.nd,h.lt,h.gd⟩
theorem GoodI.put{H0 H:Hp}{d:Addr}{N:List (List Nat)}{G:List Nat}(h:GoodI H0 H d N G)(n:H0 d=none){k:Nat}(hk:k<N.length)(g:Gd N k):GoodI H0 (upd H d (.dK (KS (put1 G k)))) d N (put1 G k):=
 ⟨fun b o e=>by rw[upd_ne (ne_of_none e n)];exact h.same b o e,upd_same,nd_put1 h.nd,fun j hj=>(mem_put1.mp hj).elim (h.lt j) fun z=>z ▸ hk,fun j hj=>(mem_put1.mp hj).elim (h.gd j) fun z=>z ▸ g⟩
theorem good_ok{K:PySem.W.Frag}{H:Hp}{a d:Addr}{N:List (List Nat)}{i:Nat}{l:List Nat}{x2 x4 x5 x6:Option V}{G:List Nat}{D:Ends}{H0:Hp}(n0:H0 d=none)(hn:NetAt H a N)(hN:N.length<=24)(hl:N[i]? = some l)(hl2:l.length<=2)(hG:GoodI H0 H d N G)
  (k:∀H' G',GoodI H0 H' d N G'->(∀j∈G,j∈G')->(l=[]->i∈G')->NetAt H' a N->D.nx [some (.ref a),some (.ref d),x2,some (.int (i:Int)),x4,x5,x6] H') :
  tIfS (tOr (tTest (tOp qEq (tOp qIx (tVar 0) (tVar 3)) (tLst (tNil)))) (tB (tCB qAny (tCons (tComp (iList K (tOp qIx (tVar 0) (tVar 3))) (tTrue) (tDIn (tVar 0) (tVar 2))) (tNil))))) (sDPut (tVar 1) (tVar 3) (tC (.bl true))) (tNext) D
   [some (.ref a),some (.ref d),x2,some (.int (i:Int)),x4,x5,x6] H:=by
 have hi:i<N.length:=(List.getElem?_eq_some_iff.mp hl).1
 have hGl:G.length<100000:=by
  have:=nd_le _ _ hG.nd hG.lt;omega
 have put:∀H1,NetAt H1 a N->GoodI H0 H1 d N G->a≠d->(∀x,H1 x=some (.dK (KS G))->True)->Gd N i->sDPut (tVar 1) (tVar 3) (tC (.bl true)) D [some (.ref a),some (.ref d),x2,some (.int (i:Int)),x4,x5,x6] H1:=by
  intro H1 n1 g1 nad _ gd
  with_reducible refine s_dput ?_
  walk_at "ev";refine⟨d,_,rfl,dput_in g1.hd hGl i,?_⟩;refine k _ (put1 G i) (g1.put n0 hi gd) (fun j hj=>mem_put1.mpr (.inl hj)) (fun _=>mem_put1.mpr (.inr rfl)) ?_;obtain⟨as,q1,q2,q3⟩:=n1.ex;refine⟨as,by rw[upd_ne nad];exact q1,q2,fun j x l' e1 e2=>?_⟩;have q:=q3 j x l' e1 e2;rw[upd_ne (ne_of q g1.hd (by intro z;cases z))];exact q
 obtain⟨xs,x,h1,h2,h3,_⟩:=hn.at hl;have nad:a≠d:=ne_of h1 hG.hd (by intro z;cases z);walk_at "ev";refine q_ixL h1 h2 ?_;walk_at "ev";refine new_i (by simp) fun p H1 hp e1 s1=>?_
 refine⟨_,eqO_lst (s1 _ _ h3) e1 (IL_flat l) rfl,?_⟩;rw[flatEq_nil,IL_len];walk_at "ev";by_cases hz:l=[]
 ·refine iteT' (decide_eq_true (by rw[hz];rfl)) ?_
  refine iteT' rfl ?_;exact put H1 (hn.same s1) (hG.next s1) nad (fun _ _=>trivial) (.stop (hz ▸ hl))
 refine iteF' (decide_eq_false fun z=>hz (List.length_eq_zero_iff.mp z)) ?_;walk_at "ev"
 with_reducible refine s_comp (s_ilst ?_)
 walk_at "ev";refine q_ixL (s1 _ _ h1) h2 ?_;refine⟨x,rfl,⟨_,SqL.of (s1 _ _ h3)⟩,fun E hE=>?_⟩;have G1:=hG.next s1;refine comp_lst (xs:=IL l) (fun j ys H2=>ys=(l.take j).map (fun t=>V.bl (decide (t∈G)))/\H2 E=some (.lst ys)/\Same H1 H2) ⟨by simp,upd_same,same_new hE⟩ ?_ ?_ ?_ ?_
 ·rintro j ys H2 ⟨_,h,_⟩
  exact h
 ·rintro j ys H2 _ ⟨_,_,s2⟩
  exact SqL.of (s2 _ _ (s1 _ _ h3))
 ·rintro j y ys H2 hy ⟨rfl,hE2,s2⟩ R hR
  have hy:(l.map fun(n:Nat)=>V.int (n:Int))[j]? = some y:=hy;rw[List.getElem?_map]at hy;cases ht:l[j]? with
  | none=>rw[ht]at hy;cases hy
  | some t=>
   rw[ht]at hy;cases hy;have hj:=(List.getElem?_eq_some_iff.mp ht).1
   with_reducible refine s_din ?_
   walk_at "ev";obtain⟨o,g1,g2⟩:=dget_in (s2 _ _ G1.hd) t;refine⟨d,o,rfl,g1,?_⟩;rw[g2];refine hR _ _ hE2 (smallT ?_) ⟨?_,upd_same,fun b o e=>?_⟩
   ·rw[List.length_map,List.length_take]
    omega
   ·rw[il_take l _ j ht]
   ·rw[upd_ne (ne_of_none e hE)];exact s2 b o e
 ·rintro ys H2 ⟨rfl,hE2,s2⟩
  rw[IL_len,List.take_length]at hE2;have he:l.map (fun t=>V.bl (decide (t∈G)))=(l.map fun t=>decide (t∈G)).map V.bl:=by rw[List.map_map];rfl
  rw[he]at hE2;walk_at "ev";refine q_any hE2 ?_;walk_at "ev";refine ite2 (fun c=>?_) (fun c=>?_)
  ·obtain⟨t,t1,t2⟩:=any_in c
   exact put H2 ((hn.same s1).same s2) (G1.next s2) nad (fun _ _=>trivial) (.step hl t1 (hG.gd t t2))
  ·walk_at "ev"
   exact k H2 G (G1.next s2) (fun j hj=>hj) (fun z=>(hz z).elim) ((hn.same s1).same s2)
structure RchI(H0 H:Hp)(d:Addr)(N:List (List Nat))(S:List Nat):Prop where
 same:Same H0 H
 hd:H d=some (.dK (KS S))
 nd:S.Nodup
 lt:∀k∈S,k<N.length
 rc:∀k∈S,Rc N k
 zero:0∈S
theorem RchI.put{H0 H:Hp}{d:Addr}{N:List (List Nat)}{S:List Nat}(h:RchI H0 H d N S)(n:H0 d=none){k:Nat}(hk:k<N.length)(g:Rc N k):RchI H0 (upd H d (.dK (KS (put1 S k)))) d N (put1 S k):=
 ⟨fun b o e=>by rw[upd_ne (ne_of_none e n)];exact h.same b o e,upd_same,nd_put1 h.nd,fun j hj=>(mem_put1.mp hj).elim (h.lt j) fun z=>z ▸ hk,fun j hj=>(mem_put1.mp hj).elim (h.rc j) fun z=>z ▸ g,mem_put1.mpr (.inl h.zero)⟩
def Closed(N:List (List Nat))(S:List Nat):Prop:=∀k∈S,∀l,N[k]? = some l->∀t∈l,t∈S
theorem put1_of{S:List Nat}{k:Nat}(h:k∈S):put1 S k=S:=by unfold put1;rw[if_pos h]
theorem NetAt.dput{H:Hp}{a d:Addr}{N:List (List Nat)}{ks:List (Key×V)}{o:HO}(h:NetAt H a N)(hd:H d=some (.dK ks)):NetAt (upd H d o) a N:=by
 obtain⟨as,q1,q2,q3⟩:=h.ex
 exact⟨as,by rw[upd_ne (ne_of q1 hd (by intro z;cases z))];exact q1,q2,fun j x l e1 e2=>by
  have q:=q3 j x l e1 e2;rw[upd_ne (ne_of q hd (by intro z;cases z))];exact q⟩
theorem reach_ok{K:PySem.W.Frag}{H:Hp}{a d:Addr}{N:List (List Nat)}{i:Nat}{l:List Nat}{x1 x2 x5 x6:Option V}{S:List Nat}{D:Ends}{H0:Hp}(n0:H0 d=none)(hn:NetAt H a N)(hN:N.length<=24)(hl:N[i]? = some l)(hlt:∀t∈l,t<N.length)(hS:RchI H0 H d N S)
  (k:∀H' S' x5,RchI H0 H' d N S'->(∀j∈S,j∈S')->(i∈S->∀t∈l,t∈S')->(Closed N S->S'=S)->NetAt H' a N->D.nx [some (.ref a),x1,x2,some (.int (i:Int)),some (.ref d),x5,x6] H') :
  tIfS (tB (tDIn (tVar 3) (tVar 4))) (tFor (iList K (tOp qIx (tVar 0) (tVar 3))) (gName 5) (sDPut (tVar 4) (tVar 5) (tC (.bl true)))) (tNext) D [some (.ref a),x1,x2,some (.int (i:Int)),some (.ref d),x5,x6] H:=by
 walk_at "ev"
 with_reducible refine s_din ?_
 walk_at "ev";obtain⟨o,g1,g2⟩:=dget_in hS.hd i;refine⟨d,o,rfl,g1,?_⟩;rw[g2];walk_at "ev";refine ite2 (fun c=>?_) (fun c=>?_)
 ·have hi:i∈S:=of_decide_eq_true c
  obtain⟨xs,x,h1,h2,h3,_⟩:=hn.at hl
  with_reducible refine s_for (s_ilst ?_)
  walk_at "ev";refine q_ixL h1 h2 ?_;refine⟨x,rfl,⟨_,SqL.of h3⟩,for_list (xs:=IL l) (fun j σ H2=>∃S' x5,σ=[some (.ref a),x1,x2,some (.int (i:Int)),some (.ref d),x5,x6]/\RchI H0 H2 d N S'/\(∀j∈S,j∈S')/\(∀t∈l.take j,t∈S')/\(Closed N S->S'=S)/\NetAt H2 a N/\H2 x=some (.lst (IL l))) ?_ ?_ ?_ ?_⟩
  ·exact⟨S,x5,rfl,hS,fun _ h=>h,by simp,fun _=>rfl,hn,h3⟩
  ·rintro j σ H2 _ ⟨_,_,_,_,_,_,_,_,h⟩
   exact SqL.of h
  ·rintro j y _ H2 hy ⟨S',x5,rfl,I2,i1,i2,i3,n2,hx2⟩
   have hy:(l.map fun(n:Nat)=>V.int (n:Int))[j]? = some y:=hy;rw[List.getElem?_map]at hy;cases ht:l[j]? with
   | none=>rw[ht]at hy;cases hy
   | some t=>
    rw[ht]at hy;cases hy;have tm:=List.mem_of_getElem? ht;walk_at "ev"
    with_reducible refine s_dput ?_
    walk_at "ev";refine⟨d,_,rfl,dput_in I2.hd (by have:=nd_le _ _ I2.nd I2.lt;omega) t,?_⟩;refine⟨put1 S' t,_,rfl,I2.put n0 (hlt t tm) (.step (hS.rc i hi) hl tm),fun j hj=>mem_put1.mpr (.inl (i1 j hj)),fun z hz=>?_,fun hc=>?_,n2.dput I2.hd,?_⟩
    ·rw[List.take_add_one,ht]at hz
     rcases List.mem_append.mp hz with q | q
     ·exact mem_put1.mpr (.inl (i2 z q))
     ·exact mem_put1.mpr (.inr (by simpa using q))
    ·rw[i3 hc]
     exact put1_of (hc i hi l hl t tm)
    ·rw[upd_ne (ne_of hx2 I2.hd (by intro z;cases z))];exact hx2
  ·rintro _ H2 ⟨S',x5,rfl,I2,i1,i2,i3,n2,hx2⟩
   refine k H2 S' x5 I2 i1 (fun _ t ht=>i2 t ?_) i3 n2;rw[IL_len,List.take_length];exact ht
 ·walk_at "ev"
  exact k H S x5 hS (fun _ h=>h) (fun h=>(c (decide_eq_true h)).elim) (fun _=>rfl) hn
end RD
namespace RD
open PySem PySem.Spec L2
theorem nat_of_perm{ms:List Int}{S:List Nat}(h:ms.Perm (S.map fun(n:Nat)=>(n:Int))):∃O:List Nat,O.Perm S/\ms=O.map fun(n:Nat)=>(n:Int):=by
 refine⟨ms.map Int.toNat,?_,?_⟩
 ·have:=h.map Int.toNat
  rw[List.map_map]at this;have e:(Int.toNat ∘ fun(n:Nat)=>(n:Int))=id:=by funext n;simp
  rw[e,List.map_id]at this;exact this
 ·rw[List.map_map]
  have:∀x∈ms,((fun(n:Nat)=>(n:Int)) ∘ Int.toNat) x=id x:=by
   intro x hx;obtain⟨n,_,rfl⟩:=List.mem_map.mp (h.subset hx);simp
  rw[List.map_congr_left this,List.map_id]
theorem sorted_nat{O:List Nat}(h:(O.map fun(n:Nat)=>(n:Int)).Pairwise (· <= ·)):O.Pairwise (· <= ·):=by
 rw[List.pairwise_map]at h;exact h.imp fun q=>by omega
theorem idx_cast(O:List Nat)(t:Nat):(O.map fun(n:Nat)=>(n:Int)).idxOf (t:Int)=O.idxOf t:=by
 induction O with
 | nil=>rfl
 | cons a r ih=>
  rw[List.map_cons,List.idxOf_cons,List.idxOf_cons];by_cases e:a=t
  ·subst e;simp
  ·have:((a:Int) == (t:Int))=false:=by simp;omega
   have e2:(a == t)=false:=by simpa using e
   rw[this,e2,ih]
theorem at_len{N:List (List Nat)}{i:Nat}(h:i<N.length):N[i]? = some N[i]:=by simp
theorem mended_ok{K:PySem.W.Frag}{H:Hp}{a:Addr}{N:List (List Nat)}{Q:VK}{E:XK}(hn:NetAt H a N)(hp:0<N.length)(hN:N.length<=24)(hs:∀l∈N,l.length<=2/\∀t∈l,t<N.length)(hl:N[N.length - 1]? = some [])
  (k:∀a' N' H',NetAt H' a' N'->Valid N'->N'.length<=24->Same H H'->Q (.ref a') H'):sp_mended K [.ref a] H Q E:=by
 refine⟨rfl,?_⟩;unfold t_mended
 with_reducible refine s_seq ?_
 walk_at "ev";refine s_dnew fun d H1 hd e1 s1=>?_
 walk_at "ev";have n1:=hn.same s1;obtain⟨xs0,hx0,lx0⟩:=hn.len
 with_reducible refine s_cut (P:=fun σ H2=>∃x2 x3 G,σ=[some (.ref a),some (.ref d),x2,x3,none,none,none]/\GoodI H H2 d N G/\N.length - 1∈G/\NetAt H2 a N) ?_ ?_
 rotate_left
 ·intro nx hnx
  with_reducible refine s_for (s_rng1 ?_)
  walk_at "ev";refine q_lenL (s1 _ _ hx0) ?_;refine⟨N.length,by rw[lx0],by omega,by omega,?_⟩;rw[Int.toNat_natCast];refine for_range (fun i σ H2=>∃x2 x3 G,σ=[some (.ref a),some (.ref d),x2,x3,none,none,none]/\GoodI H H2 d N G/\(0<i->N.length - 1∈G)/\NetAt H2 a N) ?_ ?_ ?_
  ·exact⟨_,_,[],rfl,⟨s1,e1,by simp,by simp,by simp⟩,by omega,n1⟩
  ·rintro i _ H2 hi ⟨x2,x3,G,rfl,I2,g2,n2⟩
   walk_at "ev";obtain⟨xs2,hx2,lx2⟩:=n2.len
   with_reducible refine s_for (s_rng1 ?_)
   walk_at "ev";refine q_lenL hx2 ?_;refine⟨N.length,by rw[lx2],by omega,by omega,?_⟩;rw[Int.toNat_natCast];refine for_range (fun j σ H3=>∃x3 G,σ=[some (.ref a),some (.ref d),some (.int (0+(i:Int))),x3,none,none,none]/\GoodI H H3 d N G/\(j=N.length->N.length - 1∈G)/\NetAt H3 a N) ?_ ?_ ?_
   ·exact⟨_,G,rfl,I2,by omega,n2⟩
   ·rintro j _ H3 hj ⟨x3,G3,rfl,I3,g3,n3⟩
    with_reducible refine s_gname ?_
    rw[Int.zero_add (j:Int)];refine good_ok hd n3 hN (at_len hj) (hs _ (List.getElem_mem _)).1 I3 fun H4 G4 I4 sub4 h4 n4=>?_
    refine⟨_,G4,rfl,I4,fun z=>?_,n4⟩;have e:N.length - 1=j:=by omega
    rw[e]at hl ⊢;refine h4 ?_;rw[at_len hj]at hl;exact Option.some.inj hl
   ·rintro _ H3 ⟨x3,G3,rfl,I3,g3,n3⟩
    exact⟨_,_,G3,rfl,I3,fun _=>g3 rfl,n3⟩
  ·rintro _ H2 ⟨x2,x3,G,rfl,I2,g2,n2⟩
   exact hnx _ _ ⟨x2,x3,G,rfl,I2,g2 hp,n2⟩
 rintro _ H2 ⟨x2,x3,G,rfl,I2,hlast,n2⟩
 with_reducible refine s_seq ?_
 walk_at "ev"
 with_reducible refine s_comp (s_rng1 ?_)
 obtain⟨xs2,hx2,lx2⟩:=n2.len;walk_at "ev";refine q_lenL hx2 ?_;refine⟨N.length,by rw[lx2],by omega,by omega,fun A hA=>?_⟩;rw[Int.toNat_natCast];refine comp_rng (fun i ys H3=>∃as:List Addr,ys=as.map V.ref/\as.length=i/\(∀(j:Nat) x l,as[j]? = some x->(mend1 N G)[j]? = some l->H3 x=some (.lst (IL l))/\x≠A)/\H3 A=some (.lst ys)/\Same H2 H3) ?_ ?_ ?_ ?_
 ·exact⟨[],rfl,rfl,by simp,upd_same,same_new hA⟩
 ·rintro i ys H3 ⟨_,_,_,_,h,_⟩
  exact h
 ·rintro i ys H3 hi ⟨as,rfl,la,at3,hA3,s3⟩ R hR
  rw[Int.zero_add];obtain⟨ys0,x,f1,f2,f3,f4⟩:=(n2.same s3).at (at_len hi)
  have more:∀q H4,Same H3 H4->(∀l,(mend1 N G)[i]? = some l->H4 q=some (.lst (IL l)))->q≠A->R (.ref q) H4:=by
   intro q H4 s4 hq nq;refine hR _ _ (s4 _ _ hA3) (smallT (by rw[List.length_map];omega)) ⟨as++[q],by simp,by simp[la],?_,upd_same,fun b o e=>?_⟩
   ·intro j y l' h1 h2
    rcases snocAt h1 with ⟨_,g1⟩ | ⟨hj,g1⟩
    ·obtain⟨g2,g3⟩:=at3 j y l' g1 h2
     exact⟨by rw[upd_ne g3];exact s4 _ _ g2,g3⟩
    ·rw[hj,la]at h2
     subst g1;exact⟨by rw[upd_ne nq];exact hq l' h2,nq⟩
   ·rw[upd_ne (ne_of_none e hA)]
    exact s4 _ _ (s3 _ _ e)
  walk_at "ev"
  with_reducible refine s_din ?_
  walk_at "ev";obtain⟨o,g1,g2⟩:=dget_in (s3 _ _ I2.hd) i;refine⟨d,o,rfl,g1,?_⟩;rw[g2];walk_at "ev";refine ite2 (fun c=>?_) (fun c=>?_)
  ·walk_at "ev"
   refine q_ixL f1 f2 ?_;refine more x H3 (Same.refl _) (fun l hl'=>?_) ?_
   ·rw[mend1_in (at_len hi) (of_decide_eq_true c)]at hl'
    cases hl';exact f3
   ·refine(ne_of_none (H:=H2) (a:=x) (b:=A) (o:=.lst (IL N[i])) ?_ hA)
    obtain⟨ys1,x',f1',f2',f3',_⟩:=n2.at (at_len hi);have e1:=s3 _ _ f1';rw[f1]at e1;cases e1;rw[f2]at f2';cases f2';exact f3'
  ·walk_at "ev"
   refine q_lenL f1 ?_;walk_at "ev";refine new_i (by simp) fun p1 H4 hp1 e4 s4=>?_
   walk_at "ev";refine q_ixL (s4 _ _ f1) f2 ?_;walk_at "ev";refine q_slL (s4 _ _ f3) fun p2 H5 hp2 e5 s5=>?_
   rw[cutD1,IL_drop]at e5;have hl2:=(hs _ (List.getElem_mem (l:=N) (h:=hi))).1;refine q_addL (s5 _ _ e4) e5 (new_i (by simp[IL_len];omega) fun p3 H6 hp3 e6 s6=>?_);refine more p3 H6 ((s4.trans s5).trans s6) (fun l hl'=>?_) ?_
   ·rw[mend1_out (at_len hi) (fun z=>c (decide_eq_true z))]at hl'
    cases hl';rw[e6,f4];have:((N.length:Int) - 1)=((N.length - 1:Nat):Int):=by omega
    rw[this];rfl
   ·exact(ne_of_none ((s4.trans s5) _ _ hA3) hp3).symm
 rintro ys H3 ⟨as,rfl,la,at3,hA3,s3⟩;obtain⟨N2,hN2⟩:∃N2,N2=mend1 N G:=⟨_,rfl⟩;have len2:N2.length=N.length:=by rw[hN2,mend1_len]
 have n3:NetAt H3 A N2:=⟨as,hA3,by rw[len2,la],fun i x l h1 h2=>(at3 i x l h1 (hN2 ▸ h2)).1⟩
 have small2:∀l∈N2,l.length<=2/\∀t∈l,t<N2.length:=by
  rw[len2,hN2];exact mend1_small hp hs hl hlast
 have gd2:∀k,k<N2.length->Gd N2 k:=by
  rw[len2,hN2];exact gd_mend I2.gd hl hlast
 have s03:Same H H3:=I2.same.trans s3;clear at3 hN2 la;walk_at "ev"
 with_reducible refine s_seq ?_
 walk_at "ev";intro r hr;refine⟨upd_same,[(Sum.inl 0,V.bl true)],rfl,by simp,?_⟩
 have e4:(upd (upd H3 r (.dK [])) r (.dK (mergeK [] [(Sum.inl 0,V.bl true)])))=upd H3 r (.dK (KS [0])):=by
  rw[upd_upd];rfl
 rw[e4];walk_at "ev";obtain⟨H4,hH4⟩:∃H4,H4=upd H3 r (.dK (KS [0])):=⟨_,rfl⟩;rw[<-hH4];have s4:Same H3 H4:=hH4 ▸ same_new hr;have er:H4 r=some (.dK (KS [0])):=hH4 ▸ upd_same;have n4:=n3.same s4;clear hH4 e4;have hp2:0<N2.length:=by omega
 with_reducible refine s_cut (P:=fun σ H5=>∃x2 x3 x5 S,σ=[some (.ref A),some (.ref d),x2,x3,some (.ref r),x5,none]/\RchI H3 H5 r N2 S/\Closed N2 S/\NetAt H5 A N2) ?_ ?_
 rotate_left
 ·intro nx hnx
  obtain⟨ys4,hy4,ly4⟩:=n4.len
  with_reducible refine s_for (s_rng1 ?_)
  walk_at "ev";refine q_lenL hy4 ?_;refine⟨N2.length,by rw[ly4],by omega,by omega,?_⟩;rw[Int.toNat_natCast];refine for_range (fun i σ H5=>∃x2 x3 x5 S,σ=[some (.ref A),some (.ref d),x2,x3,some (.ref r),x5,none]/\RchI H3 H5 r N2 S/\(Closed N2 S\/i+1<=S.length)/\NetAt H5 A N2) ?_ ?_ ?_
  ·exact⟨_,_,_,[0],rfl,⟨s4,er,by simp,by simpa using hp2,by simpa using Rc.zero,by simp⟩,.inr (by simp),n4⟩
  ·rintro i _ H5 hi ⟨x2,x3,x5,S,rfl,I5,g5,n5⟩
   walk_at "ev";obtain⟨ys5,hy5,ly5⟩:=n5.len
   with_reducible refine s_for (s_rng1 ?_)
   walk_at "ev";refine q_lenL hy5 ?_;refine⟨N2.length,by rw[ly5],by omega,by omega,?_⟩;rw[Int.toNat_natCast];refine for_range (fun j σ H6=>∃x3 x5 S',σ=[some (.ref A),some (.ref d),some (.int (0+(i:Int))),x3,some (.ref r),x5,none]/\RchI H3 H6 r N2 S'/\(∀k∈S,k∈S')/\(∀k∈S,k<j->∀l,N2[k]? = some l->∀t∈l,t∈S')/\(Closed N2 S->S'=S)/\NetAt H6 A N2) ?_ ?_ ?_
   ·exact⟨_,_,S,rfl,I5,fun _ h=>h,by omega,fun _=>rfl,n5⟩
   ·rintro j _ H6 hj ⟨x3,x5,S',rfl,I6,b1,b2,b3,n6⟩
    with_reducible refine s_gname ?_
    rw[Int.zero_add (j:Int)];refine reach_ok hr n6 (by omega) (at_len hj) (small2 _ (List.getElem_mem _)).2 I6 fun H7 S7 x5 I7 c1 c2 c3 n7=>?_
    refine⟨_,x5,S7,rfl,I7,fun k hk=>c1 k (b1 k hk),fun k hk hkj l hl' t ht=>?_,fun hc=>?_,n7⟩
    ·by_cases e:k=j
     ·subst e
      rw[at_len hj]at hl';cases hl';exact c2 (b1 k hk) t ht
     ·exact c1 t (b2 k hk (by omega) l hl' t ht)
    ·have:=b3 hc
     rw[this]at c3;exact c3 hc
   ·rintro _ H6 ⟨x3,x5,S',rfl,I6,b1,b2,b3,n6⟩
    refine⟨_,x3,x5,S',rfl,I6,?_,n6⟩;rcases g5 with hc | hc
    ·exact .inl (by rw[b3 hc];exact hc)
    ·by_cases hcl:Closed N2 S
     ·exact .inl (by rw[b3 hcl];exact hcl)
     ·right
      obtain⟨t,t1,t2⟩:∃t,t∈S'/\¬t∈S:=by
       refine Classical.byContradiction fun hno=>hcl fun k hk l hl' t ht=>?_
       refine Classical.byContradiction fun hts=>hno ⟨t,b2 k hk (I5.lt k hk) l hl' t ht,hts⟩
      have:(t::S).length<=S'.length:=by
       have nd:(t::S).Nodup:=List.nodup_cons.mpr ⟨t2,I5.nd⟩;have sub:∀k∈t::S,k∈S':=fun k hk=>(List.mem_cons.mp hk).elim (fun z=>z ▸ t1) (b1 k)
       exact nd_sub _ _ nd sub
      rw[List.length_cons]at this;omega
  ·rintro _ H5 ⟨x2,x3,x5,S,rfl,I5,g5,n5⟩
   refine hnx _ _ ⟨x2,x3,x5,S,rfl,I5,g5.elim id fun h=>?_,n5⟩;have:=nd_le _ _ I5.nd I5.lt;omega
 rintro _ H5 ⟨y2,y3,y5,S,rfl,I5,hcl,n5⟩;have hSl:=nd_le _ _ I5.nd I5.lt
 with_reducible refine s_seq ?_
 walk_at "ev"
 have ek:(KS S).map (fun kv=>kV kv.1)=(S.map fun(n:Nat)=>(n:Int)).map V.int:=by
  unfold KS;rw[List.map_map,List.map_map];rfl
 have ld:qListD [.ref r] H5=fun Q=>∀l,H5 l=none->Q (.ref l) (upd H5 l (.lst ((KS S).map fun kv=>kV kv.1))):=by
  unfold qListD;simp only[I5.hd]
 rw[ld];intro p6 hp6;rw[ek];obtain⟨H6,hH6⟩:∃H6,H6=upd H5 p6 (.lst ((S.map fun(n:Nat)=>(n:Int)).map V.int)):=⟨_,rfl⟩;rw[<-hH6];have s6:Same H5 H6:=hH6 ▸ same_new hp6;have e6:H6 p6=some (.lst ((S.map fun(n:Nat)=>(n:Int)).map V.int)):=hH6 ▸ upd_same;clear hH6 ld;walk_at "ev"
 have so:qSorted [.ref p6] H6=fun Q=>∃ns,intsOf ((S.map fun(n:Nat)=>(n:Int)).map V.int)=some ns/\ns.length<64/\∀(p:Addr) (ms:List Int),ms.Perm ns->ms.Pairwise (· <= ·)->H6 p=none->Q (.ref p) (upd H6 p (.lst (ms.map V.int))):=by
  unfold qSorted;simp only[e6]
 rw[so];refine⟨_,intsOf_map _,by rw[List.length_map];omega,fun p7 ms hperm hsort hp7=>?_⟩;obtain⟨O,hO,rfl⟩:=nat_of_perm hperm;have hsO:=sorted_nat hsort;have ndO:O.Nodup:=hO.nodup_iff.mpr I5.nd;have memO:∀k,k∈O↔k∈S:=fun k=>hO.mem_iff
 obtain⟨H7,hH7⟩:∃H7,H7=upd H6 p7 (.lst ((O.map fun(n:Nat)=>(n:Int)).map V.int)):=⟨_,rfl⟩;rw[<-hH7];have s7:Same H6 H7:=hH7 ▸ same_new hp7;have e7:H7 p7=some (.lst ((O.map fun(n:Nat)=>(n:Int)).map V.int)):=hH7 ▸ upd_same;clear hH7 so;have hOl:O.length<=24:=by rw[hO.length_eq];omega
 walk_at "ev";have n7:=(n5.same s6).same s7;have s07:Same H H7:=((s03.trans I5.same).trans s6).trans s7
 have valid:Valid (sub1 N2 O):=valid_sub ((memO 0).mpr I5.zero) hsO ndO (fun k hk=>I5.lt k ((memO k).mp hk)) (by omega) (fun k hk l hl' t ht=>(memO t).mpr (hcl k ((memO k).mp hk) l hl' t ht)) (fun k hk=>I5.rc k ((memO k).mp hk))
  (fun l hl'=>(small2 l hl').1) gd2
 with_reducible refine s_comp (s_ilst ?_)
 walk_at "ev";refine⟨p7,rfl,⟨_,SqL.of e7⟩,fun B hB=>?_⟩;refine comp_lst (xs:=(O.map fun(n:Nat)=>(n:Int)).map V.int) (fun i ys H8=>∃bs:List Addr,ys=bs.map V.ref/\bs.length=i/\(∀(j:Nat) x l,bs[j]? = some x->(sub1 N2 O)[j]? = some l->H8 x=some (.lst (IL l))/\x≠B)/\H8 B=some (.lst ys)/\Same H7 H8) ?_ ?_ ?_ ?_ ?_
 ·exact⟨[],rfl,rfl,by simp,upd_same,same_new hB⟩
 ·rintro i ys H8 ⟨_,_,_,_,h,_⟩
  exact h
 ·rintro i ys H8 _ ⟨_,_,_,_,_,s8⟩
  exact SqL.of (s8 _ _ e7)
 ·rintro i x ys H8 hx ⟨bs,rfl,lb,at8,hB8,s8⟩ R hR
  rw[List.getElem?_map,List.getElem?_map]at hx;cases ho:O[i]? with
  | none=>rw[ho]at hx;cases hx
  | some kk=>
   rw[ho]at hx;cases hx;have hko:=List.mem_of_getElem? ho;have hks:=(memO kk).mp hko;have hkl:=I5.lt kk hks;obtain⟨ys8,x8,f1,f2,f3,_⟩:=(n7.same s8).at (at_len hkl);obtain⟨l8,hl8⟩:∃l8,l8=N2[kk]:=⟨_,rfl⟩;rw[<-hl8]at f3;have hN8:N2[kk]? = some l8:=by rw[hl8];exact at_len hkl
   with_reducible refine s_comp (s_ilst ?_)
   walk_at "ev";refine q_ixL f1 f2 ?_;refine⟨x8,rfl,⟨_,SqL.of f3⟩,fun C hC=>?_⟩;refine comp_lst (xs:=IL l8) (fun j zs H9=>zs=IL ((l8.take j).map fun t=>O.idxOf t)/\H9 C=some (.lst zs)/\Same H8 H9) ⟨rfl,upd_same,same_new hC⟩ ?_ ?_ ?_ ?_
   ·rintro j zs H9 ⟨_,h,_⟩
    exact h
   ·rintro j zs H9 _ ⟨_,_,s9⟩
    exact SqL.of (s9 _ _ f3)
   ·rintro j y zs H9 hy ⟨rfl,hC9,s9⟩ R' hR'
    have hy:(l8.map fun(n:Nat)=>V.int (n:Int))[j]? = some y:=hy;rw[List.getElem?_map]at hy;cases ht:l8[j]? with
    | none=>rw[ht]at hy;cases hy
    | some t=>
     rw[ht]at hy;cases hy;have htO:t∈O:=(memO t).mpr (hcl kk hks l8 hN8 t (List.mem_of_getElem? ht))
     with_reducible refine s_bm ?_
     walk_at "ev";have e9:H9 p7=_:=s9 _ _ (s8 _ _ e7);refine⟨ty_list e9,?_⟩;walk_at "ev"
     have ix:qIndex (.ref p7) [.int (t:Int)] H9=fun Q=>∃ns,intsOf ((O.map fun(n:Nat)=>(n:Int)).map V.int)=some ns/\ns.length<10000/\(t:Int)∈ns/\Q (.int (ns.idxOf (t:Int):Nat)) H9:=by
      unfold qIndex;simp only[e9]
     rw[ix];refine⟨_,intsOf_map _,by rw[List.length_map];omega,List.mem_map.mpr ⟨t,htO,rfl⟩,?_⟩;rw[idx_cast];have hl2:=(small2 l8 (List.mem_of_getElem? hN8)).1;refine hR' _ _ hC9 (smallT ?_) ⟨?_,upd_same,fun b o e=>?_⟩
     ·rw[IL_len,List.length_map,List.length_take];omega
     ·unfold IL
      rw[il_take l8 (fun t=>O.idxOf t) j ht];simp
     ·rw[upd_ne (ne_of_none e hC)];exact s9 _ _ e
   ·rintro zs H9 ⟨rfl,hC9,s9⟩
    rw[IL_len,List.take_length]at hC9;refine hR _ _ (s9 _ _ hB8) (smallT (by rw[List.length_map];have:=(List.getElem?_eq_some_iff.mp ho).1;omega)) ⟨bs++[C],by simp,by simp[lb],?_,upd_same,fun b o e=>?_⟩
    ·have nCB:C≠B:=(ne_of_none hB8 hC).symm
     intro j y l' h1 h2;rcases snocAt h1 with ⟨_,g1⟩ | ⟨hj,g1⟩
     ·obtain⟨g2,g3⟩:=at8 j y l' g1 h2
      exact⟨by rw[upd_ne g3];exact s9 _ _ g2,g3⟩
     ·rw[hj,lb]at h2
      subst g1;refine⟨?_,nCB⟩;rw[upd_ne nCB,hC9]
      have h2':(sub1 N2 O)[i]? = some (l8.map fun t=>O.idxOf t):=by
       unfold sub1;rw[List.getElem?_map,ho];simp[List.getD,hN8]
      rw[h2']at h2;cases h2;rfl
    ·rw[upd_ne (ne_of_none e hB)]
     exact s9 _ _ (s8 _ _ e)
 ·rintro ys H8 ⟨bs,rfl,lb,at8,hB8,s8⟩
  rw[List.length_map,List.length_map]at lb;have hlen:(sub1 N2 O).length=O.length:=by simp[sub1]
  exact k B (sub1 N2 O) H8 ⟨bs,hB8,by rw[lb,hlen],fun i x l h1 h2=>(at8 i x l h1 h2).1⟩ valid (by rw[hlen];exact hOl) (s07.trans s8)
end RD
namespace RD
open PySem PySem.Spec L2
structure RowsAt(H:Hp)(a:Addr)(N:List (List Nat)):Prop where
 ex:∃rs:List Addr,H a=some (.lst (rs.map V.ref))/\rs.length=N.length/\∀(i:Nat) x l,rs[i]? = some x->N[i]? = some l->RowN H (.ref x) (l.length == 2)
theorem RowsAt.same{a:Addr}{H H':Hp}{N:List (List Nat)}(h:RowsAt H a N)(k:Same H H'):RowsAt H' a N:=by
 obtain⟨rs,h1,h2,h3⟩:=h.ex;exact⟨rs,k a _ h1,h2,fun i x l e1 e2=>(h3 i x l e1 e2).ts (Same.ts k)⟩
theorem RowsAt.kept{b c a:Addr}{H H':Hp}{N:List (List Nat)}(h:RowsAt H a N)(hB:Bag H b c)(k:Kept b H H'):RowsAt H' a N:=by
 obtain⟨rs,h1,h2,h3⟩:=h.ex;exact⟨rs,k.1 a _ h1 (refs_ne hB h1),h2,fun i x l e1 e2=>(h3 i x l e1 e2).ts (Kept.ts k hB)⟩
end RD
namespace RD
open PySem PySem.Spec L2
theorem operand_ok{K:PySem.W.Frag}{H:Hp}{b c a:Addr}{Q:VK}{E:XK}(hB:Bag H b c)(hN:NamesN H a)(k:∀v H',OpN v->Bag H' b c->Kept b H H'->Q v H'):sp_operand K [.ref b,.ref a] H Q E:=by
 refine⟨rfl,?_⟩;unfold t_operand
 with_reducible refine s_seq ?_
 walk_at "ev";refine take_ok hB (by decide) (by decide) fun n1 H1 a0 a1 B1 k1=>?_
 walk_at "ev";refine ite2 (fun _=>?_) (fun _=>?_)
 ·walk_at "ev"
  exact value_ok B1 fun n H2 q0 q1 B2 k2=>k _ _ (.inr ⟨n,rfl,q0,q1⟩) B2 (k1.trans k2)
 ·walk_at "ev"
  obtain⟨N1,ne⟩:=hN.kept hB k1;obtain⟨ss,h1,h2,h3,h4⟩:=N1.ex;refine q_lenL h1 ?_;walk_at "ev";refine pick_ok B1 h1 ne (by simpa using h2) (by rw[List.length_map];omega) fun n v H2 e1 e2 a2 B2 k2=>?_
  refine q_ixL a2 e1 ?_;obtain⟨s,hs,rfl⟩:=List.mem_map.mp e2;exact k _ _ (.inl ⟨s,rfl,h4 s hs⟩) B2 (k1.trans k2)
theorem deed_ok{K:PySem.W.Frag}{H:Hp}{b c a:Addr}{Q:VK}{E:XK}(hB:Bag H b c)(hN:NamesN H a)(k:∀p H',DeedN H' p->H p=none->Bag H' b c->Kept b H H'->Q (.ref p) H'):sp_deed K [.ref b,.ref a] H Q E:=by
 refine⟨rfl,?_⟩;unfold t_deed
 with_reducible refine s_seq ?_
 walk_at "ev";refine new_i (by decide) fun p G hp e s=>?_
 walk_at "ev";refine take_ok (hB.same s) (by decide) (by decide) fun n1 H1 a0 a1 B1 k1=>?_
 have hp1:=k1.1 p _ e (hB.nb hp).1;have k01:Kept b H H1:=(Kept.of_same s).trans k1;obtain⟨v,hv,hv2⟩:=atI_of (xs:=([.str "plus", .str "minus", .str "times", .str "less", .str "same"]:List V)) a0 (by simpa using a1);refine q_ixL hp1 hv ?_
 have:∃kd:Str,v=.str kd/\kd∈KINDS:=by
  have m:=List.mem_of_getElem? hv2;simp only[List.mem_cons,List.not_mem_nil,or_false]at m;rcases m with rfl | rfl | rfl | rfl | rfl <;> exact⟨_,rfl,by simp⟩
 obtain⟨kd,rfl,hkd⟩:=this;walk_at "ev";obtain⟨N1,_⟩:=hN.kept hB k01;refine operand_ok B1 N1 fun v1 H2 o1 B2 k2=>?_
 walk_at "ev";obtain⟨N2,_⟩:=N1.kept B1 k2;refine operand_ok B2 N2 fun v2 H3 o2 B3 k3=>?_
 walk_at "ev";refine new_i (by simp) fun q G hq e s=>?_
 have k03:=(k01.trans k2).trans k3;exact k q _ ⟨kd,v1,v2,e,o1,o2,hkd⟩ (k03.none hq) (B3.same s) (k03.trans (Kept.of_same s))
theorem row_ok{K:PySem.W.Frag}{H:Hp}{b c a p:Addr}{ss:List Str}{few:Nat}{Q:VK}{E:XK}(hB:Bag H b c)(ha:H a=some (.lst (ss.map V.str)))(hl:ss.length<=8)(hf:few<ss.length)(hss:∀s∈ss,NmS s)(hP:PoolN H p)
  (k:∀v H',RowN H' v false->Bag H' b c->Kept b H H'->Q v H'):sp_row K [.ref b,.ref a,.int (few:Int),.ref p] H Q E:=by
 have hN:NamesN H a:=⟨ss,ha,by intro z;subst z;simp at hf,hl,hss⟩;have ne0:ss.map V.str≠[]:=by intro z;rw[List.map_eq_nil_iff.mp z]at hf;simp at hf
 have nab:=(hN.kept hB (Kept.refl b H)).2;refine⟨rfl,?_⟩;unfold t_row
 with_reducible refine s_seq ?_
 walk_at "ev";refine q_lenL ha ?_;walk_at "ev";refine pick_ok hB ha nab ne0 (by rw[List.length_map];omega) fun n v H1 e1 e2 a1 B1 k1=>?_
 refine q_ixL a1 e1 ?_;obtain⟨s1,hs1,rfl⟩:=List.mem_map.mp e2;walk_at "ev"
 with_reducible refine s_cut (P:=fun σ H2=>∃s,NmS s/\σ=[some (.ref b),some (.ref a),some (.int (few:Int)),some (.ref p),some (.str s),none]/\Bag H2 b c/\Kept b H H2) ?_ ?_
 rotate_left
 ·intro nx hnx
  walk_at "ev";refine take_ok B1 (by decide) (by decide) fun q H2 _ _ B2 k2=>?_
  walk_at "ev";refine ite2 (fun _=>?_) (fun _=>?_)
  ·walk_at "ev"
   have a2:=k2.1 _ _ a1 nab;refine q_lenL a2 ?_;walk_at "ev";rw[List.length_map];refine take_ok B2 (by omega) (by omega) fun u H3 u0 u1 B3 k3=>?_
   walk_at "ev";obtain⟨v,hv,hv2⟩:=atI_of (xs:=ss.map V.str) (i:=(few:Int)+u) (by omega) (by rw[List.length_map];omega);refine q_ixL (k3.1 _ _ a2 nab) hv ?_;obtain⟨s,hs,rfl⟩:=List.mem_map.mp (List.mem_of_getElem? hv2);exact hnx _ _ ⟨s,hss s hs,rfl,B3,(k1.trans k2).trans k3⟩
  ·walk_at "ev"
   exact hnx _ _ ⟨s1,hss s1 hs1,rfl,B2,k1.trans k2⟩
 rintro _ H2 ⟨s,ns,rfl,B2,k2⟩
 with_reducible refine s_seq ?_
 walk_at "ev";refine take_ok B2 (by decide) (by decide) fun w H3 w0 w1 B3 k3=>?_
 have k03:=k2.trans k3;obtain⟨N3,_⟩:=hN.kept hB k03;have P3:=hP.kept hB k03;walk_at "ev"
 with_reducible refine s_seq ?_
 walk_at "ev";refine ite2 (fun _=>?_) (fun _=>?_)
 ·obtain⟨ps,p1,p2,p3,p4⟩:=P3.ex
  walk_at "ev";refine q_lenL p1 ?_;walk_at "ev";refine pick_ok B3 p1 (refs_ne B3 p1) (by simpa using p2) (by rw[List.length_map];omega) fun n v H4 f1 f2 a4 B4 k4=>?_
  refine q_ixL a4 f1 ?_;obtain⟨d,hd,rfl⟩:=List.mem_map.mp f2;have hd4:=(p4 d hd).ts (Kept.ts k4 B3);walk_at "ev";refine new_i (by simp) fun q G hq e s5=>?_
  exact k _ _ ⟨q,_,rfl,e,.set _ d ns (hd4.ts (Same.ts s5)),_,_,rfl,by decide⟩ (B4.same s5) ((k03.trans k4).trans (Kept.of_same s5))
 walk_at "ev"
 with_reducible refine s_seq ?_
 walk_at "ev";refine ite2 (fun _=>?_) (fun _=>?_)
 ·walk_at "ev"
  refine operand_ok B3 N3 fun v H4 o1 B4 k4=>?_
  walk_at "ev";refine new_i (by simp) fun q G hq e s5=>?_
  exact k _ _ ⟨q,_,rfl,e,.copy _ v ns o1,_,_,rfl,by decide⟩ (B4.same s5) ((k03.trans k4).trans (Kept.of_same s5))
 walk_at "ev"
 with_reducible refine s_seq ?_
 walk_at "ev";refine ite2 (fun _=>?_) (fun _=>?_)
 ·walk_at "ev"
  refine new_i (by simp) fun q1 G1 hq1 e1 s1=>?_
  walk_at "ev";have B4:=B3.same s1;refine operand_ok B4 (N3.same s1) fun v H5 o1 B5 k5=>?_
  walk_at "ev";refine new_i (by simp) fun q2 G2 hq2 e2 s2=>?_
  walk_at "ev";refine new_i (by simp) fun q3 G3 hq3 e3 s3=>?_
  walk_at "ev";have sB:=(B5.same s2);refine take_ok (sB.same s3) (by decide) (by decide) fun j H6 j0 j1 B6 k6=>?_
  obtain⟨x,hx,hx2⟩:=atI_of (xs:=[V.ref q1,V.ref q2]) j0 (by simpa using j1);refine q_ixL (k6.1 _ _ e3 (sB.nb hq3).1) hx ?_;have kk:Kept b H H6:=((k03.trans (Kept.of_same s1)).trans k5).trans ((Kept.of_same (s2.trans s3)).trans k6);have f1:H6 q1=_:=k6.1 _ _ (s3 _ _ (s2 _ _ (k5.1 _ _ e1 (B3.nb hq1).1))) (B3.nb hq1).1;have f2:H6 q2=_:=k6.1 _ _ (s3 _ _ e2) (B5.nb hq2).1;have m:=List.mem_of_getElem? hx2;simp only[List.mem_cons,List.not_mem_nil,or_false]at m;rcases m with rfl | rfl
  ·exact k _ _ ⟨q1,_,rfl,f1,.take _ ns,_,_,rfl,by decide⟩ B6 kk
  ·exact k _ _ ⟨q2,_,rfl,f2,.tell v o1,_,_,rfl,by decide⟩ B6 kk
 walk_at "ev";refine new_i (by simp) fun q G hq e s5=>?_
 exact k _ _ ⟨q,_,rfl,e,.skip,_,_,rfl,by decide⟩ (B3.same s5) (k03.trans (Kept.of_same s5))
theorem cutT(ss:List Str)(few:Nat):cutV (ss.map V.str) none (some (few:Int))=(ss.take few).map V.str:=by
 unfold cutV;have e:HT.sIx (ss.map V.str).length 0 none=0:=rfl
 have e2:HT.sIx (ss.map V.str).length (ss.map V.str).length (some (few:Int))=min few ss.length:=by
  have:=HT.sIx_nat (ss.map V.str).length (ss.map V.str).length few;rw[List.length_map]at this ⊢;rw[this]
 rw[e,e2,List.drop_zero,Nat.sub_zero,List.map_take];rw[Nat.min_comm,List.take_eq_take_min (i:=few),List.length_map];congr 1;omega
theorem plan_new{K:PySem.W.Frag}{H:Hp}{b c:Addr}{Q:VK}{E:XK}(hB:Bag H b c)
  (k:∀p ra na sa da N H',H' p=some (.tup [.ref ra,.ref na,.ref sa,.ref da])->RowsAt H' ra N->NetAt H' na N->NamesN H' sa->(∃ss:List Str,H' sa=some (.lst (ss.map V.str))/\2<=ss.length)->PoolN H' da->Valid N->N.length<=24->ra≠da->na≠da->Bag H' b c->Kept b H H'->Q (.ref p) H'):sp_plan K [.ref b] H Q E:=by
 refine⟨rfl,?_⟩;unfold t_plan
 with_reducible refine s_seq ?_
 walk_at "ev";refine take_ok hB (by decide) (by decide) fun n1 H1 a0 a1 B1 k1=>?_
 walk_at "ev"
 with_reducible refine s_cut (P:=fun σ H2=>∃m:Nat,σ=[some (.ref b),some (.int (m:Int)),none,none,none,none,none,none]/\0<m/\m<=24/\Bag H2 b c/\Kept b H H2) ?_ ?_
 rotate_left
 ·intro nx hnx
  walk_at "ev";refine take_ok B1 (by decide) (by decide) fun n2 H2 b0 b1 B2 k2=>?_
  walk_at "ev";refine ite2 (fun _=>?_) (fun _=>?_)
  ·walk_at "ev"
   refine take_ok B2 (by decide) (by decide) fun n3 H3 c0 c1 B3 k3=>?_
   walk_at "ev";obtain⟨n3,rfl⟩:=Int.eq_ofNat_of_zero_le c0;exact hnx _ _ ⟨15+n3,rfl,by omega,by omega,B3,(k1.trans k2).trans k3⟩
  ·walk_at "ev"
   obtain⟨n1,rfl⟩:=Int.eq_ofNat_of_zero_le a0;exact hnx _ _ ⟨1+n1,rfl,by omega,by omega,B2,k1.trans k2⟩
 rintro _ H2 ⟨m,rfl,m0,m1,B2,k2⟩
 with_reducible refine s_seq ?_
 walk_at "ev";refine net_ok B2 m0 m1 fun a N0 H3 n3 l3 s3 z3 B3 k3=>?_
 walk_at "ev";refine mended_ok n3 (by omega) (by omega) (by rw[l3];exact s3) (by rw[l3];exact z3) fun na N H4 n4 v4 lN s4=>?_
 walk_at "ev";have B4:=B3.same s4;have k4:Kept b H H4:=(k2.trans k3).trans (Kept.of_same s4)
 with_reducible refine s_seq ?_
 walk_at "ev";refine take_ok B4 (by decide) (by decide) fun f H5 f0 f1 B5 k5=>?_
 obtain⟨f,rfl⟩:=Int.eq_ofNat_of_zero_le f0;walk_at "ev";obtain⟨few,hfew,hfew1⟩:∃few:Nat,(1:Int)+(f:Int)=(few:Int)/\1<=few/\few<=3:=⟨1+f,by omega,by omega⟩;rw[hfew]
 with_reducible refine s_seq ?_
 walk_at "ev";refine take_ok B5 (by decide) (by decide) fun g H6 g0 g1 B6 k6=>?_
 obtain⟨g,rfl⟩:=Int.eq_ofNat_of_zero_le g0;walk_at "ev";obtain⟨mn,hmn,hmn1⟩:∃mn:Nat,(few:Int)+1+(g:Int)=(mn:Int)/\few<mn/\mn<=5/\2<=mn:=⟨few+1+g,by omega,by omega⟩;rw[hmn];refine names_ok B6 hmn1.2.2 hmn1.2.1 fun sa ss H7 e7 l7 hss nsb B7 k7=>?_
 walk_at "ev";have n7:=((n4.kept B4 v4.two k5).kept B5 v4.two k6).kept B6 v4.two k7;have k07:Kept b H H7:=((k4.trans k5).trans k6).trans k7
 with_reducible refine s_seq ?_
 with_reducible refine s_comp (s_rng1 ?_)
 walk_at "ev";refine take_ok B7 (by decide) (by decide) fun n8 H8 d0 d1 B8 k8=>?_
 walk_at "ev";obtain⟨n8,rfl⟩:=Int.eq_ofNat_of_zero_le d0;refine⟨1+n8,rfl,by omega,by omega,fun D hD=>?_⟩;obtain⟨nb,nc⟩:=B8.nb hD;have n8':=n7.kept B7 v4.two k8;have e8:=k8.1 _ _ e7 nsb;obtain⟨xsn,hxn,_⟩:=n8'.len;have nnaD:na≠D:=ne_of_none hxn hD;refine comp_rng (fun i ys H9=>∃ps:List Addr,ys=ps.map V.ref/\ps.length=i/\(∀p∈ps,DeedN H9 p)/\H9 D=some (.lst ys)/\Bag H9 b c/\Kept b H8 H9) ?_ ?_ ?_ ?_
 ·exact⟨[],rfl,rfl,by simp,upd_same,B8.new hD,Kept.new hD⟩
 ·rintro i ys H9 ⟨_,_,_,_,h,_⟩
  exact h
 ·rintro i ys H9 hi ⟨ps,rfl,lp,hp,hD9,B9,k9⟩ R hR
  walk_at "ev";refine q_slL (k9.1 _ _ e8 nsb) fun q H10 hq e10 s10=>?_
  rw[cutT]at e10;walk_at "ev"
  have N10:NamesN H10 q:=⟨ss.take few,e10,by
   intro z;have:=congrArg List.length z;rw[List.length_take,List.length_nil]at this;omega,by rw[List.length_take];omega,fun s hs=>hss s (List.mem_of_mem_take hs)⟩
  have B10:=B9.same s10;refine deed_ok B10 N10 fun p H11 hd11 _ B11 k11=>?_
  have hD11:=k11.1 _ _ (s10 _ _ hD9) nb;refine hR _ _ hD11 (smallT (by rw[List.length_map];omega)) ⟨ps++[p],by simp,by simp[lp],fun q hq=>?_,upd_same,B11.put nb nc,((k9.trans (Kept.of_same s10)).trans k11).put hD⟩;rcases List.mem_append.mp hq with z | z
  ·exact(((hp q z).ts (Same.ts s10)).ts (Kept.ts k11 B10)).ts (TSame.put hD11)
  ·rw[List.mem_singleton.mp z];exact hd11.ts (TSame.put hD11)
 rintro ys H9 ⟨ps,rfl,lp,hp,hD9,B9,k9⟩;have P9:PoolN H9 D:=⟨ps,hD9,by intro z;subst z;simp at lp;omega,by omega,hp⟩;have n9:=n8'.kept B8 v4.two k9;have e9:=k9.1 _ _ e8 nsb;have k09:Kept b H H9:=(k07.trans k8).trans k9;walk_at "ev"
 with_reducible refine s_seq ?_
 walk_at "ev";refine new_i (by simp) fun R' H10 hR' e10 s10=>?_
 walk_at "ev";have n10:=n9.same s10;have B10:=B9.same s10;obtain⟨rb,rc⟩:=B9.nb hR';have nRD:R'≠D:=(ne_of_none hD9 hR').symm
 with_reducible refine s_seq ?_
 with_reducible refine s_for (s_ilst ?_)
 walk_at "ev";obtain⟨as,q1,q2,q3⟩:=id n9.ex;have hR0:H R'=none:=k09.none hR';refine⟨na,rfl,⟨_,SqL.of (s10 _ _ q1)⟩,for_list (xs:=as.map V.ref) (fun i σ H11=>∃y7 rs,σ=[some (.ref b),some (.int (m:Int)),some (.ref na),some (.int (few:Int)),some (.ref sa),some (.ref D),some (.ref R'),y7]/\(rs:List Addr).length=i/\(∀(j:Nat) x l,rs[j]? = some x->N[j]? = some l->RowN H11 (.ref x) (l.length == 2))/\H11 R'=some (.lst (rs.map V.ref))/\Bag H11 b c/\Kept b H9 H11) ?_ ?_ ?_ ?_⟩
 ·exact⟨_,[],rfl,rfl,by simp,e10,B10,Kept.of_same s10⟩
 ·rintro i σ H11 _ ⟨_,_,_,_,_,_,_,k11⟩
  exact SqL.of (k11.1 _ _ q1 (refs_ne B9 q1))
 ·rintro i x _ H11 hx ⟨y7,rs,rfl,lr,hr,hR11,B11,k11⟩
  rw[List.getElem?_map]at hx;cases hxa:as[i]? with
  | none=>rw[hxa]at hx;cases hx
  | some xa=>
   rw[hxa]at hx;cases hx;have hi:i<N.length:=by rw[<-q2];exact(List.getElem?_eq_some_iff.mp hxa).1
   have hx9:=q3 i xa _ hxa (at_len hi);have hx11:=k11.1 _ _ hx9 (short_ne B9 hx9 (by rw[IL_len];have:=v4.two _ (List.getElem_mem hi);omega));have P11:=P9.kept B9 k11;have e11:=k11.1 _ _ e9 nsb;walk_at "ev";refine q_lenL hx11 ?_;walk_at "ev";rw[IL_len];by_cases h2:N[i].length=2
   ·refine iteT' (decide_eq_true (by rw[h2];rfl)) ?_
    walk_at "ev"
    with_reducible refine s_bm ?_
    walk_at "ev";refine⟨ty_list hR11,?_⟩;walk_at "ev";refine operand_ok B11 ⟨ss,e11,by intro z;subst z;simp at l7;omega,by omega,hss⟩ fun v H12 o12 B12 k12=>?_
    walk_at "ev";refine new_i (by simp) fun q H13 hq e13 s13=>?_
    walk_at "ev";have hR13:=s13 _ _ (k12.1 _ _ hR11 rb);have r13:RowN H13 (.ref q) (N[i].length == 2):=⟨q,_,rfl,e13,.ask v o12,_,_,rfl,by rw[h2];decide⟩;refine q_append hR13 (smallT (by rw[List.length_map];omega)) ?_;refine⟨_,rs++[q],rfl,by simp[lr],fun j y l g1 g2=>?_,by rw[upd_same];simp,(B12.same s13).put rb rc,((k11.trans k12).trans (Kept.of_same s13)).put hR'⟩;rcases snocAt g1 with ⟨_,f1⟩ | ⟨hj,f1⟩
    ·exact(((hr j y l f1 g2).ts (Kept.ts k12 B11)).ts (Same.ts s13)).ts (TSame.put hR13)
    ·rw[hj,lr,at_len hi]at g2
     cases g2;subst f1;exact r13.ts (TSame.put hR13)
   ·refine iteF' (decide_eq_false (by intro z;have:=V.int.inj z;omega)) ?_
    walk_at "ev"
    with_reducible refine s_bm ?_
    walk_at "ev";refine⟨ty_list hR11,?_⟩;walk_at "ev";refine row_ok B11 e11 (by omega) (by omega) hss P11 fun v H12 r12 B12 k12=>?_
    obtain⟨pv,xv,rfl,_⟩:=id r12;walk_at "ev";have hR12:=k12.1 _ _ hR11 rb;have hm2:(N[i].length == 2)=false:=by simpa using h2
    refine q_append hR12 (smallT (by rw[List.length_map];omega)) ?_;refine⟨_,rs++[pv],rfl,by simp[lr],fun j y l g1 g2=>?_,by rw[upd_same];simp,B12.put rb rc,(k11.trans k12).put hR'⟩;rcases snocAt g1 with ⟨_,f1⟩ | ⟨hj,f1⟩
    ·exact((hr j y l f1 g2).ts (Kept.ts k12 B11)).ts (TSame.put hR12)
    ·rw[hj,lr,at_len hi]at g2
     cases g2;subst f1;rw[hm2];exact r12.ts (TSame.put hR12)
 ·rintro _ H11 ⟨y7,rs,rfl,lr,hr,hR11,B11,k11⟩
  rw[List.length_map]at lr;walk_at "ev";refine new_i (by simp) fun p H12 hp12 e12 s12=>?_
  have N11:NamesN H11 sa:=⟨ss,k11.1 _ _ e9 nsb,by intro z;subst z;simp at l7;omega,by omega,hss⟩;exact k p R' na sa D N H12 e12 ((⟨rs,hR11,by rw[lr,q2],hr⟩:RowsAt H11 R' N).same s12) ((n9.kept B9 v4.two k11).same s12) (N11.same s12) ⟨ss,s12 _ _ (k11.1 _ _ e9 nsb),by omega⟩ ((P9.kept B9 k11).same s12) v4 lN nRD nnaD (B11.same s12) ((k09.trans k11).trans (Kept.of_same s12))
theorem lists_new{K:PySem.W.Frag}{H:Hp}{a:Addr}{N:List (List Nat)}{Q:VK}{E:XK}(hn:NetAt H a N)(h400:N.length<=400)(k:∀a' ns H',H a'=none->H' a'=some (.lst ((ns:List Addr).map V.ref))->(∀y∈ns,H y=none/\y≠a'/\∃xs,H' y=some (.lst xs))->NetAt H' a' N->Same H H'->Q (.ref a') H'):sp_lists K [.ref a] H Q E:=by
 obtain⟨ns,m1,m2,m3⟩:=id hn.ex;refine⟨rfl,?_⟩;unfold t_lists;walk_at "ev"
 with_reducible refine s_comp (s_ilst ?_)
 walk_at "ev";refine⟨a,rfl,⟨_,SqL.of m1⟩,fun np hnp=>?_⟩;refine comp_lst (xs:=ns.map V.ref) (fun i ys H8=>∃as:List Addr,ys=as.map V.ref/\as.length=i/\(∀(j:Nat) y l,as[j]? = some y->N[j]? = some l->H8 y=some (.lst (IL l))/\y≠np/\H y=none)/\H8 np=some (.lst ys)/\Same H H8) ?_ ?_ ?_ ?_ ?_
 ·exact⟨[],rfl,rfl,by simp,upd_same,same_new hnp⟩
 ·rintro i ys H8 ⟨_,_,_,_,h,_⟩
  exact h
 ·rintro i ys H8 _ ⟨_,_,_,_,_,s8⟩
  exact SqL.of (s8 _ _ m1)
 ·rintro i y ys H8 hy ⟨as,rfl,la,at8,hnp8,s8⟩ R hR
  rw[List.getElem?_map]at hy;cases hnx:ns[i]? with
  | none=>rw[hnx]at hy;cases hy
  | some nx=>
   rw[hnx]at hy;cases hy;have hi:i<N.length:=by rw[<-m2];exact(List.getElem?_eq_some_iff.mp hnx).1
   walk_at "ev";refine q_listL (s8 _ _ (m3 i nx _ hnx (at_len hi))) fun q H9 hq e9 s9=>?_
   have nq:q≠np:=(ne_of_none hnp8 hq).symm;refine hR _ _ (s9 _ _ hnp8) (smallT (by rw[List.length_map];omega)) ⟨as++[q],by simp,by simp[la],fun j y l g1 g2=>?_,upd_same,fun b o e=>?_⟩
   ·rcases snocAt g1 with ⟨_,f1⟩ | ⟨hj,f1⟩
    ·obtain⟨f2,f3,f4⟩:=at8 j y l f1 g2
     exact⟨by rw[upd_ne f3];exact s9 _ _ f2,f3,f4⟩
    ·rw[hj,la,at_len hi]at g2
     cases g2;subst f1;exact⟨by rw[upd_ne nq];exact e9,nq,s8.free hq⟩
   ·rw[upd_ne (ne_of_none e hnp)];exact s9 _ _ (s8 _ _ e)
 ·rintro ys H8 ⟨as,rfl,la,at8,hnp8,s8⟩
  rw[List.length_map,m2]at la;refine k np as H8 hnp hnp8 (fun y hy=>?_) ⟨as,hnp8,la,fun i y l a b=>(at8 i y l a b).1⟩ s8;obtain⟨i,hi⟩:=List.mem_iff_getElem?.mp hy;have q:=at8 i y _ hi (at_len (show i<N.length by have:=(List.getElem?_eq_some_iff.mp hi).1;omega));exact⟨q.2.2,q.2.1,_,q.1⟩
end RD
namespace RD
open PySem PySem.Spec L2
theorem big{n:Nat}(h:n<=1000000):n<=sizeLine:=Nat.le_trans h (by rw[PySem.sizeLine_eq];decide)
theorem check_length_ok{K:PySem.W.Frag}{H:Hp}{a:Addr}{xs:List V}{Q:VK}{E:XK}(ha:H a=some (.lst xs))(h1:1<=xs.length)(h2:xs.length<=400)(k:Q .non H):sp_check_length K [.ref a,.int 0,.int 1] H Q E:=by
 refine⟨rfl,?_⟩;unfold t_check_length
 with_reducible refine s_seq ?_
 walk_at "ev";refine q_isi (s := "list") (by simp only[tyName,ha]) (by decide) ?_;walk_at "ev";refine iteF' (by decide) ?_;walk_at "ev";refine q_lenL ha ?_;walk_at "ev";refine iteF' (decide_eq_false (by omega)) ?_;walk_at "ev";refine q_lenL ha ?_;walk_at "ev";refine iteF' (decide_eq_false (by omega)) ?_;walk_at "ev";exact k
theorem check_each_ok{K:PySem.W.Frag}{H:Hp}{a:Addr}{n:Nat}{Q:VK}{E:XK}(ha:H a=some (.lst (List.replicate n (V.bl true))))(k:∀H',Same H H'->Q .non H'):sp_check_each K [.ref a] H Q E:=by
 refine⟨rfl,?_⟩;unfold t_check_each
 with_reducible refine s_for (s_ienum ?_)
 walk_at "ev";refine⟨a,rfl,⟨_,SqL.of ha⟩,?_⟩;refine for_i n (fun i σ H2=>∃x1 x2,σ=[some (.ref a),x1,x2]/\Same H H2) ⟨_,_,rfl,Same.refl _⟩ ?_ ?_ ?_
 ·rintro _ H2 ⟨x1,x2,rfl,s2⟩
  exact⟨⟨_,SqL.of (s2 _ _ ha),by simp⟩,k H2 s2⟩
 ·rintro i _ H2 hi ⟨x1,x2,rfl,s2⟩
  exact⟨_,V.bl true,SqL.of (s2 _ _ ha),by rw[List.getElem?_replicate,if_pos hi]⟩
 ·rintro i _ H2 hi ⟨x1,x2,rfl,s2⟩ x H3 ⟨p,y,hp,rfl,rfl,hy⟩
  have hy:=hy _ (SqL.of (s2 _ _ ha));rw[List.getElem?_replicate,if_pos hi]at hy;cases hy;refine s_gpair (SqT.of upd_same) ?_;walk_at "ev";refine iteF' rfl ?_;walk_at "ev";exact⟨_,_,rfl,s2.trans (same_new hp)⟩
theorem tru_snoc(n:Nat):List.replicate n (V.bl true)++[V.bl true]=List.replicate (n+1) (V.bl true):=by
 rw[List.replicate_succ']
theorem len_in{n:Nat}(h:n=0\/n=1):inV (.int (n:Int)) [.int 0,.int 1]=true:=by
 rcases h with rfl | rfl <;> decide
theorem are_nexts_ok{K:PySem.W.Frag}{H:Hp}{v:V}{x:Addr}{l:List Nat}{m:Nat}{Q:VK}{E:XK}(hv:RowN H v (l.length == 2))(hx:H x=some (.lst (IL l)))(h2:l.length<=2)(hlt:∀t∈l,t<m)(k:∀H',Same H H'->Q (.bl true) H') :
  sp_are_nexts K [v,.ref x,.int (m:Int)] H Q E:=by
 obtain⟨p,xs,rfl,hp,_,kd,r,rfl,hk⟩:=hv;refine⟨rfl,?_⟩;unfold t_are_nexts
 with_reducible refine s_seq ?_
 walk_at "ev";refine q_isi (s := "list") (by simp only[tyName,hx]) (by decide) ?_;walk_at "ev";refine iteF' (by decide) ?_;walk_at "ev"
 with_reducible refine s_cut (P:=fun σ H1=>∃w ws,σ=[some (.ref p),some (.ref x),some (.int (m:Int)),some (.ref w)]/\H1 w=some (.tup ws)/\ws.all flatV=true/\inV (.int (l.length:Int)) ws=true/\Same H H1) ?_ ?_
 rotate_left
 ·intro nx hnx
  walk_at "ev";refine q_ixT hp (atI0 _ _) ?_;walk_at "ev";by_cases e:kd = "ask"
  ·refine iteT' (decide_eq_true (by rw[e])) ?_
   walk_at "ev";refine new_i (by simp) fun w H1 hw e1 s1=>?_
   rw[decide_eq_true e]at hk;have:l.length=2:=by simpa using hk.symm
   exact hnx _ _ ⟨w,_,rfl,e1,rfl,by rw[this];decide,s1⟩
  ·refine iteF' (decide_eq_false (fun z=>e (V.str.inj z))) ?_
   walk_at "ev";refine new_i (by simp) fun w H1 hw e1 s1=>?_
   rw[decide_eq_false e]at hk
   have:¬l.length=2:=by
    intro z;rw[z]at hk;exact absurd hk (by decide)
   exact hnx _ _ ⟨w,_,rfl,e1,rfl,len_in (by omega),s1⟩
 rintro _ H1 ⟨w,ws,rfl,hw,fw,iw,s1⟩;walk_at "ev";refine q_lenL (s1 _ _ hx) ?_;walk_at "ev";rw[IL_len];refine q_inT hw rfl fw ?_;refine⟨_,rfl,iteT' iw ?_⟩;walk_at "ev"
 with_reducible refine s_comp (s_ilst ?_)
 walk_at "ev";refine⟨x,rfl,⟨_,SqL.of (s1 _ _ hx)⟩,fun D hD=>?_⟩;refine comp_lst (xs:=IL l) (fun i ys H2=>ys=List.replicate i (V.bl true)/\H2 D=some (.lst ys)/\Same H1 H2) ⟨rfl,upd_same,same_new hD⟩ ?_ ?_ ?_ ?_
 ·rintro i ys H2 ⟨_,h,_⟩
  exact h
 ·rintro i ys H2 _ ⟨_,_,s2⟩
  exact SqL.of (s2 _ _ (s1 _ _ hx))
 ·rintro i y ys H2 hy ⟨rfl,hD2,s2⟩ R hR
  have hy:(l.map fun(n:Nat)=>V.int (n:Int))[i]? = some y:=hy;rw[List.getElem?_map]at hy;cases ht:l[i]? with
  | none=>rw[ht]at hy;cases hy
  | some t=>
   rw[ht]at hy;cases hy;have hi:=(List.getElem?_eq_some_iff.mp ht).1;have:=hlt t (List.mem_of_getElem? ht);walk_at "ev";refine is_below_int (by omega) (by omega) ?_;refine hR _ _ hD2 (smallT (by rw[List.length_replicate];omega)) ⟨tru_snoc i,upd_same,fun b o e=>?_⟩;rw[upd_ne (ne_of_none e hD)];exact s2 _ _ e
 ·rintro ys H2 ⟨rfl,hD2,s2⟩
  walk_at "ev";have e:List.replicate (IL l).length (V.bl true)=(List.replicate l.length true).map V.bl:=by rw[IL_len];simp
  rw[e]at hD2;refine q_all hD2 ?_;have:(List.replicate l.length true).all id=true:=by simp
  rw[this];exact k H2 (s1.trans s2)
theorem check_nexts_ok{K:PySem.W.Frag}{H:Hp}{ra na:Addr}{N:List (List Nat)}{Q:VK}{E:XK}(hr:RowsAt H ra N)(hn:NetAt H na N)(h400:N.length<=400)(h2:∀l∈N,l.length<=2)(hlt:∀l∈N,∀t∈l,t<N.length)(k:∀H',Same H H'->Q .non H') :
  sp_check_nexts K [.ref ra,.ref na] H Q E:=by
 obtain⟨rs,r1,r2,r3⟩:=id hr.ex;obtain⟨as,a1,a2,a3⟩:=id hn.ex;refine⟨rfl,?_⟩;unfold t_check_nexts
 with_reducible refine s_seq ?_
 walk_at "ev";refine q_isi (s := "list") (by simp only[tyName,a1]) (by decide) ?_;walk_at "ev";refine iteF' (by decide) ?_;walk_at "ev";refine q_lenL a1 ?_;walk_at "ev";refine q_lenL r1 ?_;walk_at "ev";refine iteF' (by rw[List.length_map,List.length_map,r2,a2];simp) ?_;walk_at "ev"
 with_reducible refine s_compP (s_izip ?_)
 walk_at "ev";refine⟨ra,na,rfl,⟨_,SqL.of r1⟩,⟨_,SqL.of a1⟩,fun D hD=>?_⟩;refine comp_p N.length (fun i ys H2=>ys=List.replicate i (V.bl true)/\H2 D=some (.lst ys)/\Same H H2) ⟨rfl,upd_same,same_new hD⟩ ?_ ?_ ?_ ?_
 ·rintro i ys H2 ⟨_,h,_⟩
  exact h
 ·rintro ys H2 ⟨rfl,hD2,s2⟩
  refine⟨⟨_,_,SqL.of (s2 _ _ r1),SqL.of (s2 _ _ a1),.inl (by rw[List.length_map,r2];exact Nat.le_refl _)⟩,?_⟩;walk_at "ev";exact check_each_ok hD2 fun H3 s3=>k H3 (s2.trans s3)
 ·rintro i ys H2 hi ⟨_,_,s2⟩
  have e1:rs[i]? = some (rs[i]'(by omega)):=by simp[r2,hi]
  have e2:as[i]? = some (as[i]'(by omega)):=by simp[a2,hi]
  exact⟨_,_,_,_,SqL.of (s2 _ _ r1),SqL.of (s2 _ _ a1),by rw[List.getElem?_map,e1];rfl,by rw[List.getElem?_map,e2];rfl⟩
 ·rintro i ys H2 hi ⟨rfl,hD2,s2⟩ x H3 ⟨p,y1,y2,hp,rfl,rfl,g1,g2⟩
  obtain⟨rx,e1⟩:∃rx,rs[i]? = some rx:=⟨_,List.getElem?_eq_getElem (by omega)⟩;obtain⟨ax,e2⟩:∃ax,as[i]? = some ax:=⟨_,List.getElem?_eq_getElem (by omega)⟩;have g1:=g1 _ (SqL.of (s2 _ _ r1));have g2:=g2 _ (SqL.of (s2 _ _ a1));rw[List.getElem?_map,e1]at g1;rw[List.getElem?_map,e2]at g2;cases g1;cases g2;refine⟨p,_,_,rfl,SqT.of upd_same,fun R S hR hS=>?_⟩;have s3:Same H2 (upd H2 p (.tup [V.ref rx,V.ref ax])):=same_new hp;obtain⟨H3,hH3⟩:∃H3,H3=upd H2 p (.tup [V.ref rx,V.ref ax]):=⟨_,rfl⟩;rw[<-hH3]at s3 ⊢;walk_at "ev";refine iteT' rfl ?_;walk_at "ev";have s03:=s2.trans s3;refine q_lenL (s03 _ _ r1) ?_;walk_at "ev";have hl:=at_len hi;rw[List.length_map,r2];refine are_nexts_ok ((r3 i _ _ e1 hl).ts (Same.ts s03)) (s03 _ _ (a3 i _ _ e2 hl)) (h2 _ (List.getElem_mem hi)) (hlt _ (List.getElem_mem hi)) fun H4 s4=>?_
  refine hR _ _ (s4 _ _ (s3 _ _ hD2)) (smallT (by rw[List.length_replicate];omega)) ⟨tru_snoc i,upd_same,fun b o e=>?_⟩;rw[upd_ne (ne_of_none e hD)];exact s4 _ _ (s03 _ _ e)
end RD
namespace RD
open PySem PySem.Spec L2
def isStop(N:List (List Nat))(k:Nat):Bool:=(N.getD k []).isEmpty
def stopsF(N:List (List Nat)):List Nat:=(List.range N.length).filter (isStop N)
theorem mem_stops{N:List (List Nat)}{k:Nat}(h:N[k]? = some []):k∈stopsF N:=by
 refine List.mem_filter.mpr ⟨List.mem_range.mpr (List.getElem?_eq_some_iff.mp h).1,?_⟩;unfold isStop;simp[List.getD,h]
theorem stops_of_ok{K:PySem.W.Frag}{H:Hp}{na:Addr}{N:List (List Nat)}{Q:VK}{E:XK}(hn:NetAt H na N)(h400:N.length<=400)(k:∀a H',H a=none->H' a=some (.lst (IL (stopsF N)))->Same H H'->Q (.ref a) H'):sp_stops_of K [.ref na] H Q E:=by
 obtain⟨as,a1,a2,a3⟩:=id hn.ex;refine⟨rfl,?_⟩;unfold t_stops_of;walk_at "ev"
 with_reducible refine s_compP (s_ienum ?_)
 walk_at "ev";refine⟨na,rfl,⟨_,SqL.of a1⟩,fun D hD=>?_⟩;refine comp_p N.length (fun i ys H2=>ys=IL ((List.range i).filter (isStop N))/\H2 D=some (.lst ys)/\Same H H2) ⟨rfl,upd_same,same_new hD⟩ ?_ ?_ ?_ ?_
 ·rintro i ys H2 ⟨_,h,_⟩
  exact h
 ·rintro ys H2 ⟨rfl,hD2,s2⟩
  exact⟨⟨_,SqL.of (s2 _ _ a1),by rw[List.length_map,a2];exact Nat.le_refl _⟩,k D H2 hD hD2 s2⟩
 ·rintro i ys H2 hi ⟨_,_,s2⟩
  exact⟨_,_,SqL.of (s2 _ _ a1),by rw[List.getElem?_map,List.getElem?_eq_getElem (show i<as.length by omega)];rfl⟩
 ·rintro i ys H2 hi ⟨rfl,hD2,s2⟩ x H3 ⟨p,y,hp,rfl,rfl,g1⟩
  obtain⟨ax,e1⟩:∃ax,as[i]? = some ax:=⟨_,List.getElem?_eq_getElem (by omega)⟩;have g1:=g1 _ (SqL.of (s2 _ _ a1));rw[List.getElem?_map,e1]at g1;cases g1;refine⟨p,_,_,rfl,SqT.of upd_same,fun R S hR hS=>?_⟩;have s3:Same H2 (upd H2 p (.tup [V.int (i:Int),V.ref ax])):=same_new hp;obtain⟨H3,hH3⟩:∃H3,H3=upd H2 p (.tup [V.int (i:Int),V.ref ax]):=⟨_,rfl⟩;rw[<-hH3]at s3 ⊢;have s03:=s2.trans s3;have hl:=at_len hi;walk_at "ev";refine q_lenL (s03 _ _ (a3 i _ _ e1 hl)) ?_;walk_at "ev"
  have hst:isStop N i=decide (V.int ((IL N[i]).length:Int)=V.int 0):=by
   rw[dec_i,IL_len];unfold isStop;simp only[List.getD,hl,Option.getD_some];cases N[i] with
   | nil=>rfl
   | cons a r=>
    rw[List.isEmpty_cons,eq_comm,decide_eq_false_iff_not,List.length_cons];omega
  rw[<-hst];cases hb:isStop N i with
  | true=>
   refine iteT' rfl ?_;walk_at "ev";refine hR _ _ (s3 _ _ hD2) (smallT ?_) ⟨?_,upd_same,fun b o e=>?_⟩
   ·rw[IL_len]
    have:=List.length_filter_le (isStop N) (List.range i);rw[List.length_range]at this;omega
   ·rw[List.range_succ,List.filter_append]
    unfold IL;rw[List.map_append];congr 1;simp[hb]
   ·rw[upd_ne (ne_of_none e hD)];exact s03 _ _ e
  | false=>
   refine iteF' rfl ?_;refine hS _ ⟨?_,s3 _ _ hD2,s03⟩;rw[List.range_succ,List.filter_append];simp[hb]
theorem nd_ix{α:Type}{l:List α}(nd:l.Nodup){i j:Nat}{x:α}(h1:l[i]? = some x)(h2:l[j]? = some x):i=j:=
 (List.getElem?_inj (List.getElem?_eq_some_iff.mp h1).1 nd).mp (h1.trans h2.symm)
structure SrcI(H0 H:Hp)(a:Addr)(as:List Addr)(M:List (List Nat)):Prop where
 same:Same H0 H
 h:H a=some (.lst (as.map V.ref))
 len:as.length=M.length
 nd:as.Nodup
 na:a∉as
 at_:∀(i:Nat) x l,as[i]? = some x->M[i]? = some l->H x=some (.lst (IL l))
 new:H0 a=none/\∀x∈as,H0 x=none
theorem SrcI.next{H0 H H':Hp}{a:Addr}{as:List Addr}{M:List (List Nat)}(h:SrcI H0 H a as M)(s:Same H H'):SrcI H0 H' a as M:=
 ⟨h.same.trans s,s _ _ h.h,h.len,h.nd,h.na,fun i x l e1 e2=>s _ _ (h.at_ i x l e1 e2),h.new⟩
theorem SrcI.add{H0 H:Hp}{a:Addr}{as:List Addr}{M:List (List Nat)}(h:SrcI H0 H a as M){t p:Nat}{x:Addr}{l:List Nat}(e1:as[t]? = some x)(e2:M[t]? = some l) :
  SrcI H0 (upd H x (.lst (IL (l++[p])))) a as (M.set t (l++[p])):=by
 have hx:=List.mem_of_getElem? e1;have hxa:x≠a:=fun z=>h.na (z ▸ hx)
 refine⟨fun b o e=>by rw[upd_ne (ne_of_none e (h.new.2 x hx))];exact h.same b o e,by rw[upd_ne hxa.symm];exact h.h,by rw[List.length_set];exact h.len,h.nd,h.na,fun i y l' f1 f2=>?_,h.new⟩;by_cases e:i=t
 ·subst e
  rw[e1]at f1;cases f1;rw[List.getElem?_set_self (List.getElem?_eq_some_iff.mp e2).1]at f2;cases f2;exact upd_same
 ·rw[List.getElem?_set_ne (Ne.symm e)]at f2
  have:y≠x:=by
   rintro rfl;exact e (nd_ix h.nd f1 e1)
  rw[upd_ne this];exact h.at_ i y l' f1 f2
theorem SrcI.net{H0 H:Hp}{a:Addr}{as:List Addr}{M:List (List Nat)}(h:SrcI H0 H a as M):NetAt H a M:=⟨as,h.h,h.len,h.at_⟩
theorem SrcI.nil{H0 H:Hp}{a:Addr}(n:H0 a=none)(s:Same H0 H)(e:H a=some (.lst [])):SrcI H0 H a [] []:=⟨s,e,rfl,by simp,by simp,by simp,n,by simp⟩
theorem SrcI.snoc{H0 H H':Hp}{a p:Addr}{as:List Addr}{M:List (List Nat)}(h:SrcI H0 H a as M)(hp:H p=none)(ep:H' p=some (.lst (IL [])))(s:Same H H') :
  SrcI H0 (upd H' a (.lst ((as++[p]).map V.ref))) a (as++[p]) (M++[[]]):=by
 have npa:p≠a:=(ne_of_none h.h hp).symm
 have npas:p∉as:=fun z=>by
  obtain⟨i,hi⟩:=List.mem_iff_getElem?.mp z;have hl:i<M.length:=by rw[<-h.len];exact(List.getElem?_eq_some_iff.mp hi).1
  have:=h.at_ i p _ hi (at_len hl);rw[hp]at this;cases this
 have fr0:H0 p=none:=h.same.free hp;refine⟨fun b o e=>by rw[upd_ne (ne_of_none e h.new.1)];exact s _ _ (h.same b o e),upd_same,by simp[h.len],?_,?_,fun i x l f1 f2=>?_,h.new.1,fun x hx=>?_⟩
 ·rw[List.nodup_append]
  exact⟨h.nd,by simp,fun x hx y hy=>by rw[List.mem_singleton.mp hy];intro z;exact npas (z ▸ hx)⟩
 ·intro z
  rcases List.mem_append.mp z with q | q
  ·exact h.na q
  ·exact npa (List.mem_singleton.mp q).symm
 ·rcases snocAt f1 with ⟨hi,g1⟩ | ⟨hi,g1⟩
  ·rcases snocAt f2 with ⟨hj,g2⟩ | ⟨hj,g2⟩
   ·have:x≠a:=fun z=>h.na (z ▸ List.mem_of_getElem? g1)
    rw[upd_ne this];exact s _ _ (h.at_ i x l g1 g2)
   ·have:=h.len;omega
  ·rcases snocAt f2 with ⟨hj,g2⟩ | ⟨hj,g2⟩
   ·have:=h.len;omega
   ·subst g1 g2
    rw[upd_ne npa];exact ep
 ·rcases List.mem_append.mp hx with q | q
  ·exact h.new.2 x q
  ·rw[List.mem_singleton.mp q];exact fr0
theorem set_get{M:List (List Nat)}{t u:Nat}{l l':List Nat}(h:(M.set t l)[u]? = some l'):(u=t/\l'=l)\/(u≠t/\M[u]? = some l'):=by
 by_cases e:u=t
 ·subst e
  have hl:=(List.getElem?_eq_some_iff.mp h).1;rw[List.length_set]at hl;rw[List.getElem?_set_self hl]at h;exact .inl ⟨rfl,(Option.some.inj h).symm⟩
 ·rw[List.getElem?_set_ne (Ne.symm e)]at h
  exact .inr ⟨e,h⟩
theorem turned_ok{K:PySem.W.Frag}{H:Hp}{na:Addr}{N:List (List Nat)}{Q:VK}{E:XK}(hn:NetAt H na N)(h400:N.length<=400)(h2:∀l∈N,l.length<=2)(hlt:∀l∈N,∀t∈l,t<N.length)
  (k:∀a M H',NetAt H' a M->M.length=N.length->(∀(p:Nat) (l:List Nat),N[p]? = some l->∀t∈l,∃l',M[t]? = some l'/\p∈l')->(∀l∈M,l.length<=2 * N.length/\∀p∈l,p<N.length)->Same H H'->Q (.ref a) H'):sp_turned K [.ref na] H Q E:=by
 obtain⟨ns,a1,a2,a3⟩:=id hn.ex;refine⟨rfl,?_⟩;unfold t_turned
 with_reducible refine s_seq ?_
 with_reducible refine s_comp (s_ilst ?_)
 walk_at "ev";refine⟨na,rfl,⟨_,SqL.of a1⟩,fun A hA=>?_⟩;refine comp_lst (xs:=ns.map V.ref) (fun i ys H2=>∃as,ys=as.map V.ref/\SrcI H H2 A as (List.replicate i [])) ?_ ?_ ?_ ?_ ?_
 ·exact⟨[],rfl,.nil hA (same_new hA) upd_same⟩
 ·rintro i ys H2 ⟨as,rfl,I⟩
  exact I.h
 ·rintro i ys H2 _ ⟨as,rfl,I⟩
  exact SqL.of (I.same _ _ a1)
 ·rintro i x ys H2 hx ⟨as,rfl,I⟩ R hR
  have hi:i<N.length:=by
   have:=(List.getElem?_eq_some_iff.mp hx).1;rw[List.length_map,a2]at this;exact this
  walk_at "ev";refine new_i (by simp) fun p H3 hp e3 s3=>?_
  have:=I.len;rw[List.length_replicate]at this;refine hR _ _ (s3 _ _ I.h) (smallT (by rw[List.length_map];omega)) ⟨as++[p],by simp,?_⟩;have q:=I.snoc hp e3 s3;rw[show List.replicate i ([]:List Nat)++[[]]=List.replicate (i+1) [] from by rw[List.replicate_succ']]at q;rw[show as.map V.ref++[V.ref p]=(as++[p]).map V.ref by simp];exact q
 rintro ys H2 ⟨as,rfl,I2⟩;rw[List.length_map,a2]at I2;walk_at "ev"
 with_reducible refine s_seq ?_
 with_reducible refine s_for (s_ienum ?_)
 walk_at "ev";refine⟨na,rfl,⟨_,SqL.of (I2.same _ _ a1)⟩,?_⟩;refine for_i N.length (fun i σ H3=>∃x2 x3 x4 M,σ=[some (.ref na),some (.ref A),x2,x3,x4]/\SrcI H H3 A as M/\M.length=N.length/\(∀(p:Nat) (l:List Nat),p<i->N[p]? = some l->∀t∈l,∃l',M[t]? = some l'/\p∈l')/\(∀l∈M,l.length<=2 * i/\∀p∈l,p<N.length)) ?_ ?_ ?_ ?_
 ·exact⟨_,_,_,_,rfl,I2,by simp,by omega,fun l hl=>by rw[List.eq_of_mem_replicate hl];simp⟩
 ·rintro _ H3 ⟨x2,x3,x4,M,rfl,I3,lM,g1,g2⟩
  refine⟨⟨_,SqL.of (I3.same _ _ a1),by rw[List.length_map,a2];exact Nat.le_refl _⟩,?_⟩;walk_at "ev";exact k A M H3 I3.net lM (fun p l hl=>g1 p l (List.getElem?_eq_some_iff.mp hl).1 hl) g2 I3.same
 ·rintro i _ H3 hi ⟨x2,x3,x4,M,rfl,I3,lM,g1,g2⟩
  exact⟨_,_,SqL.of (I3.same _ _ a1),by rw[List.getElem?_map,List.getElem?_eq_getElem (show i<ns.length by omega)];rfl⟩
 ·rintro i _ H3 hi ⟨x2,x3,x4,M,rfl,I3,lM,g1,g2⟩ x H4 ⟨p,y,hp,rfl,rfl,gy⟩
  obtain⟨nx,e1⟩:∃nx,ns[i]? = some nx:=⟨_,List.getElem?_eq_getElem (by omega)⟩;have gy:=gy _ (SqL.of (I3.same _ _ a1));rw[List.getElem?_map,e1]at gy;cases gy;refine s_gpair (SqT.of upd_same) ?_;have s4:Same H3 (upd H3 p (.tup [V.int (i:Int),V.ref nx])):=same_new hp;obtain⟨H4,hH4⟩:∃H4,H4=upd H3 p (.tup [V.int (i:Int),V.ref nx]):=⟨_,rfl⟩;rw[<-hH4]at s4 ⊢;have I4:=I3.next s4;have hl:=at_len hi;obtain⟨l,hle⟩:∃l,l=N[i]:=⟨_,rfl⟩;rw[<-hle]at hl;have hx:H nx=some (.lst (IL l)):=a3 i nx l e1 hl;have hll:=h2 l (List.mem_of_getElem? hl)
  with_reducible refine s_for (s_ilst ?_)
  walk_at "ev";refine⟨nx,rfl,⟨_,SqL.of (I4.same _ _ hx)⟩,for_list (xs:=IL l) (fun j σ H5=>∃x4 M',σ=[some (.ref na),some (.ref A),some (.int (i:Int)),some (.ref nx),x4]/\SrcI H H5 A as M'/\M'.length=N.length/\(∀(p:Nat) (l:List Nat),p<i->N[p]? = some l->∀t∈l,∃l',M'[t]? = some l'/\p∈l')/\(∀t∈l.take j,∃l',M'[t]? = some l'/\i∈l')/\(∀l∈M',l.length<=2 * i+j/\∀p∈l,p<N.length)) ?_ ?_ ?_ ?_⟩
  ·exact⟨_,M,rfl,I4,lM,g1,by simp,g2⟩
  ·rintro j σ H5 _ ⟨_,_,_,I5,_⟩
   exact SqL.of (I5.same _ _ hx)
  ·rintro j y _ H5 hy ⟨x4,M',rfl,I5,lM',c1,c2,c3⟩
   have hy:(l.map fun(n:Nat)=>V.int (n:Int))[j]? = some y:=hy;rw[List.getElem?_map]at hy;cases ht:l[j]? with
   | none=>rw[ht]at hy;cases hy
   | some t=>
    rw[ht]at hy;cases hy;have tm:=List.mem_of_getElem? ht;have hj:=(List.getElem?_eq_some_iff.mp ht).1;have htn:t<N.length:=hlt l (List.mem_of_getElem? hl) t tm;walk_at "ev";obtain⟨z,hz⟩:∃z,as[t]? = some z:=⟨_,List.getElem?_eq_getElem (by have:=I5.len;omega)⟩;have hMt:=at_len (show t<M'.length by omega);have hMz:=I5.at_ t z _ hz hMt
    with_reducible refine s_bm ?_
    walk_at "ev";refine q_ixL I5.h (atI_nat (by rw[List.getElem?_map,hz];rfl)) ?_;refine⟨ty_list hMz,?_⟩;walk_at "ev";have hb:=c3 _ (List.getElem_mem (show t<M'.length by omega));refine q_append hMz (smallT (by rw[IL_len];omega)) ?_;refine⟨_,M'.set t (M'[t]++[i]),rfl,?_,by rw[List.length_set];exact lM',?_,?_,?_⟩
    ·have:=I5.add (p:=i) hz hMt
     rw[show IL M'[t]++[V.int (i:Int)]=IL (M'[t]++[i]) by simp[IL]];exact this
    ·intro p' l' hp' hl' u hu
     obtain⟨l'',q1,q2⟩:=c1 p' l' hp' hl' u hu;by_cases e:u=t
     ·subst e
      rw[hMt]at q1;cases q1;exact⟨_,List.getElem?_set_self (by omega),List.mem_append_left _ q2⟩
     ·exact⟨l'',by rw[List.getElem?_set_ne (Ne.symm e)];exact q1,q2⟩
    ·intro u hu
     rw[List.take_add_one,ht]at hu;by_cases e:u=t
     ·subst e
      exact⟨_,List.getElem?_set_self (by omega),by simp⟩
     ·rcases List.mem_append.mp hu with q | q
      ·obtain⟨l'',q1,q2⟩:=c2 u q
       exact⟨l'',by rw[List.getElem?_set_ne (Ne.symm e)];exact q1,q2⟩
      ·exact absurd (by simpa using q) e
    ·intro l' hl'
     obtain⟨u,hu⟩:=List.mem_iff_getElem?.mp hl';rcases set_get hu with ⟨_,rfl⟩ | ⟨_,q⟩
     ·refine⟨by rw[List.length_append,List.length_singleton];omega,fun p' hp'=>?_⟩
      rcases List.mem_append.mp hp' with q | q
      ·exact hb.2 p' q
      ·rw[List.mem_singleton.mp q];exact hi
     ·obtain⟨r1,r2⟩:=c3 l' (List.mem_of_getElem? q)
      exact⟨by omega,r2⟩
  ·rintro _ H5 ⟨x4,M',rfl,I5,lM',c1,c2,c3⟩
   rw[IL_len,List.take_length]at c2;refine⟨_,_,x4,M',rfl,I5,lM',fun p' l' hp' hl' t ht=>?_,fun l' hl'=>?_⟩
   ·by_cases e:p'=i
    ·subst e
     rw[hl]at hl';cases hl';exact c2 t ht
    ·exact c1 p' l' (by omega) hl' t ht
   ·obtain⟨r1,r2⟩:=c3 l' hl'
    rw[IL_len]at r1;exact⟨by omega,r2⟩
end RD
namespace RD
open PySem PySem.Spec L2
theorem reached_ok{K:PySem.W.Frag}{H:Hp}{ba la:Addr}{bs:List Nat}{M:List (List Nat)}{B:Nat}{Q:VK}{E:XK}(hb:H ba=some (.lst (IL bs)))(hm:NetAt H la M)(h400:M.length<=400)(hB:B<=800)(hl:∀l∈M,l.length<=B/\∀t∈l,t<M.length)(hbs:∀x∈bs,x<M.length)(lb:bs.length<=400)
  (k:∀d S H',H' d=some (.dK (KS S))->S.Nodup->(∀x∈S,x<M.length)->(∀x∈bs,x∈S)->Closed M S->Same H H'->Q (.ref d) H'):sp_reached K [.ref ba,.ref la] H Q E:=by
 refine⟨rfl,?_⟩;unfold t_reached
 with_reducible refine s_seq ?_
 walk_at "ev";refine s_dnew fun d H1 hd e1 s1=>?_
 walk_at "ev"
 with_reducible refine s_seq ?_
 walk_at "ev";refine q_listL (s1 _ _ hb) fun w H2 hw e2 s2=>?_
 walk_at "ev";have s02:=s1.trans s2;have hw0:H w=none:=s1.free hw;have ndw:d≠w:=ne_of_none e1 hw
 with_reducible refine s_seq ?_
 with_reducible refine s_while ?_
 refine⟨fun m σ H3=>∃x4 ws S,σ=[some (.ref ba),some (.ref la),some (.ref d),some (.ref w),x4]/\H3 w=some (.lst (IL ws))/\H3 d=some (.dK (KS S))/\Same H H3/\S.Nodup/\(∀x∈S,x<M.length)/\(∀x∈ws,x<M.length) /\
  (∀x∈bs,x∈S\/x∈ws)/\(∀k∈S,∀l,M[k]? = some l->∀t∈l,t∈S\/t∈ws)/\ws.length<=400+S.length * B/\m=(M.length - S.length) * (B+1)+ws.length,?_,?_⟩
 ·exact⟨_,_,bs,[],rfl,e2,s2 _ _ e1,s02,by simp,by simp,hbs,fun x hx=>.inr hx,by simp,by omega,rfl⟩
 rintro m _ H3 ⟨x4,ws,S,rfl,hw3,hd3,s3,nd,hS,hws,c1,c2,c3,rfl⟩;walk_at "ev";refine q_lenL hw3 ?_;walk_at "ev";have hSl:=nd_le _ _ nd hS;rcases snoc_cases ws with rfl | ⟨r,p,rfl⟩
 ·refine iteF' (decide_eq_false (by rw[IL_len];simp)) ?_
  walk_at "ev";refine k d S H3 hd3 nd hS (fun x hx=>(c1 x hx).elim id fun z=>by simp at z) (fun a ha l hl' t ht=>(c2 a ha l hl' t ht).elim id fun z=>by simp at z) s3
 refine iteT' (decide_eq_true (by rw[IL_len,List.length_append,List.length_singleton];omega)) ?_;have hp:p<M.length:=hws p (by simp);have eIL:IL (r++[p])=IL r++[V.int (p:Int)]:=by simp[IL]
 rw[eIL]at hw3
 refine⟨fun σ H4=>∃m' x4 ws S',σ=[some (.ref ba),some (.ref la),some (.ref d),some (.ref w),x4]/\H4 w=some (.lst (IL ws))/\H4 d=some (.dK (KS S'))/\Same H H4/\S'.Nodup/\(∀x∈S',x<M.length)/\(∀x∈ws,x<M.length) /\
  (∀x∈bs,x∈S'\/x∈ws)/\(∀k∈S',∀l,M[k]? = some l->∀t∈l,t∈S'\/t∈ws)/\ws.length<=400+S'.length * B/\m'=(M.length - S'.length) * (B+1)+ws.length/\m'<(M.length - S.length) * (B+1)+(r++[p]).length,?_,?_⟩
 ·rintro σ' H4 ⟨m',x4,ws,S',e,r1,r2,r3,r4,r5,r6,r7,r8,r9,r10,r11⟩
  exact⟨m',r11,x4,ws,S',e,r1,r2,r3,r4,r5,r6,r7,r8,r9,r10⟩
 with_reducible refine s_seq ?_
 walk_at "ev"
 with_reducible refine s_bm0 ?_
 walk_at "ev";refine⟨ty_list hw3,q_pop hw3 ?_⟩;walk_at "ev";have sW:Same H (upd H3 w (.lst (IL r))):=fun b o e=>by rw[upd_ne (ne_of_none e hw0)];exact s3 b o e
 have hdW:(upd H3 w (.lst (IL r))) d=some (.dK (KS S)):=by rw[upd_ne ndw];exact hd3
 have hwW:(upd H3 w (.lst (IL r))) w=some (.lst (IL r)):=upd_same;obtain⟨H4,hH4⟩:∃H4,H4=upd H3 w (.lst (IL r)):=⟨_,rfl⟩;rw[<-hH4]at sW hdW hwW ⊢;rw[List.length_append,List.length_singleton]at c3 ⊢
 with_reducible refine s_dnotin ?_
 walk_at "ev";obtain⟨o,g1,g2⟩:=dget_in hdW p;refine⟨d,o,rfl,g1,?_⟩;rw[g2];walk_at "ev";by_cases hps:p∈S
 ·refine iteF' (by rw[decide_eq_true hps];rfl) ?_
  walk_at "ev";refine⟨_,_,r,S,rfl,hwW,hdW,sW,nd,hS,fun x hx=>hws x (List.mem_append_left _ hx),fun x hx=>?_,fun a ha l hl' t ht=>?_,by omega,rfl,by omega⟩
  ·rcases c1 x hx with z | z
   ·exact .inl z
   ·rcases List.mem_append.mp z with q | q
    ·exact .inr q
    ·exact .inl (List.mem_singleton.mp q ▸ hps)
  ·rcases c2 a ha l hl' t ht with z | z
   ·exact .inl z
   ·rcases List.mem_append.mp z with q | q
    ·exact .inr q
    ·exact .inl (List.mem_singleton.mp q ▸ hps)
 refine iteT' (by rw[decide_eq_false hps];rfl) ?_;obtain⟨xs,y,f1,f2,f3,_⟩:=(hm.same sW).at (at_len hp);obtain⟨l,hle⟩:∃l,l=M[p]:=⟨_,rfl⟩;have hlp:M[p]? = some l:=by rw[hle];exact at_len hp
 rw[<-hle]at f3;obtain⟨b1,b2⟩:=hl l (List.mem_of_getElem? hlp);have hput:put1 S p=S++[p]:=by unfold put1;rw[if_neg hps]
 have hS1:S.length<M.length:=by
  have:=nd_le _ _ (nd_put1 (k:=p) nd) fun x hx=>(mem_put1.mp hx).elim (hS x) fun z=>z ▸ hp
  rw[hput,List.length_append,List.length_singleton]at this;omega
 with_reducible refine s_seq ?_
 with_reducible refine s_dput ?_
 walk_at "ev";refine⟨d,_,rfl,dput_in hdW (by omega) p,?_⟩;rw[hput];obtain⟨H5,hH5⟩:∃H5,H5=upd H4 d (.dK (KS (S++[p]))):=⟨_,rfl⟩;have hd5:H5 d=some (.dK (KS (S++[p]))):=hH5 ▸ upd_same;have oth:∀b o,H4 b=some o->b≠d->H5 b=some o:=fun b o e n=>by rw[hH5,upd_ne n];exact e
 have s5:Same H H5:=fun b o e=>oth b o (sW b o e) (ne_of_none e hd)
 rw[<-hH5];have hw5:=oth w _ hwW (Ne.symm ndw);have fx5:=oth _ _ f1 (ne_of f1 hdW (by intro z;cases z));have fy5:=oth _ _ f3 (ne_of f3 hdW (by intro z;cases z));walk_at "ev"
 with_reducible refine s_bm ?_
 walk_at "ev";refine⟨ty_list hw5,?_⟩;walk_at "ev";refine q_ixL fx5 f2 ?_;have hSB:S.length * B<=400 * 800:=Nat.mul_le_mul (by omega) hB;walk_at "ev";refine q_extend hw5 fy5 (big (by rw[IL_len,IL_len];omega)) ?_;have e6:IL r++IL l=IL (r++l):=by simp[IL]
 rw[e6];walk_at "ev"
 have key:(M.length - (S.length+1)) * (B+1)+(B+1)=(M.length - S.length) * (B+1):=by
  rw[<-Nat.succ_mul];congr 1;omega
 refine⟨_,_,r++l,S++[p],rfl,upd_same,by rw[upd_ne ndw];exact hd5,fun b o e=>by rw[upd_ne (ne_of_none e hw0)];exact s5 b o e,hput ▸ nd_put1 nd,fun x hx=>?_,fun x hx=>?_,fun x hx=>?_,fun a ha l' hl' t ht=>?_,?_,rfl,?_⟩
 ·rcases List.mem_append.mp hx with q | q
  ·exact hS x q
  ·rw[List.mem_singleton.mp q];exact hp
 ·rcases List.mem_append.mp hx with q | q
  ·exact hws x (List.mem_append_left _ q)
  ·exact b2 x q
 ·rcases c1 x hx with z | z
  ·exact .inl (List.mem_append_left _ z)
  ·rcases List.mem_append.mp z with q | q
   ·exact .inr (List.mem_append_left _ q)
   ·exact .inl (List.mem_append_right _ q)
 ·rcases List.mem_append.mp ha with q | q
  ·rcases c2 a q l' hl' t ht with z | z
   ·exact .inl (List.mem_append_left _ z)
   ·rcases List.mem_append.mp z with u | u
    ·exact .inr (List.mem_append_left _ u)
    ·exact .inl (List.mem_append_right _ u)
  ·rw[List.mem_singleton.mp q,hlp]at hl'
   cases hl';exact .inr (List.mem_append_right _ ht)
 ·rw[List.length_append,List.length_append,List.length_singleton,Nat.succ_mul]
  omega
 ·rw[List.length_append,List.length_append,List.length_singleton]
  omega
theorem check_ways_ok{K:PySem.W.Frag}{H:Hp}{na:Addr}{N:List (List Nat)}{Q:VK}{E:XK}(hn:NetAt H na N)(hv:Valid N)(k:∀H',Same H H'->Q .non H'):sp_check_ways K [.ref na] H Q E:=by
 refine⟨rfl,?_⟩;unfold t_check_ways
 with_reducible refine s_seq ?_
 walk_at "ev";refine new_i (by simp) fun p1 H1 hp1 e1 s1=>?_
 walk_at "ev";refine reached_ok (bs:=[0]) (B:=2) e1 (hn.same s1) hv.le (by decide) (fun l hl=>⟨hv.two l hl,hv.lt l hl⟩) (by simpa using hv.pos) (by simp) fun d1 S1 H2 hd1 nd1 hS1 hb1 cl1 s2=>?_
 walk_at "ev"
 have in1:∀x,Rc N x->x∈S1:=by
  intro x h;induction h with
  | zero=>exact hb1 0 (by simp)
  | @step a t l _ hl ht ih=>exact cl1 a ih l hl t ht
 with_reducible refine s_seq ?_
 walk_at "ev";refine stops_of_ok ((hn.same s1).same s2) hv.le fun sa H3 _ e3 s3=>?_
 walk_at "ev";refine turned_ok (((hn.same s1).same s2).same s3) hv.le hv.two hv.lt fun ta M H4 m4 lM hM1 hM2 s4=>?_
 walk_at "ev"
 have lst:(stopsF N).length<=N.length:=by
  have:=List.length_filter_le (isStop N) (List.range N.length)
  rwa [List.length_range]at this
 have hle:=hv.le
 refine reached_ok (bs:=stopsF N) (B:=2 * N.length) (s4 _ _ e3) m4 (by omega) (by omega) (fun l hl=>⟨(hM2 l hl).1,by rw[lM];exact(hM2 l hl).2⟩) (fun x hx=>by
  rw[lM];exact List.mem_range.mp (List.mem_filter.mp hx).1) (by omega) fun d2 S2 H5 hd2 nd2 hS2 hb2 cl2 s5=>?_
 have in2:∀x,Gd N x->x∈S2:=by
  intro x h;induction h with
  | @stop a h=>exact hb2 a (mem_stops h)
  | @step a t l h ht _ ih=>
   obtain⟨l',q1,q2⟩:=hM1 a l h t ht;exact cl2 t ih l' q1 a q2
 have s05:=(((s1.trans s2).trans s3).trans s4).trans s5;have hd1':H5 d1=_:=s5 _ _ (s4 _ _ (s3 _ _ hd1));obtain⟨ys,hy,ly⟩:=(hn.same s05).len;walk_at "ev"
 with_reducible refine s_for (s_rng1 ?_)
 walk_at "ev";refine q_lenL hy ?_;refine⟨N.length,by rw[ly],by omega,by omega,?_⟩;rw[Int.toNat_natCast];refine for_range (fun i σ H6=>∃x3,σ=[some (.ref na),some (.ref d1),some (.ref d2),x3]/\H6=H5) ⟨_,rfl,rfl⟩ ?_ ?_
 ·rintro i _ H6 hi ⟨x3,rfl,rfl⟩
  walk_at "ev";rw[Int.zero_add]
  with_reducible refine s_dnotin ?_
  walk_at "ev";obtain⟨o,g1,g2⟩:=dget_in hd1' i;refine⟨d1,o,rfl,g1,?_⟩;rw[g2,decide_eq_true (in1 i (hv.rc i hi))];walk_at "ev";refine iteF' rfl ?_;walk_at "ev"
  with_reducible refine s_dnotin ?_
  walk_at "ev";obtain⟨o',g1',g2'⟩:=dget_in hd2 i;refine⟨d2,o',rfl,g1',?_⟩;rw[g2',decide_eq_true (in2 i (hv.gd i hi))];walk_at "ev";refine iteF' rfl ?_;walk_at "ev";exact⟨_,rfl,rfl⟩
 ·rintro _ H6 ⟨x3,rfl,rfl⟩
  exact k _ s05
end RD
namespace RD
open PySem PySem.Spec L2
abbrev Stp:=Int×Int
def FST:Stp:=(-1,0)
def stepsOn(N:List (List Nat))(p:Nat):List Stp:=(List.range (N.getD p []).length).map fun(a:Nat)=>((p:Int),(a:Int))
def stepsU(N:List (List Nat))(i:Nat):List Stp:=FST::(List.range i).flatMap (stepsOn N)
def stepsF(N:List (List Nat)):List Stp:=stepsU N N.length
def leadF(N:List (List Nat))(s:Stp):Nat:=if s=FST then 0 else (N.getD s.1.toNat []).getD s.2.toNat 0
theorem stepsU_succ(N:List (List Nat))(i:Nat):stepsU N (i+1)=stepsU N i++stepsOn N i:=by
 unfold stepsU;rw[List.range_succ,List.flatMap_append];simp
def IsStep(N:List (List Nat))(s:Stp):Prop:=s=FST\/∃(p q:Nat) (l:List Nat) (t:Nat),s=((p:Int),(q:Int))/\N[p]? = some l/\l[q]? = some t
theorem isStep_of{N:List (List Nat)}{s:Stp}(h:s∈stepsF N):IsStep N s:=by
 rcases List.mem_cons.mp h with z | z
 ·exact .inl z
 ·obtain⟨p,hp,q⟩:=List.mem_flatMap.mp z
  have hp:=List.mem_range.mp hp;obtain⟨a,ha,rfl⟩:=List.mem_map.mp q;have ha:=List.mem_range.mp ha;have e:N.getD p []=N[p]:=by simp[List.getD,hp]
  rw[e]at ha;exact .inr ⟨p,a,N[p],N[p][a],rfl,at_len hp,by simp⟩
theorem lead_lt{N:List (List Nat)}{s:Stp}(hv:Valid N)(h:IsStep N s):leadF N s<N.length:=by
 unfold leadF;rcases h with rfl | ⟨p,q,l,t,rfl,h1,h2⟩
 ·rw[if_pos rfl];exact hv.pos
 ·split
  ·exact hv.pos
  ·have:(N.getD ((p:Int),(q:Int)).1.toNat []).getD ((p:Int),(q:Int)).2.toNat 0=t:=by
    show(N.getD (p:Int).toNat []).getD (q:Int).toNat 0=t;rw[Int.toNat_natCast,Int.toNat_natCast];simp[List.getD,h1,h2]
   rw[this];exact hv.lt l (List.mem_of_getElem? h1) t (List.mem_of_getElem? h2)
def StepT(K:PySem.W.Frag)(H:Hp)(a:Addr)(s:Stp):Prop:=H a=some (.tup [.int s.1,.int s.2])\/(s=FST/\∀H,SqT K H a [.int (-1),.int 0])
theorem StepT.ts{K:PySem.W.Frag}{H H':Hp}{a:Addr}{s:Stp}(h:StepT K H a s)(t:TSame H H'):StepT K H' a s:=by
 rcases h with h | h
 ·exact .inl (t _ _ h)
 ·exact .inr h
theorem StepT.sq{K:PySem.W.Frag}{H:Hp}{a:Addr}{s:Stp}(h:StepT K H a s):SqT K H a [.int s.1,.int s.2]:=by
 rcases h with h | ⟨e,h⟩
 ·exact SqT.of h
 ·subst e;exact h H
structure StepsAt(K:PySem.W.Frag)(H:Hp)(l:Addr)(S:List Stp):Prop where
 ex:∃vs:List Addr,H l=some (.lst (vs.map V.ref))/\vs.length=S.length/\∀(i:Nat) x s,vs[i]? = some x->S[i]? = some s->StepT K H x s
theorem StepsAt.same{K:PySem.W.Frag}{H H':Hp}{l:Addr}{S:List Stp}(h:StepsAt K H l S)(s:Same H H'):StepsAt K H' l S:=by
 obtain⟨vs,h1,h2,h3⟩:=h.ex;exact⟨vs,s _ _ h1,h2,fun i x t e1 e2=>(h3 i x t e1 e2).ts (Same.ts s)⟩
theorem StepsAt.kept{K:PySem.W.Frag}{H H':Hp}{b c l:Addr}{S:List Stp}(h:StepsAt K H l S)(hB:Bag H b c)(k:Kept b H H'):StepsAt K H' l S:=by
 obtain⟨vs,h1,h2,h3⟩:=h.ex;exact⟨vs,k.1 _ _ h1 (refs_ne hB h1),h2,fun i x t e1 e2=>(h3 i x t e1 e2).ts (Kept.ts k hB)⟩
theorem StepsAt.put{K:PySem.W.Frag}{H:Hp}{l y:Addr}{S:List Stp}{xs ys:List V}(h:StepsAt K H l S)(hy:H y=some (.lst xs))(n:l≠y):StepsAt K (upd H y (.lst ys)) l S:=by
 obtain⟨vs,h1,h2,h3⟩:=h.ex;exact⟨vs,by rw[upd_ne n];exact h1,h2,fun i x t e1 e2=>(h3 i x t e1 e2).ts (TSame.put hy)⟩
theorem steps_of_ok{K:PySem.W.Frag}{c:Cn}{H:Hp}{na:Addr}{N:List (List Nat)}{Q:VK}{E:XK}(ck:CnOk K c)(hn:NetAt H na N)(h400:N.length<=400)(h2:∀l∈N,l.length<=2)
  (k:∀a H',H a=none->StepsAt K H' a (stepsF N)->Same H H'->Q (.ref a) H'):sp_steps_of K c [.ref na] H Q E:=by
 obtain⟨ns,a1,a2,a3⟩:=id hn.ex;refine⟨rfl,?_⟩;unfold t_steps_of
 with_reducible refine s_seq ?_
 walk_at "ev";refine new_i (by simp) fun D H1 hD e1 s1=>?_
 walk_at "ev"
 with_reducible refine s_seq ?_
 with_reducible refine s_for (s_ienum ?_)
 walk_at "ev";refine⟨na,rfl,⟨_,SqL.of (s1 _ _ a1)⟩,?_⟩;refine for_i N.length (fun i σ H2=>∃x2 x3 vs,σ=[some (.ref na),some (.ref D),x2,x3]/\H2 D=some (.lst ((vs:List Addr).map V.ref))/\vs.length=(stepsU N i).length/\vs.length<=1+2 * i/\(∀(j:Nat) x s,vs[j]? = some x->(stepsU N i)[j]? = some s->StepT K H2 x s)/\Same H H2) ?_ ?_ ?_ ?_
 ·refine⟨_,_,[c.k_FIRST_STEP],rfl,e1,rfl,by simp,fun j x s f1 f2=>?_,s1⟩
  cases j with
  | zero=>
   cases f1;cases f2;exact .inr ⟨rfl,ck.t_FIRST_STEP⟩
  | succ j=>simp at f1
 ·rintro _ H2 ⟨x2,x3,vs,rfl,hD2,lv,_,at2,s2⟩
  refine⟨⟨_,SqL.of (s2 _ _ a1),by rw[List.length_map,a2];exact Nat.le_refl _⟩,?_⟩;walk_at "ev";exact k D H2 hD ⟨vs,hD2,lv,at2⟩ s2
 ·rintro i _ H2 hi ⟨x2,x3,vs,rfl,hD2,lv,_,at2,s2⟩
  exact⟨_,_,SqL.of (s2 _ _ a1),by rw[List.getElem?_map,List.getElem?_eq_getElem (show i<ns.length by omega)];rfl⟩
 ·rintro i _ H2 hi ⟨x2,x3,vs,rfl,hD2,lv,lv2,at2,s2⟩ x H3 ⟨p,y,hp,rfl,rfl,gy⟩
  obtain⟨nx,f1⟩:∃nx,ns[i]? = some nx:=⟨_,List.getElem?_eq_getElem (by omega)⟩;have gy:=gy _ (SqL.of (s2 _ _ a1));rw[List.getElem?_map,f1]at gy;cases gy;refine s_gpair (SqT.of upd_same) ?_;have s3:Same H2 (upd H2 p (.tup [V.int (i:Int),V.ref nx])):=same_new hp;obtain⟨H3,hH3⟩:∃H3,H3=upd H2 p (.tup [V.int (i:Int),V.ref nx]):=⟨_,rfl⟩;rw[<-hH3]at s3 ⊢;have s03:=s2.trans s3;have hl:=at_len hi;obtain⟨l,hle⟩:∃l,l=N[i]:=⟨_,rfl⟩;rw[<-hle]at hl;have hll:=h2 l (List.mem_of_getElem? hl);have hx:=s03 _ _ (a3 i nx l f1 hl);walk_at "ev"
  with_reducible refine s_bm ?_
  walk_at "ev";refine⟨ty_list (s3 _ _ hD2),?_⟩;walk_at "ev"
  with_reducible refine s_comp (s_rng1 ?_)
  walk_at "ev";refine q_lenL hx ?_;rw[IL_len];refine⟨l.length,rfl,by omega,by omega,fun A hA=>?_⟩;rw[Int.toNat_natCast];refine comp_rng (fun j ys H4=>∃ws:List Addr,ys=ws.map V.ref/\ws.length=j/\(∀(q:Nat) x,ws[q]? = some x->H4 x=some (.tup [.int (i:Int),.int (q:Int)]))/\H4 A=some (.lst ys)/\Same H3 H4) ?_ ?_ ?_ ?_
  ·exact⟨[],rfl,rfl,by simp,upd_same,same_new hA⟩
  ·rintro j ys H4 ⟨_,_,_,_,h,_⟩
   exact h
  ·rintro j ys H4 hj ⟨ws,rfl,lw,at4,hA4,s4⟩ R hR
   walk_at "ev";refine new_i (by simp) fun z H5 hz e5 s5=>?_
   rw[Int.zero_add]at e5;have nzA:z≠A:=(ne_of_none hA4 hz).symm;refine hR _ _ (s5 _ _ hA4) (smallT (by rw[List.length_map];omega)) ⟨ws++[z],by simp,by simp[lw],fun q x hq=>?_,upd_same,fun b o e=>?_⟩
   ·rcases snocAt hq with ⟨_,g⟩ | ⟨hq',g⟩
    ·have:=s5 _ _ (at4 q x g)
     rw[upd_ne (ne_of this (s5 _ _ hA4) (by intro z;cases z))];exact this
    ·subst g
     rw[upd_ne nzA,e5,hq',lw]
   ·rw[upd_ne (ne_of_none e hA)];exact s5 _ _ (s4 _ _ e)
  ·rintro ys H4 ⟨ws,rfl,lw,at4,hA4,s4⟩
   walk_at "ev";have hD4:H4 D=_:=s4 _ _ (s3 _ _ hD2);have s04:=s03.trans s4;refine q_extend hD4 hA4 (big (by rw[List.length_map,List.length_map];omega)) ?_;rw[<-List.map_append]
   have hon:stepsOn N i=(List.range l.length).map fun(a:Nat)=>((i:Int),(a:Int)):=by
    unfold stepsOn;simp[List.getD,hl]
   have hU:=stepsU_succ N i;have lon:(stepsOn N i).length=l.length:=by rw[hon];simp
   refine⟨_,_,vs++ws,rfl,upd_same,by rw[hU,List.length_append,List.length_append,lv,lw,lon],by rw[List.length_append];omega,fun j x s g1 g2=>?_,fun b o e=>?_⟩
   ·rw[hU]at g2
    by_cases hj:j<vs.length
    ·rw[List.getElem?_append_left hj]at g1
     rw[List.getElem?_append_left (by omega)]at g2;exact((at2 j x s g1 g2).ts (Same.ts (s3.trans s4))).ts (TSame.put hD4)
    ·rw[List.getElem?_append_right (by omega)]at g1
     rw[List.getElem?_append_right (by omega),<-lv,hon,List.getElem?_map]at g2
     have hq:j - vs.length<l.length:=by
      have:=(List.getElem?_eq_some_iff.mp g1).1;omega
     rw[List.getElem?_range hq]at g2;cases g2;have:=at4 _ _ g1;exact .inl (by rw[upd_ne (ne_of this hD4 (by intro z;cases z))];exact this)
   ·rw[upd_ne (ne_of_none e hD)];exact s04 _ _ e
def PlanX(c:Cn)(H:Hp)(x:Addr)(N:List (List Nat)):Prop:=∃dx fs n,H x=some (.ins c.C_Plan dx fs)/\fs.lookup ("nexts" : Str)=some (V.ref n)/\NetAt H n N
theorem eq2(p q:Int):flatEq [.int p,.int q] [.int (-1),.int 0]=decide ((p,q)=FST):=by
 unfold flatEq;simp only[List.length_cons,List.length_nil,Nat.zero_add,Nat.reduceAdd,Nat.min_self];rw[show List.range 2=[0,1] from rfl];simp only[List.all_cons,List.all_nil,Bool.and_true,List.getD,List.getElem?_cons_zero,List.getElem?_cons_succ,Option.getD_some,beq_self_eq_true];unfold FST;by_cases h:p = -1
 ·by_cases h':q=0
  ·subst h h';decide
  ·subst h
   simp[eqV,h']
 ·simp[eqV,h]
theorem leads_to_ok{K:PySem.W.Frag}{c:Cn}{H:Hp}{x a:Addr}{N:List (List Nat)}{s:Stp}{Q:VK}{E:XK}(ck:CnOk K c)(hp:PlanX c H x N)(ha:StepT K H a s)(hs:IsStep N s)(k:Q (.int (leadF N s:Nat)) H):sp_Plan_leads_to K c [.ref x,.ref a] H Q E:=by
 refine⟨rfl,?_⟩;unfold t_Plan_leads_to
 with_reducible refine s_seq ?_
 walk_at "ev";refine⟨_,_,_,_,rfl,rfl,ha.sq,ck.t_FIRST_STEP H,rfl,rfl,?_⟩;rw[eq2];walk_at "ev";by_cases e:s=FST
 ·refine iteT' (decide_eq_true e) ?_
  walk_at "ev";unfold leadF at k;rw[if_pos e]at k;exact k
 ·refine iteF' (decide_eq_false e) ?_
  walk_at "ev";rcases hs with z | ⟨p,q,l,t,rfl,h1,h2⟩
  ·exact(e z).elim
  rcases ha with ha | ⟨z,_⟩
  rotate_left
  ·exact(e z).elim
  obtain⟨dx,fs,n,hx,hf,hn⟩:=hp
  with_reducible refine s_fld ?_
  walk_at "ev";refine⟨x,_,dx,fs,_,rfl,hx,ck.cls_Plan,ck.na_Plan_nexts,hf,?_⟩;walk_at "ev";refine q_ixT ha (atI0 _ _) ?_;obtain⟨xs,y,f1,f2,f3,_⟩:=hn.at h1;refine q_ixL f1 f2 ?_;walk_at "ev";refine q_ixT ha (atI1 _ _ _) ?_;refine q_ixL f3 (IL_at h2) ?_
  have:leadF N ((p:Int),(q:Int))=t:=by
   unfold leadF;rw[if_neg e];show(N.getD (p:Int).toNat []).getD (q:Int).toNat 0=t;rw[Int.toNat_natCast,Int.toNat_natCast];simp[List.getD,h1,h2]
  rw[this]at k;exact k
end RD
namespace RD
open PySem PySem.Spec L2
structure EntI(K:PySem.W.Frag)(H0 H:Hp)(e:Addr)(es:List Addr)(P:List (List Stp)):Prop where
 same:Same H0 H
 h:H e=some (.lst (es.map V.ref))
 len:es.length=P.length
 nd:es.Nodup
 na:e∉es
 at_:∀(i:Nat) y S,es[i]? = some y->P[i]? = some S->StepsAt K H y S
 new:H0 e=none/\∀y∈es,H0 y=none
theorem EntI.add{K:PySem.W.Frag}{H0 H:Hp}{e:Addr}{es:List Addr}{P:List (List Stp)}(h:EntI K H0 H e es P){t:Nat}{y a:Addr}{S:List Stp}{s:Stp}{vs:List Addr}(e1:es[t]? = some y)(e2:P[t]? = some S)(hy:H y=some (.lst (vs.map V.ref)))
  (lv:vs.length=S.length) (at2:∀(i:Nat) x s,vs[i]? = some x->S[i]? = some s->StepT K H x s) (ha:StepT K H a s):EntI K H0 (upd H y (.lst ((vs++[a]).map V.ref))) e es (P.set t (S++[s])):=by
 have hm:=List.mem_of_getElem? e1;have ye:y≠e:=fun z=>h.na (z ▸ hm)
 refine⟨fun b o q=>by rw[upd_ne (ne_of_none q (h.new.2 y hm))];exact h.same b o q,by rw[upd_ne ye.symm];exact h.h,by rw[List.length_set];exact h.len,h.nd,h.na,fun i z S' f1 f2=>?_,h.new⟩;by_cases q:i=t
 ·subst q
  rw[e1]at f1;cases f1;rw[List.getElem?_set_self (List.getElem?_eq_some_iff.mp e2).1]at f2;cases f2;refine⟨vs++[a],upd_same,by simp[lv],fun j x s' g1 g2=>?_⟩;rcases snocAt g1 with ⟨_,k1⟩ | ⟨j1,k1⟩
  ·rcases snocAt g2 with ⟨_,k2⟩ | ⟨j2,k2⟩
   ·exact(at2 j x s' k1 k2).ts (TSame.put hy)
   ·omega
  ·rcases snocAt g2 with ⟨_,k2⟩ | ⟨j2,k2⟩
   ·omega
   ·subst k1 k2
    exact ha.ts (TSame.put hy)
 ·rw[List.getElem?_set_ne (Ne.symm q)]at f2
  have:z≠y:=by
   rintro rfl;exact q (nd_ix h.nd f1 e1)
  exact(h.at_ i z S' f1 f2).put hy this
structure PlanAt(K:PySem.W.Frag)(c:Cn)(H:Hp)(x:Addr)(N:List (List Nat)):Prop where
 ex:∃dx r n e es,H x=some (.ins c.C_Plan dx [("rows", .ref r),("nexts", .ref n),("entries", .ref e)])/\RowsAt H r N/\NetAt H n N/\H e=some (.lst ((es:List Addr).map V.ref))/\es.length=N.length /\
  ∀(t:Nat) y,es[t]? = some y->StepsAt K H y ((stepsF N).filter fun s=>decide (leadF N s=t))
structure PlanZ(K:PySem.W.Frag)(c:Cn)(Z:Addr->Prop)(rs:List Addr)(H:Hp)(x:Addr)(N:List (List Nat)):Prop where
 ex:∃dx r n e es ns,H x=some (.ins c.C_Plan dx [("rows", .ref r),("nexts", .ref n),("entries", .ref e)])/\(RowsAt H r N/\H r=some (.lst (rs.map V.ref)))/\H n=some (.lst ((ns:List Addr).map V.ref))/\ns.length=N.length/\(∀(i:Nat) y l,ns[i]? = some y->N[i]? = some l->H y=some (.lst (IL l))) /\
  H e=some (.lst ((es:List Addr).map V.ref))/\es.length=N.length/\(∀(t:Nat) y,es[t]? = some y->StepsAt K H y ((stepsF N).filter fun s=>decide (leadF N s=t)))/\∀z,Z z->z≠r/\z≠n/\z≠e/\z∉ns/\z∉es
theorem PlanZ.at{K:PySem.W.Frag}{c:Cn}{Z:Addr->Prop}{rs:List Addr}{H:Hp}{x:Addr}{N:List (List Nat)}(h:PlanZ K c Z rs H x N):PlanAt K c H x N:=by
 obtain⟨dx,r,n,e,es,ns,h1,⟨h2,h2r⟩,h3,h4,h5,h6,h7,h8,_⟩:=h.ex;exact⟨dx,r,n,e,es,h1,h2,⟨ns,h3,h4,h5⟩,h6,h7,h8⟩
theorem PlanZ.put{K:PySem.W.Frag}{c:Cn}{Z:Addr->Prop}{rs:List Addr}{H:Hp}{x z:Addr}{N:List (List Nat)}{xs ys:List V}(h:PlanZ K c Z rs H x N)(hz:Z z)(hl:H z=some (.lst xs)):PlanZ K c Z rs (upd H z (.lst ys)) x N:=by
 obtain⟨dx,r,n,e,es,ns,h1,⟨h2,h2r⟩,h3,h4,h5,h6,h7,h8,h9⟩:=h.ex;obtain⟨z1,z2,z3,z4,z5⟩:=h9 z hz;refine⟨dx,r,n,e,es,ns,by rw[upd_ne (ne_of h1 hl (by intro z;cases z))];exact h1,⟨?_,by rw[upd_ne z1.symm];exact h2r⟩,by rw[upd_ne z2.symm];exact h3,h4,fun i y l a b=>?_,by rw[upd_ne z3.symm];exact h6,h7,fun t y q=>(h8 t y q).put hl fun u=>z5 (u ▸ List.mem_of_getElem? q),h9⟩
 ·obtain⟨rs',r1,r2,r3⟩:=h2.ex
  exact⟨rs',by rw[upd_ne z1.symm];exact r1,r2,fun i y l a b=>(r3 i y l a b).ts (TSame.put hl)⟩
 ·rw[upd_ne (show y≠z from fun u=>z4 (u ▸ List.mem_of_getElem? a))]
  exact h5 i y l a b
theorem PlanZ.same{K:PySem.W.Frag}{c:Cn}{Z:Addr->Prop}{rs:List Addr}{H H':Hp}{x:Addr}{N:List (List Nat)}(h:PlanZ K c Z rs H x N)(s:Same H H'):PlanZ K c Z rs H' x N:=by
 obtain⟨dx,r,n,e,es,ns,h1,⟨h2,h2r⟩,h3,h4,h5,h6,h7,h8,h9⟩:=h.ex;exact⟨dx,r,n,e,es,ns,s _ _ h1,⟨h2.same s,s _ _ h2r⟩,s _ _ h3,h4,fun i y l a b=>s _ _ (h5 i y l a b),s _ _ h6,h7,fun t y q=>(h8 t y q).same s,h9⟩
theorem PlanZ.kept{K:PySem.W.Frag}{c:Cn}{Z:Addr->Prop}{rs:List Addr}{H H':Hp}{b d x:Addr}{N:List (List Nat)}(h:PlanZ K c Z rs H x N)(hB:Bag H b d)(h2':∀l∈N,l.length<=2)(k:Kept b H H'):PlanZ K c Z rs H' x N:=by
 obtain⟨dx,r,n,e,es,ns,h1,⟨h2,h2r⟩,h3,h4,h5,h6,h7,h8,h9⟩:=h.ex;obtain⟨bs,hb⟩:=hB.lst;refine⟨dx,r,n,e,es,ns,k.1 _ _ h1 (ne_of h1 hb (by intro z;cases z)),⟨h2.kept hB k,k.1 _ _ h2r (refs_ne hB h2r)⟩,k.1 _ _ h3 (refs_ne hB h3),h4,fun i y l a b=>?_,k.1 _ _ h6 (refs_ne hB h6),h7,fun t y q=>(h8 t y q).kept hB k,h9⟩;have q:=h5 i y l a b;exact k.1 _ _ q (short_ne hB q (by rw[IL_len];have:=h2' l (List.mem_of_getElem? b);omega))
theorem PlanAt.same{K:PySem.W.Frag}{c:Cn}{H H':Hp}{x:Addr}{N:List (List Nat)}(h:PlanAt K c H x N)(s:Same H H'):PlanAt K c H' x N:=by
 obtain⟨dx,r,n,e,es,h1,h2,h3,h4,h5,h6⟩:=h.ex;exact⟨dx,r,n,e,es,s _ _ h1,h2.same s,h3.same s,s _ _ h4,h5,fun t y q=>(h6 t y q).same s⟩
theorem PlanAt.x{K:PySem.W.Frag}{c:Cn}{H:Hp}{x:Addr}{N:List (List Nat)}(h:PlanAt K c H x N):PlanX c H x N:=by
 obtain⟨dx,r,n,e,es,h1,h2,h3,_⟩:=h.ex;exact⟨dx,_,n,h1,rfl,h3⟩
theorem NetAt.ins{H:Hp}{a x C dx:Addr}{N:List (List Nat)}{fs:List (Str×V)}{o:HO}(h:NetAt H a N)(hx:H x=some (.ins C dx fs)):NetAt (upd H x o) a N:=by
 obtain⟨as,q1,q2,q3⟩:=h.ex
 exact⟨as,by rw[upd_ne (ne_of q1 hx (by intro z;cases z))];exact q1,q2,fun j y l e1 e2=>by
  have q:=q3 j y l e1 e2;rw[upd_ne (ne_of q hx (by intro z;cases z))];exact q⟩
theorem TSame.ins{H:Hp}{x C dx:Addr}{fs:List (Str×V)}{o:HO}(hx:H x=some (.ins C dx fs)):TSame H (upd H x o):=fun a xs e=>by
 rw[upd_ne (ne_of e hx (by intro z;cases z))];exact e
theorem RowsAt.ins{H:Hp}{a x C dx:Addr}{N:List (List Nat)}{fs:List (Str×V)}{o:HO}(h:RowsAt H a N)(hx:H x=some (.ins C dx fs)):RowsAt (upd H x o) a N:=by
 obtain⟨as,q1,q2,q3⟩:=h.ex;exact⟨as,by rw[upd_ne (ne_of q1 hx (by intro z;cases z))];exact q1,q2,fun j y l e1 e2=>(q3 j y l e1 e2).ts (TSame.ins hx)⟩
theorem steps_len{N:List (List Nat)}(h:∀l∈N,l.length<=2):(stepsF N).length<=1+2 * N.length:=by
 have go:∀i,i<=N.length->(stepsU N i).length<=1+2 * i:=by
  intro i;induction i with
  | zero=>intro _;show 1<=1;exact Nat.le_refl _
  | succ i ih=>
   intro hi;rw[stepsU_succ,List.length_append];have:=ih (by omega)
   have h2:(stepsOn N i).length<=2:=by
    unfold stepsOn;rw[List.length_map,List.length_range];have e:N.getD i []=N[i]:=by simp[List.getD,show i<N.length by omega]
    rw[e];exact h _ (List.getElem_mem _)
   omega
 exact go _ (Nat.le_refl _)
theorem filter_set{S:List Stp}{f:Stp->Nat}{i t:Nat}{s:Stp}(h:S[i]? = some s):(S.take (i+1)).filter (fun s=>decide (f s=t))=(S.take i).filter (fun s=>decide (f s=t))++(if f s=t then [s] else []):=by
 rw[List.take_add_one,h,List.filter_append];congr 1;by_cases e:f s=t
 ·rw[if_pos e];simp[e]
 ·rw[if_neg e];simp[e]
theorem plan_init_ok{K:PySem.W.Frag}{c:Cn}{H:Hp}{x dx ra na:Addr}{N:List (List Nat)}{rs:List Addr}{Q:VK}{E:XK}(ck:CnOk K c)(hrs:H ra=some (.lst (rs.map V.ref)))(hr:RowsAt H ra N)(hn:NetAt H na N)(hv:Valid N)(hx:H x=some (.ins c.C_Plan dx []))
  (k:∀H',PlanZ K c (fun z=>∃o,H z=some o/\z≠x) rs H' x N->(∀b o,H b=some o->b≠x->H' b=some o)->Q .non H'):sp_Plan_init K c [.ref x,.ref ra,.ref na] H Q E:=by
 obtain⟨rs',r1,r2,r3⟩:=id hr.ex
 obtain rfl:rs'=rs:=by
  rw[hrs]at r1;exact(List.map_inj_right (f:=V.ref) (fun a b h=>V.ref.inj h) |>.mp (HO.lst.inj (Option.some.inj r1))).symm
 obtain⟨ns,n1,n2,n3⟩:=id hn.ex;have hpos:=hv.pos;have h400:=hv.le;refine⟨rfl,?_⟩;unfold t_Plan_init
 with_reducible refine s_seq ?_
 walk_at "ev";refine check_length_ok r1 (by rw[List.length_map];omega) (by rw[List.length_map];omega) ?_;walk_at "ev"
 with_reducible refine s_seq ?_
 walk_at "ev"
 with_reducible refine s_comp (s_ilst ?_)
 walk_at "ev";refine⟨ra,rfl,⟨_,SqL.of r1⟩,fun D hD=>?_⟩;refine comp_lst (xs:=rs'.map V.ref) (fun i ys H2=>ys=List.replicate i (V.bl true)/\H2 D=some (.lst ys)/\Same H H2) ⟨rfl,upd_same,same_new hD⟩ ?_ ?_ ?_ ?_
 ·rintro i ys H2 ⟨_,h,_⟩
  exact h
 ·rintro i ys H2 _ ⟨_,_,s2⟩
  exact SqL.of (s2 _ _ r1)
 ·rintro i y ys H2 hy ⟨rfl,hD2,s2⟩ R hR
  rw[List.getElem?_map]at hy;cases hrx:rs'[i]? with
  | none=>rw[hrx]at hy;cases hy
  | some rx=>
   rw[hrx]at hy;cases hy;have hi:i<N.length:=by rw[<-r2];exact(List.getElem?_eq_some_iff.mp hrx).1
   walk_at "ev";refine is_row_rw ck ((r3 i rx _ hrx (at_len hi)).ts (Same.ts s2)) fun H3 s3=>?_
   refine hR _ _ (s3 _ _ hD2) (smallT (by rw[List.length_replicate];omega)) ⟨tru_snoc i,upd_same,fun b o e=>?_⟩;rw[upd_ne (ne_of_none e hD)];exact s3 _ _ (s2 _ _ e)
 rintro ys H2 ⟨rfl,hD2,s2⟩;walk_at "ev";refine check_each_ok hD2 fun H3 s3=>?_
 have s03:=s2.trans s3;walk_at "ev"
 with_reducible refine s_seq ?_
 walk_at "ev";refine check_nexts_ok (hr.same s03) (hn.same s03) h400 hv.two hv.lt fun H4 s4=>?_
 have s04:=s03.trans s4;walk_at "ev"
 with_reducible refine s_seq ?_
 walk_at "ev";refine check_ways_ok (hn.same s04) hv fun H5 s5=>?_
 have s05:=s04.trans s5;walk_at "ev"
 with_reducible refine s_seq ?_
 with_reducible refine s_sfld ?_
 walk_at "ev";refine q_listL (s05 _ _ r1) fun rp H6 hrp e6 s6=>?_
 have s06:=s05.trans s6;walk_at "ev";refine⟨x,_,dx,[],rfl,s06 _ _ hx,ck.cls_Plan,ck.na_Plan_rows,by simp,?_⟩;obtain⟨H7,hH7⟩:∃H7,H7=upd H6 x (.ins c.C_Plan dx (putF "rows" (.ref rp) [])):=⟨_,rfl⟩;have x7:H7 x=some (.ins c.C_Plan dx [("rows", .ref rp)]):=hH7 ▸ upd_same;have f7:∀b o,H6 b=some o->b≠x->H7 b=some o:=fun b o e n=>by rw[hH7,upd_ne n];exact e
 have rows7:RowsAt H7 rp N:=by
  have q:RowsAt H6 rp N:=⟨rs',e6,r2,fun i y l a b=>(r3 i y l a b).ts (Same.ts s06)⟩;rw[hH7];exact q.ins (s06 _ _ hx)
 have net7:NetAt H7 na N:=by rw[hH7];exact(hn.same s06).ins (s06 _ _ hx)
 have ra7:H7 ra=some (.lst (rs'.map V.ref)):=f7 _ _ (s06 _ _ r1) (ne_of r1 hx (by intro z;cases z));rw[<-hH7];clear hH7
 with_reducible refine s_seq ?_
 with_reducible refine s_sfld ?_
 with_reducible refine s_comp (s_ilst ?_)
 obtain⟨ns',m1,m2,m3⟩:=id net7.ex;walk_at "ev";refine⟨na,rfl,⟨_,SqL.of m1⟩,fun np hnp=>?_⟩;refine comp_lst (xs:=ns'.map V.ref) (fun i ys H8=>∃as:List Addr,ys=as.map V.ref/\as.length=i/\(∀(j:Nat) y l,as[j]? = some y->N[j]? = some l->H8 y=some (.lst (IL l))/\y≠np)/\H8 np=some (.lst ys)/\Same H7 H8/\∀y∈as,H7 y=none) ?_ ?_ ?_ ?_ ?_
 ·exact⟨[],rfl,rfl,by simp,upd_same,same_new hnp,by simp⟩
 ·rintro i ys H8 ⟨_,_,_,_,h,_⟩
  exact h
 ·rintro i ys H8 _ ⟨_,_,_,_,_,s8,_⟩
  exact SqL.of (s8 _ _ m1)
 ·rintro i y ys H8 hy ⟨as,rfl,la,at8,hnp8,s8,fr8⟩ R hR
  rw[List.getElem?_map]at hy;cases hnx:ns'[i]? with
  | none=>rw[hnx]at hy;cases hy
  | some nx=>
   rw[hnx]at hy;cases hy;have hi:i<N.length:=by rw[<-m2];exact(List.getElem?_eq_some_iff.mp hnx).1
   walk_at "ev";refine q_listL (s8 _ _ (m3 i nx _ hnx (at_len hi))) fun q H9 hq e9 s9=>?_
   have nq:q≠np:=(ne_of_none hnp8 hq).symm;refine hR _ _ (s9 _ _ hnp8) (smallT (by rw[List.length_map];omega)) ⟨as++[q],by simp,by simp[la],fun j y l g1 g2=>?_,upd_same,fun b o e=>?_,fun y hy=>?_⟩
   ·rcases snocAt g1 with ⟨_,f1⟩ | ⟨hj,f1⟩
    ·obtain⟨f2,f3⟩:=at8 j y l f1 g2
     exact⟨by rw[upd_ne f3];exact s9 _ _ f2,f3⟩
    ·rw[hj,la,at_len hi]at g2
     cases g2;subst f1;exact⟨by rw[upd_ne nq];exact e9,nq⟩
   ·rw[upd_ne (ne_of_none e hnp)];exact s9 _ _ (s8 _ _ e)
   ·rcases List.mem_append.mp hy with z | z
    ·exact fr8 y z
    ·rw[List.mem_singleton.mp z];exact s8.free hq
 rintro ys H8 ⟨as,rfl,la,at8,hnp8,s8,fr8⟩;rw[List.length_map,m2]at la;have net8:NetAt H8 np N:=⟨as,hnp8,la,fun i y l a b=>(at8 i y l a b).1⟩;walk_at "ev";refine⟨x,_,dx,_,rfl,s8 _ _ x7,ck.cls_Plan,ck.na_Plan_nexts,by simp,?_⟩;obtain⟨H9,hH9⟩:∃H9,H9=upd H8 x (.ins c.C_Plan dx (putF "nexts" (.ref np) [("rows", .ref rp)])):=⟨_,rfl⟩
 have x9:H9 x=some (.ins c.C_Plan dx [("rows", .ref rp),("nexts", .ref np)]):=by
  rw[hH9,upd_same];simp only[putF];rw[if_neg (by decide)]
 have f9:∀b o,H8 b=some o->b≠x->H9 b=some o:=fun b o e n=>by rw[hH9,upd_ne n];exact e
 have rows9:RowsAt H9 rp N:=by rw[hH9];exact(rows7.same s8).ins (s8 _ _ x7)
 have net9:NetAt H9 np N:=by rw[hH9];exact net8.ins (s8 _ _ x7)
 have ra9:H9 ra=some (.lst (rs'.map V.ref)):=f9 _ _ (s8 _ _ ra7) (ne_of ra7 x7 (by intro z;cases z));rw[<-hH9];clear hH9
 with_reducible refine s_seq ?_
 with_reducible refine s_sfld ?_
 with_reducible refine s_comp (s_ilst ?_)
 walk_at "ev";refine⟨ra,rfl,⟨_,SqL.of ra9⟩,fun ep hep=>?_⟩;refine comp_lst (xs:=rs'.map V.ref) (fun i ys H10=>∃es,ys=es.map V.ref/\SrcI H9 H10 ep es (List.replicate i [])) ?_ ?_ ?_ ?_ ?_
 ·exact⟨[],rfl,.nil hep (same_new hep) upd_same⟩
 ·rintro i ys H10 ⟨es,rfl,I⟩
  exact I.h
 ·rintro i ys H10 _ ⟨es,rfl,I⟩
  exact SqL.of (I.same _ _ ra9)
 ·rintro i y ys H10 hy ⟨es,rfl,I⟩ R hR
  have hi:i<N.length:=by
   have:=(List.getElem?_eq_some_iff.mp hy).1;rw[List.length_map,r2]at this;exact this
  walk_at "ev";refine new_i (by simp) fun p H11 hp e11 s11=>?_
  have:=I.len;rw[List.length_replicate]at this;refine hR _ _ (s11 _ _ I.h) (smallT (by rw[List.length_map];omega)) ⟨es++[p],by simp,?_⟩;have q:=I.snoc hp e11 s11;rw[show List.replicate i ([]:List Nat)++[[]]=List.replicate (i+1) [] from by rw[List.replicate_succ']]at q;rw[show es.map V.ref++[V.ref p]=(es++[p]).map V.ref by simp];exact q
 rintro ys H10 ⟨es,rfl,I10⟩;rw[List.length_map,r2]at I10;walk_at "ev";have x10:=I10.same _ _ x9;refine⟨x,_,dx,_,rfl,x10,ck.cls_Plan,ck.na_Plan_entries,by simp,?_⟩;obtain⟨F,hF⟩:∃F:List (Str×V),F=([("rows", .ref rp),("nexts", .ref np),("entries", .ref ep)]:List (Str×V)):=⟨_,rfl⟩
 have hput:putF "entries" (.ref ep) [("rows", .ref rp),("nexts", .ref np)]=F:=by
  rw[hF];simp only[putF];rw[if_neg (by decide),if_neg (by decide)]
 rw[hput];obtain⟨H11,hH11⟩:∃H11,H11=upd H10 x (.ins c.C_Plan dx F):=⟨_,rfl⟩;obtain⟨H0,hH0⟩:∃H0,H0=upd H9 x (.ins c.C_Plan dx F):=⟨_,rfl⟩;have x0:H0 x=some (.ins c.C_Plan dx F):=hH0 ▸ upd_same;have f0:∀b o,H9 b=some o->b≠x->H0 b=some o:=fun b o e n=>by rw[hH0,upd_ne n];exact e
 have rows0:RowsAt H0 rp N:=by rw[hH0];exact rows9.ins x9
 have net0:NetAt H0 np N:=by rw[hH0];exact net9.ins x9
 have np0:H0 np=some (.lst (as.map V.ref)):=by
  have:=f9 _ _ hnp8 (ne_of hnp8 (s8 _ _ x7) (by intro z;cases z));exact f0 _ _ this (ne_of this x9 (by intro z;cases z))
 have rp0:H0 rp=some (.lst (rs'.map V.ref)):=by
  have q:=s8 _ _ (f7 _ _ e6 (ne_of e6 (s06 _ _ hx) (by intro z;cases z)));have q:=f9 _ _ q (ne_of q (s8 _ _ x7) (by intro z;cases z));exact f0 _ _ q (ne_of q x9 (by intro z;cases z))
 have at0:∀(i:Nat) y l,as[i]? = some y->N[i]? = some l->H0 y=some (.lst (IL l)):=fun i y l a b=>by
  have q:=(at8 i y l a b).1;have q:=f9 _ _ q (ne_of q (s8 _ _ x7) (by intro z;cases z));exact f0 _ _ q (ne_of q x9 (by intro z;cases z))
 have old9:∀b o,H b=some o->b≠x->H9 b=some o:=fun b o e n=>f9 _ _ (s8 _ _ (f7 _ _ (s06 _ _ e) n)) n
 have ent11:EntI K H0 H11 ep es (List.replicate N.length []):=by
  have nxe:x≠ep:=ne_of_none x9 hep;have nxes:∀y∈es,x≠y:=fun y hy=>ne_of_none x9 (I10.new.2 y hy)
  refine⟨fun b o e=>?_,by rw[hH11,upd_ne nxe.symm];exact I10.h,by rw[List.length_replicate];have:=I10.len;rwa [List.length_replicate]at this,I10.nd,I10.na,fun i y S a b=>?_,by rw[hH0,upd_ne nxe.symm];exact hep,fun y hy=>by rw[hH0,upd_ne (nxes y hy).symm];exact I10.new.2 y hy⟩
  ·rw[hH0]at e
   rw[hH11];by_cases q:b=x
   ·subst q
    rw[upd_same]at e ⊢;exact e
   ·rw[upd_ne q]at e ⊢
    exact I10.same _ _ e
  ·have hi:=(List.getElem?_eq_some_iff.mp b).1
   rw[List.length_replicate]at hi;have q:=I10.at_ i y [] a (by rw[List.getElem?_replicate,if_pos hi]);rw[List.getElem?_replicate,if_pos hi]at b;cases b;refine⟨[],?_,rfl,by simp⟩;rw[hH11,upd_ne (ne_of q x10 (by intro z;cases z))];exact q
 have old:∀b o,H b=some o->b≠x->H0 b=some o:=fun b o e n=>f0 _ _ (f9 _ _ (s8 _ _ (f7 _ _ (s06 _ _ e) n)) n) n
 rw[<-hH11];clear hH11 hH0 I10 x10 f0 f9 x9 ra9 net9 rows9
 with_reducible refine s_for (s_ilst ?_)
 walk_at "ev"
 with_reducible refine s_fld ?_
 walk_at "ev";refine⟨x,_,dx,F,.ref np,rfl,ent11.same _ _ x0,ck.cls_Plan,ck.na_Plan_nexts,by rw[hF];rfl,?_⟩;walk_at "ev";refine steps_of_ok ck (net0.same ent11.same) h400 hv.two fun sl H12 hsl S12 s12=>?_
 obtain⟨vs,v1,v2,v3⟩:=id S12.ex
 have nsl:sl∉es:=fun z=>by
  obtain⟨i,hi⟩:=List.mem_iff_getElem?.mp z
  have hil:i<N.length:=by
   have:=ent11.len;rw[List.length_replicate]at this;rw[<-this];exact(List.getElem?_eq_some_iff.mp hi).1
  obtain⟨ws,w1,_⟩:=(ent11.at_ i sl [] hi (by rw[List.getElem?_replicate,if_pos hil])).ex;rw[hsl]at w1;cases w1
 refine⟨sl,rfl,⟨_,SqL.of v1⟩,for_list (xs:=vs.map V.ref) (fun i σ H13=>∃x3 P,σ=[some (.ref x),some (.ref ra),some (.ref na),x3]/\EntI K H0 H13 ep es P/\P.length=N.length/\(∀t,t<N.length->P[t]? = some (((stepsF N).take i).filter fun s=>decide (leadF N s=t)))/\StepsAt K H13 sl (stepsF N)/\H13 sl=some (.lst (vs.map V.ref))) ?_ ?_ ?_ ?_⟩
 ·refine⟨_,List.replicate N.length [],rfl,⟨ent11.same.trans s12,s12 _ _ ent11.h,ent11.len,ent11.nd,ent11.na,fun i y S a b=>(ent11.at_ i y S a b).same s12,ent11.new⟩,by simp,fun t ht=>by rw[List.getElem?_replicate,if_pos ht];simp,S12,v1⟩
 ·rintro i σ H13 _ ⟨_,_,_,_,_,_,_,h⟩
  exact SqL.of h
 ·rintro i y _ H13 hy ⟨x3,P,rfl,I13,lP,hP,S13,hsl13⟩
  rw[List.getElem?_map]at hy;cases hvx:vs[i]? with
  | none=>rw[hvx]at hy;cases hy
  | some vx=>
   rw[hvx]at hy;cases hy;obtain⟨ws,w1,w2,w3⟩:=S13.ex
   have ews:ws=vs:=by
    rw[hsl13]at w1;have:=List.map_inj_right (f:=V.ref) (fun a b h=>V.ref.inj h) |>.mp (HO.lst.inj (Option.some.inj w1))
    exact this.symm
   subst ews;have hi:i<(stepsF N).length:=by rw[<-w2];exact(List.getElem?_eq_some_iff.mp hvx).1
   obtain⟨s,hs⟩:∃s,(stepsF N)[i]? = some s:=⟨_,List.getElem?_eq_getElem hi⟩;have hst:=w3 i vx s hvx hs;have hm:=List.mem_of_getElem? hs;have his:=isStep_of hm;have hlt:=lead_lt hv his;have x13:=I13.same _ _ x0;walk_at "ev"
   with_reducible refine s_bm ?_
   walk_at "ev"
   with_reducible refine s_fld ?_
   walk_at "ev";refine⟨x,_,dx,F,.ref ep,rfl,x13,ck.cls_Plan,ck.na_Plan_entries,by rw[hF];rfl,?_⟩
   with_reducible refine s_meth ?_
   walk_at "ev";refine⟨x,dx,F,rfl,x13,by rw[hF];rfl,?_⟩;walk_at "ev";refine leads_to_ok ck ⟨dx,F,np,x13,by rw[hF];rfl,net0.same I13.same⟩ hst his ?_;obtain⟨z,hz⟩:∃z,es[leadF N s]? = some z:=⟨_,List.getElem?_eq_getElem (by have:=I13.len;omega)⟩;refine q_ixL I13.h (atI_nat (by rw[List.getElem?_map,hz];rfl)) ?_;have hPt:=hP _ hlt;obtain⟨us,u1,u2,u3⟩:=(I13.at_ _ z _ hz hPt).ex;refine⟨ty_list u1,?_⟩;walk_at "ev"
   have hul:us.length<=i:=by
    rw[u2];refine Nat.le_trans (List.length_filter_le _ _) ?_;rw[List.length_take];omega
   have hlen1:(stepsF N).length<=1000:=by
    rw[<-w2];have:(stepsF N).length<=1+2 * N.length:=steps_len hv.two;omega
   refine q_append u1 (smallT (by rw[List.length_map];omega)) ?_;have add:=I13.add (a:=vx) (s:=s) hz hPt u1 u2 u3 hst;rw[show us.map V.ref++[V.ref vx]=(us++[vx]).map V.ref by simp];have nz:sl≠z:=fun q=>nsl (q ▸ List.mem_of_getElem? hz)
   refine⟨_,_,rfl,add,by rw[List.length_set];exact lP,fun t ht=>?_,S13.put u1 nz,by rw[upd_ne nz];exact hsl13⟩;rw[filter_set hs];by_cases q:leadF N s=t
   ·subst q
    rw[List.getElem?_set_self (by omega),if_pos rfl]
   ·rw[List.getElem?_set_ne q,if_neg q,List.append_nil]
    exact hP t ht
 ·rintro _ H13 ⟨x3,P,rfl,I13,lP,hP,S13,hsl13⟩
  have f8:∀b o,H b=some o->b≠x->H7 b=some o:=fun b o e n=>f7 _ _ (s06 _ _ e) n
  refine k H13 ⟨dx,rp,np,ep,es,as,hF ▸ I13.same _ _ x0,⟨rows0.same I13.same,I13.same _ _ rp0⟩,I13.same _ _ np0,la,fun i y l a b=>I13.same _ _ (at0 i y l a b),I13.h,by rw[I13.len,lP],fun t y hy=>?_,fun z ⟨o,ho,hzx⟩=>⟨ne_of_none (s05 _ _ ho) hrp,ne_of_none (f8 _ _ ho hzx) hnp,ne_of_none (old9 _ _ ho hzx) hep,fun q=>ne_of_none (f8 _ _ ho hzx) (fr8 z q) rfl,fun q=>ne_of_none (old _ _ ho hzx) (I13.new.2 z q) rfl⟩⟩ fun b o e n=>I13.same _ _ (old b o e n)
  have ht:t<N.length:=by
   have:=(List.getElem?_eq_some_iff.mp hy).1;have:=I13.len;omega
  have q:=I13.at_ t y _ hy (hP t ht);rw[List.length_map,v2,List.take_length]at q;exact q
end RD
namespace RD
open PySem PySem.Spec L2
def doesV(H:Hp)(xs ds:List V):Bool:=match xs with
 | [.str k,_,.ref q]=>match H q with
  | some (.tup qs)=>decide (k=("set" : Str))&&flatEq qs ds
  | _=>false
 | _=>false
def spoilsV(xs ds:List V):Bool:=match xs with
 | .str k::n::_=>(decide (k=("set" : Str))||decide (k=("copy" : Str))||decide (k=("take" : Str)))&&inV n (ds.drop 1)
 | _=>false
theorem spoils_tell(v:V)(ds:List V):spoilsV [.str "tell", v] ds=false:=by
 show((decide (("tell" : Str) = "set")||decide (("tell" : Str) = "copy")||decide (("tell" : Str) = "take"))&&inV v (ds.drop 1))=false;rw[show(decide (("tell" : Str) = "set")||decide (("tell" : Str) = "copy")||decide (("tell" : Str) = "take"))=false by decide];rfl
theorem spoils_ask(v:V)(ds:List V):spoilsV [.str "ask", v] ds=false:=by
 show((decide (("ask" : Str) = "set")||decide (("ask" : Str) = "copy")||decide (("ask" : Str) = "take"))&&inV v (ds.drop 1))=false;rw[show(decide (("ask" : Str) = "set")||decide (("ask" : Str) = "copy")||decide (("ask" : Str) = "take"))=false by decide];rfl
theorem doesV_ts{H H':Hp}{xs ds:List V}(h:RowS H xs)(t:TSame H H'):doesV H' xs ds=doesV H xs ds:=by
 cases h with
 | set n p a d=>
  obtain⟨k,v1,v2,h,_⟩:=d;simp only[doesV,h,t _ _ h]
 | copy n v a o=>
  rcases o with ⟨s,rfl,_⟩ | ⟨z,rfl,_⟩ <;> rfl
 | take n a=>rfl
 | tell v o=>rfl
 | ask v o=>rfl
 | skip=>rfl
structure DeedQ(H:Hp)(d:Addr)(ds:List V):Prop where
 h:H d=some (.tup ds)
 ex:∃k v1 v2,ds=[.str k,v1,v2]/\OpN v1/\OpN v2
theorem DeedQ.ts{H H':Hp}{d:Addr}{ds:List V}(h:DeedQ H d ds)(t:TSame H H'):DeedQ H' d ds:=⟨t _ _ h.h,h.ex⟩
theorem DeedN.q{H:Hp}{d:Addr}(h:DeedN H d):∃ds,DeedQ H d ds:=by
 obtain⟨k,v1,v2,h,a,b,_⟩:=h;exact⟨_,h,k,v1,v2,rfl,a,b⟩
theorem DeedQ.flat{H:Hp}{d:Addr}{ds:List V}(h:DeedQ H d ds):ds.all flatV=true:=by
 obtain⟨k,v1,v2,rfl,a,b⟩:=h.ex;rw[List.all_cons,List.all_cons,List.all_cons,a.flat,b.flat];rfl
theorem DeedQ.flat1{H:Hp}{d:Addr}{ds:List V}(h:DeedQ H d ds):(ds.drop 1).all flatV=true:=by
 obtain⟨k,v1,v2,rfl,a,b⟩:=h.ex;simp[a.flat,b.flat]
theorem in_none{H:Hp}{d:Addr}{ds:List V}(h:DeedQ H d ds):inV .non (ds.drop 1)=false:=by
 obtain⟨k,v1,v2,rfl,a,b⟩:=h.ex;show inV .non [v1,v2]=false;rcases a with ⟨s,rfl,_⟩ | ⟨n,rfl,_⟩ <;> rcases b with ⟨s',rfl,_⟩ | ⟨n',rfl,_⟩ <;> rfl
def RowX(H:Hp)(p:Addr)(xs:List V):Prop:=H p=some (.tup xs)/\RowS H xs
theorem RowX.ts{H H':Hp}{p:Addr}{xs:List V}(h:RowX H p xs)(t:TSame H H'):RowX H' p xs:=⟨t _ _ h.1,h.2.ts t⟩
theorem RowN.x{H:Hp}{p:Addr}{a:Bool}(h:RowN H (.ref p) a):∃xs,RowX H p xs:=by
 obtain⟨q,xs,e,h1,h2,_⟩:=h;cases e;exact⟨xs,h1,h2⟩
theorem RowS.head{H:Hp}{xs:List V}(h:RowS H xs):∃k r,xs=.str k::r:=by cases h <;> exact⟨_,_,rfl⟩
theorem spoils_rw{K:PySem.W.Frag}{H:Hp}{p d:Addr}{xs ds:List V}{Q:VK}{E:XK}(hr:RowX H p xs)(hd:DeedQ H d ds)(k:∀H',Same H H'->Q (.bl (spoilsV xs ds)) H'):sp_spoils K [.ref p,.ref d] H Q E:=by
 refine⟨rfl,?_⟩;unfold t_spoils;walk_at "ev"
 have sl:∀(v:V) H1,Same H H1->flatV v=true->inV v (ds.drop 1)=spoilsV xs ds->tSl qSl (tVar 1) (tPart (tC (.int 1))) tNoPart [some (.ref p),some (.ref d)] H1 fun y H2=>qIn false v y H2 Q:=by
  intro v H1 s1 fv e;walk_at "ev";obtain⟨k0,v1,v2,rfl,_⟩:=hd.ex;refine q_slT (s1 _ _ hd.h) (notwhole _ _) fun q H2 hq e2 s2=>?_
  rw[cut1]at e2;refine q_inT e2 fv hd.flat1 ?_;rw[show inV v [v1,v2]=spoilsV xs [.str k0,v1,v2] from e];exact k H2 (s1.trans s2)
 have none':∀H1,Same H H1->spoilsV xs ds=false->(fun(v:V) H1=>tSl qSl (tVar 1) (tPart (tC (.int 1))) tNoPart [some (.ref p),some (.ref d)] H1 fun y H2=>qIn false v y H2 Q) .non H1:=
  fun H1 s1 e=>sl .non H1 s1 rfl (by rw[in_none hd,e])
 refine⟨rfl,?_⟩;unfold t_set_by;obtain⟨hp,hs⟩:=hr;obtain⟨k0,r,rfl⟩:=hs.head;walk_at "ev";refine q_ixT hp (atI0 _ _) ?_;walk_at "ev";refine new_i (by simp) fun q H1 hq e1 s1=>?_
 refine q_inT e1 rfl rfl ?_;walk_at "ev";cases hs with
 | set n p2 a d2=>
  refine iteT' (by decide +kernel) ?_;walk_at "ev";refine q_ixT (s1 _ _ hp) (atI1 _ _ _) ?_;exact sl _ H1 s1 rfl (by simp[spoilsV])
 | copy n v a o=>
  refine iteT' (by decide +kernel) ?_;walk_at "ev";refine q_ixT (s1 _ _ hp) (atI1 _ _ _) ?_;exact sl _ H1 s1 rfl (by simp[spoilsV])
 | take n a=>
  refine iteT' (by decide +kernel) ?_;walk_at "ev";refine q_ixT (s1 _ _ hp) (atI1 _ _ _) ?_;exact sl _ H1 s1 rfl (by simp[spoilsV])
 | tell v o=>
  refine iteF' (by decide +kernel) ?_
  with_reducible refine s_c ?_
  exact none' H1 s1 (spoils_tell _ _)
 | ask v o=>
  refine iteF' (by decide +kernel) ?_
  with_reducible refine s_c ?_
  exact none' H1 s1 (spoils_ask _ _)
 | skip=>
  refine iteF' (by decide +kernel) ?_
  with_reducible refine s_c ?_
  exact none' H1 s1 rfl
theorem does_rw{K:PySem.W.Frag}{H:Hp}{p d:Addr}{xs ds:List V}{Q:VK}{E:XK}(hr:RowX H p xs)(hd:DeedQ H d ds)(k:Q (.bl (doesV H xs ds)) H):sp_does K [.ref p,.ref d] H Q E:=by
 obtain⟨hp,hs⟩:=hr;have none':doesV H xs ds=false->qEq .non (.ref d) H Q:=fun e=>⟨false,eqO_nt hd.h,by rw[e]at k;exact k⟩
 refine⟨rfl,?_⟩;unfold t_does;walk_at "ev";refine⟨rfl,?_⟩;unfold t_deed_of;obtain⟨k0,r,rfl⟩:=hs.head;walk_at "ev";refine q_ixT hp (atI0 _ _) ?_;walk_at "ev";cases hs with
 | set n p2 a d2=>
  refine iteT' (by decide) ?_;walk_at "ev";refine q_ixT hp (atI2 _ _ _ _) ?_;walk_at "ev";obtain⟨k1,w1,w2,h2,o1,o2,_⟩:=d2;refine⟨_,eqO_tup h2 hd.h (by rw[List.all_cons,List.all_cons,List.all_cons,o1.flat,o2.flat];rfl) hd.flat,?_⟩;simp only[doesV,h2]at k;simpa using k
 | copy n v a o=>
  refine iteF' (by decide) ?_;walk_at "ev";refine none' ?_;rcases o with ⟨s,rfl,_⟩ | ⟨z,rfl,_⟩ <;> rfl
 | take n a=>
  refine iteF' (by decide) ?_;walk_at "ev";exact none' rfl
 | tell v o=>
  refine iteF' (by decide) ?_;walk_at "ev";exact none' rfl
 | ask v o=>
  refine iteF' (by decide) ?_;walk_at "ev";exact none' rfl
 | skip=>
  refine iteF' (by decide) ?_;walk_at "ev";exact none' rfl
end RD
namespace RD
open PySem PySem.Spec L2
theorem s_dget{σ:St}{H:Hp}{to ti:TE}{Q:VK}(h:to σ H fun x H1=>ti σ H1 fun y H2=>∃a v,x=.ref a/\DGet H2 a y (some v)/\Q v H2):tDGet to ti σ H Q:=h
theorem s_aug{σ:St}{H:Hp}{n:Nat}{te:TE}{ti:TIp}{D:Ends}{x:V}(e:σ[n]? = some (some x))(h:te σ H fun y H1=>ti x y H1 fun z H2=>D.nx (σ.set n (some z)) H2):tAug n te ti D σ H:=⟨x,e,h⟩
def DSat(H:Hp)(rs:List Addr)(ds:List V)(Do Sp:Nat->Bool):Prop:=∀(p:Nat) rx,rs[p]? = some rx->∃xs,RowX H rx xs/\doesV H xs ds=Do p/\spoilsV xs ds=Sp p
theorem DSat.ts{H H':Hp}{rs:List Addr}{ds:List V}{Do Sp:Nat->Bool}(h:DSat H rs ds Do Sp)(t:TSame H H'):DSat H' rs ds Do Sp:=fun p rx e=>by
 obtain⟨xs,q1,q2,q3⟩:=h p rx e;exact⟨xs,q1.ts t,by rw[doesV_ts q1.2 t];exact q2,q3⟩
theorem DSat.ex{H:Hp}{a:Addr}{rs:List Addr}{N:List (List Nat)}(hr:RowsAt H a N)(h:H a=some (.lst (rs.map V.ref)))(ds:List V):∃Do Sp,DSat H rs ds Do Sp:=by
 obtain⟨rs',r1,r2,r3⟩:=hr.ex
 obtain rfl:rs'=rs:=by
  rw[h]at r1;exact(List.map_inj_right (f:=V.ref) (fun a b h=>V.ref.inj h) |>.mp (HO.lst.inj (Option.some.inj r1))).symm
 refine⟨fun p=>match rs'[p]? with | some rx=>(match H rx with | some (.tup xs)=>doesV H xs ds | _=>false) | none=>false,fun p=>match rs'[p]? with | some rx=>(match H rx with | some (.tup xs)=>spoilsV xs ds | _=>false) | none=>false,fun p rx e=>?_⟩;have hp:p<N.length:=by rw[<-r2];exact(List.getElem?_eq_some_iff.mp e).1
 obtain⟨xs,q⟩:=(r3 p rx _ e (at_len hp)).x;refine⟨xs,q,?_,?_⟩
 ·simp only[e,q.1]
 ·simp only[e,q.1]
end RD
namespace RD
open PySem PySem.Spec L2
def Jst(N:List (List Nat))(Do Sp:Nat->Bool)(S:List Nat)(i:Nat)(s:Stp)(t:Nat):Prop:=
 (i=0/\s=FST/\t=0)\/∃(p q:Nat) (l:List Nat),s=((p:Int),(q:Int))/\N[p]? = some l/\l[q]? = some t/\(Sp p=true\/∃j,j<i/\S[j]? = some p/\Do p=false)
theorem Jst.grow{N:List (List Nat)}{Do Sp:Nat->Bool}{S ext:List Nat}{i:Nat}{s:Stp}{t:Nat}(h:Jst N Do Sp S i s t):Jst N Do Sp (S++ext) i s t:=by
 rcases h with h | ⟨p,q,l,h1,h2,h3,h4⟩
 ·exact .inl h
 ·refine .inr ⟨p,q,l,h1,h2,h3,?_⟩
  rcases h4 with h4 | ⟨j,j1,j2,j3⟩
  ·exact .inl h4
  ·exact .inr ⟨j,j1,by rw[List.getElem?_append_left (List.getElem?_eq_some_iff.mp j2).1];exact j2,j3⟩
theorem Jst.step{N:List (List Nat)}{Do Sp:Nat->Bool}{S:List Nat}{i:Nat}{s:Stp}{t:Nat}(h:Jst N Do Sp S i s t):IsStep N s/\leadF N s=t:=by
 rcases h with ⟨_,rfl,rfl⟩ | ⟨p,q,l,rfl,h2,h3,_⟩
 ·exact⟨.inl rfl,by unfold leadF;rw[if_pos rfl]⟩
 ·refine⟨.inr ⟨p,q,l,t,rfl,h2,h3⟩,?_⟩
  unfold leadF
  rw[if_neg (by
   unfold FST;intro z;have:=congrArg Prod.fst z;simp at this)]
  show(N.getD (p:Int).toNat []).getD (q:Int).toNat 0=t;rw[Int.toNat_natCast,Int.toNat_natCast];simp[List.getD,h2,h3]
structure CbK(K:PySem.W.Frag)(H:Hp)(d:Addr)(N:List (List Nat))(Do Sp:Nat->Bool)(S:List Nat)(kvs:List (Key×V)):Prop where
 hd:H d=some (.dK kvs)
 nd:S.Nodup
 lt:∀t∈S,t<N.length
 len:kvs.length=S.length
 z:S[0]? = some 0
 at_:∀(i:Nat) t,S[i]? = some t->∃a s,kvs[i]? = some (Sum.inl (t:Int),.ref a)/\StepT K H a s/\Jst N Do Sp S i s t
theorem CbK.keys{K:PySem.W.Frag}{H:Hp}{d:Addr}{N:List (List Nat)}{Do Sp:Nat->Bool}{S:List Nat}{kvs:List (Key×V)}(h:CbK K H d N Do Sp S kvs):kvs.map (·.1)=S.map fun(t:Nat)=>(Sum.inl (t:Int):Key):=by
 apply List.ext_getElem?;intro i;rw[List.getElem?_map,List.getElem?_map];cases e:S[i]? with
 | none=>
  have:kvs[i]? = none:=by
   rw[List.getElem?_eq_none_iff]at e ⊢;have:=h.len;omega
  rw[this];rfl
 | some t=>
  obtain⟨a,s,q,_⟩:=h.at_ i t e;rw[q];rfl
theorem CbK.ndk{K:PySem.W.Frag}{H:Hp}{d:Addr}{N:List (List Nat)}{Do Sp:Nat->Bool}{S:List Nat}{kvs:List (Key×V)}(h:CbK K H d N Do Sp S kvs):(kvs.map (·.1)).Nodup:=by
 rw[h.keys];refine List.Pairwise.map _ (fun a b hab z=>hab ?_) h.nd;have:=Sum.inl.inj z;omega
theorem CbK.in_{K:PySem.W.Frag}{H:Hp}{d:Addr}{N:List (List Nat)}{Do Sp:Nat->Bool}{S:List Nat}{kvs:List (Key×V)}(h:CbK K H d N Do Sp S kvs)(t:Nat):(valV kvs (Sum.inl (t:Int))).isSome=decide (t∈S):=by
 by_cases ht:t∈S
 ·rw[decide_eq_true ht]
  obtain⟨i,hi⟩:=List.mem_iff_getElem?.mp ht;obtain⟨a,s,q,_⟩:=h.at_ i t hi;rw[valV_mem h.ndk (List.mem_of_getElem? q)];rfl
 ·rw[decide_eq_false ht]
  cases e:valV kvs (Sum.inl (t:Int))with
  | none=>rfl
  | some v=>
   have:=valV_in e;rw[h.keys]at this;obtain⟨u,hu,z⟩:=List.mem_map.mp this;have:=Sum.inl.inj z
   exact absurd (show t ∈ S from (by have : u = t := by omega
                                     exact this ▸ hu)) ht
theorem CbK.get{K:PySem.W.Frag}{H:Hp}{d:Addr}{N:List (List Nat)}{Do Sp:Nat->Bool}{S:List Nat}{kvs:List (Key×V)}(h:CbK K H d N Do Sp S kvs){i t:Nat}(hi:S[i]? = some t):∃a s,DGet H d (.int (t:Int)) (some (.ref a))/\StepT K H a s/\Jst N Do Sp S i s t:=by
 obtain⟨a,s,q,q2,q3⟩:=h.at_ i t hi;refine⟨a,s,?_,q2,q3⟩;have:=DGet.k (k:=Sum.inl (t:Int)) h.hd;rw[valV_mem h.ndk (List.mem_of_getElem? q)]at this;exact this
theorem CbK.notin{K:PySem.W.Frag}{H:Hp}{d:Addr}{N:List (List Nat)}{Do Sp:Nat->Bool}{S:List Nat}{kvs:List (Key×V)}(h:CbK K H d N Do Sp S kvs)(t:Nat):∃o,DGet H d (.int (t:Int)) o/\o.isSome=decide (t∈S):=⟨_,DGet.k (k:=Sum.inl (t:Int)) h.hd,h.in_ t⟩
theorem CbK.same{K:PySem.W.Frag}{H H':Hp}{d:Addr}{N:List (List Nat)}{Do Sp:Nat->Bool}{S:List Nat}{kvs:List (Key×V)}(h:CbK K H d N Do Sp S kvs)(s:Same H H'):CbK K H' d N Do Sp S kvs:=
 ⟨s _ _ h.hd,h.nd,h.lt,h.len,h.z,fun i t e=>let⟨a,st,q1,q2,q3⟩:=h.at_ i t e; ⟨a,st,q1,q2.ts (Same.ts s),q3⟩⟩
theorem CbK.add{K:PySem.W.Frag}{H:Hp}{d a:Addr}{N:List (List Nat)}{Do Sp:Nat->Bool}{S:List Nat}{kvs:List (Key×V)}{t:Nat}{s:Stp}(h:CbK K H d N Do Sp S kvs)(ht:¬t∈S)(hlt:t<N.length)(ha:StepT K H a s)(hj:Jst N Do Sp S S.length s t) :
  CbK K (upd H d (.dK (putK kvs (Sum.inl (t:Int)) (.ref a)))) d N Do Sp (S++[t]) (putK kvs (Sum.inl (t:Int)) (.ref a)):=by
 have e:putK kvs (Sum.inl (t:Int)) (.ref a)=kvs++[(Sum.inl (t:Int),.ref a)]:=by
  unfold putK;rw[valV_any,h.in_,decide_eq_false ht,if_neg (by decide)]
 rw[e];have ts:TSame H (upd H d (.dK (kvs++[(Sum.inl (t:Int),.ref a)]))):=fun b xs q=>by rw[upd_ne (ne_of q h.hd (by intro z;cases z))];exact q
 refine⟨upd_same,?_,fun u hu=>?_,by simp[h.len],?_,fun i u hu=>?_⟩
 ·rw[List.nodup_append]
  exact⟨h.nd,by simp,fun x hx y hy=>by rw[List.mem_singleton.mp hy];intro z;exact ht (z ▸ hx)⟩
 ·rcases List.mem_append.mp hu with q | q
  ·exact h.lt u q
  ·rw[List.mem_singleton.mp q];exact hlt
 ·rw[List.getElem?_append_left (List.getElem?_eq_some_iff.mp h.z).1];exact h.z
 ·rcases snocAt hu with ⟨hi,g⟩ | ⟨hi,g⟩
  ·obtain⟨a',s',q1,q2,q3⟩:=h.at_ i u g
   exact⟨a',s',by rw[List.getElem?_append_left (List.getElem?_eq_some_iff.mp q1).1];exact q1,q2.ts ts,q3.grow⟩
  ·subst g
   refine⟨a,s,?_,ha.ts ts,?_⟩
   ·rw[hi,<-h.len];simp
   ·rw[hi];exact hj.grow
structure CbI(K:PySem.W.Frag)(H0 H:Hp)(d o:Addr)(N:List (List Nat))(Do Sp:Nat->Bool)(S:List Nat)(kvs:List (Key×V)):Prop where
 cb:CbK K H d N Do Sp S kvs
 same:Same H0 H
 ho:H o=some (.lst (IL S))
 fr:H0 d=none/\H0 o=none
theorem CbI.next{K:PySem.W.Frag}{H0 H H':Hp}{d o:Addr}{N:List (List Nat)}{Do Sp:Nat->Bool}{S:List Nat}{kvs:List (Key×V)}(h:CbI K H0 H d o N Do Sp S kvs)(s:Same H H'):CbI K H0 H' d o N Do Sp S kvs:=⟨h.cb.same s,h.same.trans s,s _ _ h.ho,h.fr⟩
theorem cb_body{K:PySem.W.Frag}{H0 H:Hp}{d o:Addr}{N:List (List Nat)}{Do Sp:Nat->Bool}{S:List Nat}{kvs:List (Key×V)}{σ:St}{D:Ends}{a b e f g p q t:Nat}{l:List Nat}(ha:σ[a]? = some (some (.int (t:Int))))(hb:σ[b]? = some (some (.ref d)))(he:σ[e]? = some (some (.int (p:Int))))(hf:σ[f]? = some (some (.int (q:Int))))(hg:σ[g]? = some (some (.ref o)))
  (I:CbI K H0 H d o N Do Sp S kvs) (h400:N.length<=400) (hl:N[p]? = some l) (ht:l[q]? = some t) (htn:t<N.length) (hj:Sp p=true\/∃j:Nat,S[j]? = some p/\Do p=false)
  (k:∀H' S' kvs',CbI K H0 H' d o N Do Sp S' kvs'->(∃ext,S'=S++ext)->t∈S'->D.nx σ H') :
  tIfS (tB (tDNotIn (tVar a) (tVar b))) (tSeq (sDPut (tVar b) (tVar a) (tTup (tCons (tVar e) (tCons (tVar f) (tNil))))) (tDrop (tBM K "list" qAppend (tVar g) (tCons (tVar a) (tNil))))) (tNext) D σ H:=by
 with_reducible refine s_if ?_
 with_reducible refine s_tB ?_
 with_reducible refine s_dnotin ?_
 with_reducible refine s_var ha ?_
 with_reducible refine s_var hb ?_
 obtain⟨o',g1,g2⟩:=I.cb.notin t;refine⟨d,o',rfl,g1,?_⟩;rw[g2];refine⟨_,rfl,?_⟩;by_cases hts:t∈S
 ·refine iteF' (by rw[decide_eq_true hts];rfl) ?_
  with_reducible refine s_next ?_
  exact k H S kvs I ⟨[],by simp⟩ hts
 refine iteT' (by rw[decide_eq_false hts];rfl) ?_
 with_reducible refine s_seq ?_
 with_reducible refine s_dput ?_
 with_reducible refine s_tup ?_
 with_reducible refine s_cons ?_
 with_reducible refine s_var he ?_
 with_reducible refine s_cons ?_
 with_reducible refine s_var hf ?_
 with_reducible refine s_nil ?_
 refine new_i (by simp) fun z H1 hz e1 s1=>?_
 have I1:=I.next s1
 with_reducible refine s_var hb ?_
 with_reducible refine s_var ha ?_
 have hlen:S.length<=400:=Nat.le_trans (nd_le _ _ I.cb.nd I.cb.lt) h400;refine⟨d,_,rfl,DPut.k (k:=Sum.inl (t:Int)) I1.cb.hd (smallT (by rw[I.cb.len];omega)),?_⟩;have add:=I1.cb.add (a:=z) (s:=((p:Int),(q:Int))) hts htn (.inl e1) (.inr ⟨p,q,l,rfl,hl,ht,hj.imp id fun⟨j,j1,j2⟩=>⟨j,(List.getElem?_eq_some_iff.mp j1).1,j1,j2⟩⟩);obtain⟨kvs',hk⟩:∃kvs',kvs'=putK kvs (Sum.inl (t:Int)) (.ref z):=⟨_,rfl⟩;rw[<-hk]at add ⊢;obtain⟨H2,hH2⟩:∃H2,H2=upd H1 d (.dK kvs'):=⟨_,rfl⟩;rw[<-hH2]at add ⊢;have nod:o≠d:=ne_of I1.ho I1.cb.hd (by intro z;cases z);have ho2:H2 o=some (.lst (IL S)):=by rw[hH2,upd_ne nod];exact I1.ho
 have s2:Same H0 H2:=fun b' o'' q'=>by rw[hH2,upd_ne (ne_of_none q' I.fr.1)];exact I1.same _ _ q'
 with_reducible refine s_drop ?_
 with_reducible refine s_bm ?_
 with_reducible refine s_var hg ?_
 refine⟨ty_list ho2,?_⟩
 with_reducible refine s_cons ?_
 with_reducible refine s_var ha ?_
 with_reducible refine s_nil ?_
 refine q_append ho2 (smallT (by rw[IL_len];omega)) ?_;have e3:IL S++[V.int (t:Int)]=IL (S++[t]):=by simp[IL]
 rw[e3];have ts:TSame H2 (upd H2 o (.lst (IL (S++[t])))):=TSame.put ho2;refine k _ (S++[t]) kvs' ⟨⟨by rw[upd_ne nod.symm];exact add.hd,add.nd,add.lt,add.len,add.z,fun i u hu=>let⟨a',s',q1,q2,q3⟩:=add.at_ i u hu; ⟨a',s',q1,q2.ts ts,q3⟩⟩,fun b' o'' q'=>by rw[upd_ne (ne_of_none q' I.fr.2)];exact s2 _ _ q',upd_same,I.fr⟩ ⟨[t],rfl⟩ (by simp)
end RD
namespace RD
open PySem PySem.Spec L2
theorem pass_on_ok{K:PySem.W.Frag}{c:Cn}{H0 H:Hp}{x d o:Addr}{N:List (List Nat)}{Do Sp:Nat->Bool}{S:List Nat}{kvs:List (Key×V)}{p:Nat}{l:List Nat}{Q:VK}{E:XK}(ck:CnOk K c)(hp:PlanX c H0 x N)(hv:Valid N)(I:CbI K H0 H d o N Do Sp S kvs)(hl:N[p]? = some l)(hj:Sp p=true\/∃j:Nat,S[j]? = some p/\Do p=false)
  (k:∀H' S' kvs',CbI K H0 H' d o N Do Sp S' kvs'->(∃ext,S'=S++ext)->(∀t∈l,t∈S')->Q .non H'):sp_pass_on K [.ref x,.int (p:Int),.ref d,.ref o] H Q E:=by
 obtain⟨dx,fs,n,hx,hf,hn⟩:=hp;refine⟨rfl,?_⟩;unfold t_pass_on
 with_reducible refine s_for (s_ienum ?_)
 walk_at "ev"
 with_reducible refine s_fld ?_
 walk_at "ev";refine⟨x,_,dx,fs,_,rfl,I.same _ _ hx,ck.cls_Plan,ck.na_Plan_nexts,hf,?_⟩;walk_at "ev";obtain⟨xs,y,f1,f2,f3,_⟩:=hn.at hl;refine q_ixL (I.same _ _ f1) f2 ?_;walk_at "ev";refine⟨y,rfl,⟨_,SqL.of (I.same _ _ f3)⟩,?_⟩;have hlt:=hv.lt l (List.mem_of_getElem? hl);refine for_i l.length (fun i σ H'=>∃y4 y5 S' kvs',σ=[some (.ref x),some (.int (p:Int)),some (.ref d),some (.ref o),y4,y5]/\CbI K H0 H' d o N Do Sp S' kvs'/\(∃ext,S'=S++ext)/\∀t∈l.take i,t∈S') ?_ ?_ ?_ ?_
 ·exact⟨_,_,S,kvs,rfl,I,⟨[],by simp⟩,by simp⟩
 ·rintro _ H' ⟨y4,y5,S',kvs',rfl,I',e',g'⟩
  rw[List.take_length]at g';exact⟨⟨_,SqL.of (I'.same _ _ f3),by rw[IL_len];exact Nat.le_refl _⟩,k H' S' kvs' I' e' g'⟩
 ·rintro i _ H' hi ⟨y4,y5,S',kvs',rfl,I',e',g'⟩
  exact⟨_,_,SqL.of (I'.same _ _ f3),by unfold IL;rw[List.getElem?_map,List.getElem?_eq_getElem hi];rfl⟩
 ·rintro i _ H' hi ⟨y4,y5,S',kvs',rfl,I',⟨ext,e'⟩,g'⟩ v H1 ⟨pp,w,hpp,rfl,rfl,gw⟩
  obtain⟨t,ht⟩:∃t,l[i]? = some t:=⟨_,List.getElem?_eq_getElem hi⟩;have gw:=gw _ (SqL.of (I'.same _ _ f3));unfold IL at gw;rw[List.getElem?_map,ht]at gw;cases gw;refine s_gpair (SqT.of upd_same) ?_;have I1:=I'.next (same_new (o:=.tup [V.int (i:Int),V.int (t:Int)]) hpp);refine cb_body (p:=p) (q:=i) (t:=t) (l:=l) rfl rfl rfl rfl rfl I1 hv.le hl ht (hlt t (List.mem_of_getElem? ht)) ?_ fun H2 S2 kvs2 I2 ⟨ext2,e2⟩ t2=>?_
  ·rcases hj with hj | ⟨j,j1,j2⟩
   ·exact .inl hj
   ·exact .inr ⟨j,by rw[e',List.getElem?_append_left (List.getElem?_eq_some_iff.mp j1).1];exact j1,j2⟩
  ·refine⟨_,_,S2,kvs2,rfl,I2,⟨ext++ext2,by rw[e2,e',List.append_assoc]⟩,fun u hu=>?_⟩
   rw[List.take_add_one,ht]at hu;rcases List.mem_append.mp hu with q | q
   ·rw[e2];exact List.mem_append_left _ (g' u q)
   ·have:u=t:=by simpa using q
    subst this;exact t2
structure PlanR(c:Cn)(H:Hp)(x:Addr)(N:List (List Nat))(rs:List Addr):Prop where
 ex:∃dx fs n r,H x=some (.ins c.C_Plan dx fs)/\fs.lookup ("nexts" : Str)=some (V.ref n)/\NetAt H n N/\fs.lookup ("rows" : Str)=some (V.ref r)/\H r=some (.lst (rs.map V.ref))/\rs.length=N.length
theorem PlanR.x{c:Cn}{H:Hp}{x:Addr}{N:List (List Nat)}{rs:List Addr}(h:PlanR c H x N rs):PlanX c H x N:=by
 obtain⟨dx,fs,n,r,h1,h2,h3,_⟩:=h.ex;exact⟨dx,fs,n,h1,h2,h3⟩
theorem PlanR.same{c:Cn}{H H':Hp}{x:Addr}{N:List (List Nat)}{rs:List Addr}(h:PlanR c H x N rs)(s:Same H H'):PlanR c H' x N rs:=by
 obtain⟨dx,fs,n,r,h1,h2,h3,h4,h5,h6⟩:=h.ex;exact⟨dx,fs,n,r,s _ _ h1,h2,h3.same s,h4,s _ _ h5,h6⟩
theorem PlanZ.r{K:PySem.W.Frag}{c:Cn}{Z:Addr->Prop}{rs:List Addr}{H:Hp}{x:Addr}{N:List (List Nat)}(h:PlanZ K c Z rs H x N):PlanR c H x N rs:=by
 obtain⟨dx,r,n,e,es,ns,h1,⟨h2,h2r⟩,h3,h4,h5,h6,h7,h8,_⟩:=h.ex;refine⟨dx,_,n,r,h1,rfl,⟨ns,h3,h4,h5⟩,rfl,h2r,?_⟩;obtain⟨rs',q1,q2,_⟩:=h2.ex;rw[h2r]at q1;have:=congrArg List.length (HO.lst.inj (Option.some.inj q1));rw[List.length_map,List.length_map]at this;omega
structure Shut(N:List (List Nat))(Do Sp:Nat->Bool)(S:List Nat):Prop where
 sp:∀(p:Nat) l,Sp p=true->N[p]? = some l->∀t∈l,t∈S
 no:∀(p:Nat) l,p∈S->Do p=false->N[p]? = some l->∀t∈l,t∈S
theorem disp0{K:PySem.W.Frag}{σ:St}{H:Hp}{a:Addr}{Q:VK}(k:∀d H',H d=none->H' d=some (.dK [(Sum.inl 0,.ref a)])->Same H H'->Q (.ref d) H'):tDisp ((tC (.int 0),tC (.ref a))::[]) σ H Q:=by
 intro d hd;refine⟨upd_same,[(Sum.inl 0,.ref a)],rfl,by simp,?_⟩;have e:(upd (upd H d (.dK [])) d (.dK (mergeK [] [(Sum.inl 0,V.ref a)])))=upd H d (.dK [(Sum.inl 0,.ref a)]):=by rw[upd_upd];rfl
 rw[e];exact k d _ hd upd_same (same_new hd)
theorem cb_start{K:PySem.W.Frag}{c:Cn}{H0 H:Hp}{d o:Addr}{N:List (List Nat)}{Do Sp:Nat->Bool}(ck:CnOk K c)(hv:Valid N)(hd:H d=some (.dK [(Sum.inl 0,.ref c.k_FIRST_STEP)]))(ho:H o=some (.lst [.int 0]))(s:Same H0 H)(f1:H0 d=none)(f2:H0 o=none):CbI K H0 H d o N Do Sp [0] [(Sum.inl 0,.ref c.k_FIRST_STEP)]:=by
 refine⟨⟨hd,by simp,by simpa using hv.pos,rfl,rfl,fun i t hi=>?_⟩,s,ho,f1,f2⟩;cases i with
 | zero=>
  cases hi;exact⟨_,FST,rfl,.inr ⟨rfl,ck.t_FIRST_STEP⟩,.inl ⟨rfl,rfl,rfl⟩⟩
 | succ i=>simp at hi
def BL(n:Nat)(f:Nat->Bool):List V:=(List.range n).map fun p=>V.bl (f p)
theorem BL_len(n:Nat)(f:Nat->Bool):(BL n f).length=n:=by simp[BL]
theorem BL_at{n p:Nat}{f:Nat->Bool}(h:p<n):atI (BL n f) (p:Int)=some (V.bl (f p)):=atI_nat (by unfold BL;rw[List.getElem?_map,List.getElem?_range h];rfl)
theorem unready_steps_ok{K:PySem.W.Frag}{c:Cn}{H:Hp}{x ma br:Addr}{N:List (List Nat)}{rs:List Addr}{Do Sp:Nat->Bool}{Q:VK}{E:XK}(ck:CnOk K c)(hp:PlanR c H x N rs)(hv:Valid N)(hm:H ma=some (.lst (BL N.length Do)))(hb:H br=some (.lst (BL N.length Sp)))
  (k:∀d H' S kvs,CbK K H' d N Do Sp S kvs->Shut N Do Sp S->Same H H'->Q (.ref d) H'):sp_unready_steps K c [.ref x,.ref ma,.ref br] H Q E:=by
 have h400:=hv.le;obtain⟨dx,fs,n,r,hx,hfn,hn,hfr,hr,lr⟩:=hp.ex;refine⟨rfl,?_⟩;unfold t_unready_steps
 with_reducible refine s_seq ?_
 walk_at "ev";refine disp0 (K:=K) fun d H1 hd1 e1 s1=>?_
 walk_at "ev"
 with_reducible refine s_seq ?_
 walk_at "ev";refine new_i (by simp) fun o H2 ho e2 s2=>?_
 walk_at "ev";have I2:CbI K H H2 d o N Do Sp [0] _:=cb_start ck hv (s2 _ _ e1) e2 (s1.trans s2) hd1 (s1.free ho)
 with_reducible refine s_cut (P:=fun σ H3=>∃y5 S kvs,σ=[some (.ref x),some (.ref ma),some (.ref br),some (.ref d),some (.ref o),y5,none]/\CbI K H H3 d o N Do Sp S kvs/\∀(p:Nat) l,Sp p=true->N[p]? = some l->∀t∈l,t∈S) ?_ ?_
 rotate_left
 ·intro nx hnx
  with_reducible refine s_for (s_rng1 ?_)
  walk_at "ev"
  with_reducible refine s_fld ?_
  walk_at "ev";refine⟨x,_,dx,fs,_,rfl,I2.same _ _ hx,ck.cls_Plan,ck.na_Plan_rows,hfr,?_⟩;walk_at "ev";refine q_lenL (I2.same _ _ hr) ?_;rw[List.length_map,lr];refine⟨N.length,rfl,by omega,by omega,?_⟩;rw[Int.toNat_natCast];refine for_range (fun i σ H3=>∃y5 S kvs,σ=[some (.ref x),some (.ref ma),some (.ref br),some (.ref d),some (.ref o),y5,none]/\CbI K H H3 d o N Do Sp S kvs/\∀(p:Nat) l,p<i->Sp p=true->N[p]? = some l->∀t∈l,t∈S) ⟨_,[0],_,rfl,I2,by omega⟩ ?_ ?_
  ·rintro i _ H3 hi ⟨y5,S,kvs,rfl,I3,g3⟩
   rw[Int.zero_add];walk_at "ev";refine q_ixL (I3.same _ _ hb) (BL_at hi) ?_;walk_at "ev";refine ite2 (fun e=>?_) (fun e=>?_)
   ·walk_at "ev"
    refine pass_on_ok ck hp.x hv I3 (at_len hi) (.inl e) fun H6 S6 kvs6 I6 ⟨ext,e6⟩ g6=>?_
    refine⟨_,S6,kvs6,rfl,I6,fun p l hpi hsp hl t ht=>?_⟩;by_cases q:p=i
    ·subst q
     rw[at_len hi]at hl;cases hl;exact g6 t ht
    ·rw[e6]
     exact List.mem_append_left _ (g3 p l (by omega) hsp hl t ht)
   ·walk_at "ev"
    refine⟨_,S,kvs,rfl,I3,fun p l hpi hsp hl t ht=>?_⟩;by_cases q:p=i
    ·subst q;exact(e hsp).elim
    ·exact g3 p l (by omega) hsp hl t ht
  ·rintro _ H3 ⟨y5,S,kvs,rfl,I3,g3⟩
   exact hnx _ _ ⟨y5,S,kvs,rfl,I3,fun p l a b=>g3 p l (List.getElem?_eq_some_iff.mp b).1 a b⟩
 rintro _ H3 ⟨y5,S3,kvs3,rfl,I3,g3⟩
 with_reducible refine s_seq ?_
 walk_at "ev"
 with_reducible refine s_seq ?_
 with_reducible refine s_while ?_
 refine⟨fun m σ H4=>∃(y5:Option V) (S:List Nat) (kvs:List (Key×V)) (dn:Nat),σ=[some (.ref x),some (.ref ma),some (.ref br),some (.ref d),some (.ref o),y5,some (.int (dn:Int))]/\CbI K H H4 d o N Do Sp S kvs/\(∀(p:Nat) l,Sp p=true->N[p]? = some l->∀t∈l,t∈S)/\dn<=S.length/\(∀(j p:Nat) l,j<dn->S[j]? = some p->Do p=false->N[p]? = some l->∀t∈l,t∈S)/\m=N.length - dn,
  ⟨_,y5,S3,kvs3,0,rfl,I3,g3,by omega,by omega,rfl⟩,?_⟩
 rintro m _ H4 ⟨y5,S,kvs,dn,rfl,I4,g4,hdn,c4,rfl⟩;walk_at "ev";refine q_lenL I4.ho ?_;walk_at "ev";rw[IL_len];have hSl:S.length<=N.length:=nd_le _ _ I4.cb.nd I4.cb.lt;by_cases hlt:dn<S.length
 ·refine iteT' (decide_eq_true (by omega)) ?_
  obtain⟨p,hpS⟩:∃p,S[dn]? = some p:=⟨_,List.getElem?_eq_getElem hlt⟩;have hpn:=I4.cb.lt p (List.mem_of_getElem? hpS);refine⟨fun σ H5=>∃(m':Nat) (y5:Option V) (S:List Nat) (kvs:List (Key×V)) (dn':Nat),σ=[some (.ref x),some (.ref ma),some (.ref br),some (.ref d),some (.ref o),y5,some (.int (dn':Int))]/\CbI K H H5 d o N Do Sp S kvs/\(∀(p:Nat) l,Sp p=true->N[p]? = some l->∀t∈l,t∈S)/\dn'<=S.length/\(∀(j p:Nat) l,j<dn'->S[j]? = some p->Do p=false->N[p]? = some l->∀t∈l,t∈S)/\m'=N.length - dn'/\m'<N.length - dn,?_,?_⟩
  ·rintro σ' H5 ⟨m',y4,S,kvs,dn',e,r1,r2,r3,r4,r5,r6⟩
   exact⟨m',r6,y4,S,kvs,dn',e,r1,r2,r3,r4,r5⟩
  with_reducible refine s_seq ?_
  walk_at "ev";refine q_ixL I4.ho (IL_at hpS) ?_;walk_at "ev"
  with_reducible refine s_seq ?_
  with_reducible refine s_aug rfl ?_
  walk_at "ev";refine q_ixL (I4.same _ _ hm) (BL_at hpn) ?_;walk_at "ev";have e1:(dn:Int)+1=((dn+1:Nat):Int):=by omega
  cases hDo:Do p with
  | true=>
   refine iteF' rfl ?_;walk_at "ev";rw[e1];refine⟨_,_,S,kvs,dn+1,rfl,I4,g4,by omega,fun j p' l hj hj2 hD hl t ht=>?_,rfl,by omega⟩;by_cases q:j=dn
   ·subst q
    rw[hpS]at hj2;cases hj2;rw[hDo]at hD;cases hD
   ·exact c4 j p' l (by omega) hj2 hD hl t ht
  | false=>
   refine iteT' rfl ?_;walk_at "ev";rw[e1];refine pass_on_ok ck hp.x hv I4 (at_len hpn) (.inr ⟨dn,hpS,hDo⟩) fun H6 S6 kvs6 I6 ⟨ext,e6⟩ g6=>?_
   refine⟨_,_,S6,kvs6,dn+1,rfl,I6,fun p' l a b t ht=>by rw[e6];exact List.mem_append_left _ (g4 p' l a b t ht),by rw[e6,List.length_append];omega,fun j p' l hj hj2 hD hl t ht=>?_,rfl,by omega⟩;have hj3:S[j]? = some p':=by rw[e6,List.getElem?_append_left (by omega)]at hj2;exact hj2
   by_cases q:j=dn
   ·subst q
    rw[hpS]at hj3;cases hj3;rw[at_len hpn]at hl;cases hl;exact g6 t ht
   ·rw[e6];exact List.mem_append_left _ (c4 j p' l (by omega) hj3 hD hl t ht)
 ·refine iteF' (decide_eq_false (by omega)) ?_
  walk_at "ev";refine k d H4 S kvs I4.cb ⟨g4,fun p l hp' hD hl t ht=>?_⟩ I4.same;obtain⟨j,hj⟩:=List.mem_iff_getElem?.mp hp';have:=(List.getElem?_eq_some_iff.mp hj).1;exact c4 j p l (by omega) hj hD hl t ht
end RD
namespace RD
open PySem PySem.Spec L2
inductive Fw(N:List (List Nat)):Stp->List Stp->Nat->Prop
 | one {s:Stp}:IsStep N s->Fw N s [] (leadF N s)
 | cons {s s':Stp} {r:List Stp} {t:Nat}:IsStep N s->s'.1=(leadF N s:Int)->Fw N s' r t->Fw N s (s'::r) t
theorem Fw.app{N:List (List Nat)}{s s':Stp}{r r':List Stp}{t t':Nat}(h:Fw N s r t)(e:s'.1=(t:Int))(h':Fw N s' r' t'):Fw N s (r++s'::r') t':=by
 induction h with
 | one h=>exact .cons h e h'
 | cons h e1 _ ih=>exact .cons h e1 (ih e)
theorem snoc_steps{K:PySem.W.Frag}{H:Hp}{w a:Addr}{S:List Stp}{s:Stp}{vs:List Addr}(h1:H w=some (.lst (vs.map V.ref)))(h2:vs.length=S.length)(h3:∀(i:Nat) x s,vs[i]? = some x->S[i]? = some s->StepT K H x s)(ha:StepT K H a s) :
  StepsAt K (upd H w (.lst ((vs++[a]).map V.ref))) w (S++[s]):=by
 refine⟨vs++[a],upd_same,by simp[h2],fun i x t f1 f2=>?_⟩;rcases snocAt f1 with ⟨i1,g1⟩ | ⟨i1,g1⟩
 ·rcases snocAt f2 with ⟨_,g2⟩ | ⟨i2,_⟩
  ·exact(h3 i x t g1 g2).ts (TSame.put h1)
  ·omega
 ·rcases snocAt f2 with ⟨i2,_⟩ | ⟨_,g2⟩
  ·omega
  ·subst g1 g2
   exact ha.ts (TSame.put h1)
theorem StepsAt.rev{K:PySem.W.Frag}{H:Hp}{w:Addr}{S:List Stp}{vs:List Addr}(h1:H w=some (.lst (vs.map V.ref)))(h2:vs.length=S.length)(h3:∀(i:Nat) x s,vs[i]? = some x->S[i]? = some s->StepT K H x s):StepsAt K (upd H w (.lst (vs.map V.ref).reverse)) w S.reverse:=by
 refine⟨vs.reverse,by rw[upd_same,List.map_reverse],by simp[h2],fun i x s f1 f2=>?_⟩;have hi:=(List.getElem?_eq_some_iff.mp f1).1;rw[List.length_reverse]at hi;rw[List.getElem?_reverse hi]at f1;rw[List.getElem?_reverse (by omega),<-h2]at f2;exact(h3 _ x s f1 f2).ts (TSame.put h1)
theorem q_reverse{H:Hp}{l:Addr}{xs:List V}{Q:VK}(hl:H l=some (.lst xs))(h:Q .non (upd H l (.lst xs.reverse))):qReverse (.ref l) [] H Q:=by
 unfold qReverse;simp only[hl];exact h
theorem fst_ne{p q:Nat}:¬(((p:Int),(q:Int)):Stp)=FST:=by
 unfold FST;intro z;have:=congrArg Prod.fst z;simp at this
end RD
namespace RD
open PySem PySem.Spec L2
theorem traced_ok{K:PySem.W.Frag}{c:Cn}{H:Hp}{d:Addr}{N:List (List Nat)}{S:List Nat}{kvs:List (Key×V)}{i0 t0:Nat}{Q:VK}{E:XK}(ck:CnOk K c)(hc:CbK K H d N (fun _=>false) (fun _=>false) S kvs)(h400:N.length<=400)(hi0:S[i0]? = some t0)
  (k:∀w r H',H w=none->Fw N FST r t0->r.length<=400->StepsAt K H' w (FST::r)->Same H H'->Q (.ref w) H'):sp_traced K c [.ref d,.int (t0:Int)] H Q E:=by
 refine⟨rfl,?_⟩;unfold t_traced
 with_reducible refine s_seq ?_
 walk_at "ev"
 with_reducible refine s_dget ?_
 walk_at "ev";obtain⟨a,s,g1,g2,g3⟩:=hc.get hi0;refine⟨d,_,rfl,g1,?_⟩;walk_at "ev";refine new_i (by simp) fun w H1 hw e1 s1=>?_
 walk_at "ev";have hSl:S.length<=N.length:=nd_le _ _ hc.nd hc.lt;have hi0l:=(List.getElem?_eq_some_iff.mp hi0).1
 with_reducible refine s_seq ?_
 with_reducible refine s_while ?_
 refine⟨fun m σ H2=>∃(vs:List Addr) (a:Addr) (s:Stp) (r:List Stp) (i t:Nat),σ=[some (.ref d),some (.int (t0:Int)),some (.ref w)]/\H2 w=some (.lst ((vs++[a]).map V.ref))/\vs.length=r.length/\(∀(j:Nat) x st,(vs++[a])[j]? = some x->(r.reverse++[s])[j]? = some st->StepT K H2 x st)/\Fw N s r t0/\S[i]? = some t/\Jst N (fun _=>false) (fun _=>false) S i s t/\r.length+i<=i0/\Same H H2/\m=i,
  ⟨_,[],a,s,[],i0,t0,rfl,e1,rfl,fun j x st f1 f2=>?_,?_,hi0,g3,by simp,s1,rfl⟩,?_⟩
 ·cases j with
  | zero=>
   cases f1;cases f2;exact g2.ts (Same.ts s1)
  | succ j=>simp at f1
 ·have:=g3.step
  rw[<-this.2];exact .one this.1
 rintro m _ H2 ⟨vs,a,s,r,i,t,rfl,hw2,lv,at2,fw,hi,js,hle,s2,rfl⟩;have hst:StepT K H2 a s:=at2 vs.length a s (by simp) (by rw[lv,<-List.length_reverse];simp);rw[List.map_append]at hw2;walk_at "ev";refine q_ixL hw2 atI_last ?_;refine⟨_,_,_,_,rfl,rfl,hst.sq,ck.t_FIRST_STEP H2,rfl,rfl,?_⟩;rw[eq2];walk_at "ev";rcases js with ⟨_,rfl,rfl⟩ | ⟨p,q,l,rfl,h2,h3,h4⟩
 ·refine iteF' (by simp[FST]) ?_
  with_reducible refine s_seq ?_
  walk_at "ev"
  with_reducible refine s_bm0 ?_
  walk_at "ev";refine⟨ty_list hw2,q_reverse hw2 ?_⟩;walk_at "ev";rw[<-List.map_append]at hw2;have:=StepsAt.rev (S:=r.reverse++[FST]) hw2 (by simp[lv]) at2;rw[List.reverse_append,List.reverse_reverse]at this;rw[<-List.map_append];exact k w r _ hw fw (by omega) this fun b o e=>by rw[upd_ne (ne_of_none e hw)];exact s2 _ _ e
 ·rcases h4 with h4 | ⟨j,j1,j2,_⟩
  ·cases h4
  refine iteT' (by
   have:decide ((((p:Int),(q:Int)).1,((p:Int),(q:Int)).2)=FST)=false:=decide_eq_false fst_ne;rw[this];rfl) ?_
  rcases hst with hst | ⟨z,_⟩
  rotate_left
  ·exact(fst_ne z).elim
  refine⟨fun σ H3=>∃(m':Nat) (vs:List Addr) (a:Addr) (s:Stp) (r:List Stp) (i' t:Nat),σ=[some (.ref d),some (.int (t0:Int)),some (.ref w)]/\H3 w=some (.lst ((vs++[a]).map V.ref))/\vs.length=r.length/\(∀(j:Nat) x st,(vs++[a])[j]? = some x->(r.reverse++[s])[j]? = some st->StepT K H3 x st)/\Fw N s r t0/\S[i']? = some t/\Jst N (fun _=>false) (fun _=>false) S i' s t/\r.length+i'<=i0/\Same H H3/\m'=i'/\m'<m,?_,?_⟩
  ·rintro σ' H3 ⟨m',vs,a,s,r,i',t,e,q1,q2,q3,q4,q5,q6,q7,q8,q9,q10⟩
   exact⟨m',q10,vs,a,s,r,i',t,e,q1,q2,q3,q4,q5,q6,q7,q8,q9⟩
  walk_at "ev"
  with_reducible refine s_bm ?_
  walk_at "ev";refine⟨ty_list hw2,?_⟩;walk_at "ev"
  with_reducible refine s_dget ?_
  walk_at "ev";refine q_ixL hw2 atI_last ?_;walk_at "ev";refine q_ixT hst (atI0 _ _) ?_;obtain⟨a',s',y1,y2,y3⟩:=(hc.same s2).get j2;refine⟨d,_,rfl,y1,?_⟩;walk_at "ev";refine q_append hw2 (smallT (by rw[List.length_append,List.length_map];simp;omega)) ?_;have hw2':H2 w=some (.lst ((vs++[a]).map V.ref)):=by rw[List.map_append];exact hw2
  have sn:=snoc_steps (S:=r.reverse++[((p:Int),(q:Int))]) hw2' (by simp[lv]) at2 y2;obtain⟨vs',z1,z2,z3⟩:=sn.ex
  have ev:vs'=(vs++[a])++[a']:=by
   rw[upd_same]at z1;exact(List.map_inj_right (f:=V.ref) (fun a b h=>V.ref.inj h) |>.mp (HO.lst.inj (Option.some.inj z1))).symm
  subst ev;have ew:vs.map V.ref++List.map V.ref [a]++[V.ref a']=((vs++[a])++[a']).map V.ref:=by simp
  rw[ew];have hs':=y3.step;refine⟨_,vs++[a],a',s',((p:Int),(q:Int))::r,j,p,rfl,upd_same,by simp[lv],fun j x st f1 f2=>?_,.cons hs'.1 ?_ fw,j2,y3,by rw[List.length_cons];omega,fun b o e=>by rw[upd_ne (ne_of_none e hw)];exact s2 _ _ e,rfl,j1⟩
  ·refine z3 j x st f1 ?_
   rw[List.reverse_cons]at f2;exact f2
  ·rw[hs'.2]
theorem way_to_ok{K:PySem.W.Frag}{c:Cn}{H:Hp}{x:Addr}{N:List (List Nat)}{t0:Nat}{Q:VK}{E:XK}(ck:CnOk K c)(hp:PlanX c H x N)(hv:Valid N)(ht0:t0<N.length)
  (k:∀w r H',H w=none->Fw N FST r t0->r.length<=400->StepsAt K H' w (FST::r)->Same H H'->Q (.ref w) H'):sp_way_to K c [.ref x,.int (t0:Int)] H Q E:=by
 have h400:=hv.le;obtain⟨dx,fs,n,hx,hfn,hn⟩:=id hp;refine⟨rfl,?_⟩;unfold t_way_to
 with_reducible refine s_seq ?_
 walk_at "ev";refine disp0 (K:=K) fun d H1 hd1 e1 s1=>?_
 walk_at "ev"
 with_reducible refine s_seq ?_
 walk_at "ev";refine new_i (by simp) fun o H2 ho e2 s2=>?_
 walk_at "ev";have I2:CbI K H H2 d o N (fun _=>false) (fun _=>false) [0] _:=cb_start ck hv (s2 _ _ e1) e2 (s1.trans s2) hd1 (s1.free ho)
 with_reducible refine s_seq ?_
 walk_at "ev"
 with_reducible refine s_seq ?_
 with_reducible refine s_while ?_
 refine⟨fun m σ H4=>∃(y5 y6 y7:Option V) (S:List Nat) (kvs:List (Key×V)) (dn:Nat),σ=[some (.ref x),some (.int (t0:Int)),some (.ref d),some (.ref o),some (.int (dn:Int)),y5,y6,y7]/\CbI K H H4 d o N (fun _=>false) (fun _=>false) S kvs/\dn<=S.length/\(∀(j p:Nat) l,j<dn->S[j]? = some p->N[p]? = some l->∀t∈l,t∈S)/\m=N.length - dn,
  ⟨_,_,_,_,[0],_,0,rfl,I2,by omega,by omega,rfl⟩,?_⟩
 rintro m _ H4 ⟨y5,y6,y7,S,kvs,dn,rfl,I4,hdn,c4,rfl⟩;walk_at "ev"
 with_reducible refine s_dnotin ?_
 walk_at "ev";obtain⟨o',g1,g2⟩:=I4.cb.notin t0;refine⟨d,o',rfl,g1,?_⟩;rw[g2];walk_at "ev";have hSl:S.length<=N.length:=nd_le _ _ I4.cb.nd I4.cb.lt;by_cases hin:t0∈S
 ·refine iteF' (by rw[decide_eq_true hin];rfl) ?_
  walk_at "ev";obtain⟨i0,hi0⟩:=List.mem_iff_getElem?.mp hin;refine traced_ok ck I4.cb h400 hi0 fun w r H5 hw fw lr st s5=>?_
  exact k w r H5 (I4.same.free hw) fw lr st (I4.same.trans s5)
 ·refine iteT' (by rw[decide_eq_false hin];rfl) ?_
  have hlt:dn<S.length:=by
   refine Classical.byContradiction fun hno=>hin ?_
   have e:dn=S.length:=by omega
   have cl:∀z,Rc N z->z∈S:=by
    intro z h;induction h with
    | zero=>exact List.mem_of_getElem? I4.cb.z
    | @step a t l _ hl ht ih=>
     obtain⟨j,hj⟩:=List.mem_iff_getElem?.mp ih;have:=(List.getElem?_eq_some_iff.mp hj).1;exact c4 j a l (by omega) hj hl t ht
   exact cl t0 (hv.rc t0 ht0)
  obtain⟨p,hpS⟩:∃p,S[dn]? = some p:=⟨_,List.getElem?_eq_getElem hlt⟩;have hpn:=I4.cb.lt p (List.mem_of_getElem? hpS);refine⟨fun σ H5=>∃(m':Nat) (y5 y6 y7:Option V) (S:List Nat) (kvs:List (Key×V)) (dn':Nat),σ=[some (.ref x),some (.int (t0:Int)),some (.ref d),some (.ref o),some (.int (dn':Int)),y5,y6,y7]/\CbI K H H5 d o N (fun _=>false) (fun _=>false) S kvs/\dn'<=S.length/\(∀(j p:Nat) l,j<dn'->S[j]? = some p->N[p]? = some l->∀t∈l,t∈S)/\m'=N.length - dn'/\m'<N.length - dn,?_,?_⟩
  ·rintro σ' H5 ⟨m',y5,y6,y7,S,kvs,dn',e,r1,r2,r3,r4,r5⟩
   exact⟨m',r5,y5,y6,y7,S,kvs,dn',e,r1,r2,r3,r4⟩
  with_reducible refine s_seq ?_
  walk_at "ev";refine q_ixL I4.ho (IL_at hpS) ?_;walk_at "ev"
  with_reducible refine s_seq ?_
  with_reducible refine s_aug rfl ?_
  walk_at "ev";have e1:(dn:Int)+1=((dn+1:Nat):Int):=by omega
  rw[e1]
  with_reducible refine s_for (s_ienum ?_)
  walk_at "ev"
  with_reducible refine s_fld ?_
  walk_at "ev";refine⟨x,_,dx,fs,_,rfl,I4.same _ _ hx,ck.cls_Plan,ck.na_Plan_nexts,hfn,?_⟩;walk_at "ev";obtain⟨l,hle⟩:∃l,l=N[p]:=⟨_,rfl⟩;have hl:N[p]? = some l:=by rw[hle];exact at_len hpn
  obtain⟨xs,y,f1,f2,f3,_⟩:=hn.at hl;refine q_ixL (I4.same _ _ f1) f2 ?_;walk_at "ev";refine⟨y,rfl,⟨_,SqL.of (I4.same _ _ f3)⟩,?_⟩;have hlt':=hv.lt l (List.mem_of_getElem? hl);refine for_i l.length (fun i σ H'=>∃y6 y7 S' kvs',σ=[some (.ref x),some (.int (t0:Int)),some (.ref d),some (.ref o),some (.int ((dn+1:Nat):Int)),some (.int (p:Int)),y6,y7]/\CbI K H H' d o N (fun _=>false) (fun _=>false) S' kvs'/\(∃ext,S'=S++ext)/\∀t∈l.take i,t∈S') ?_ ?_ ?_ ?_
  ·exact⟨_,_,S,kvs,rfl,I4,⟨[],by simp⟩,by simp⟩
  ·rintro _ H' ⟨y6,y7,S',kvs',rfl,I',⟨ext,e'⟩,g'⟩
   rw[List.take_length]at g';refine⟨⟨_,SqL.of (I'.same _ _ f3),by rw[IL_len];exact Nat.le_refl _⟩,_,_,_,_,S',kvs',dn+1,rfl,I',by rw[e',List.length_append];omega,fun j p' l' hj hj2 hl' t ht=>?_,rfl,by omega⟩;have hj3:S[j]? = some p':=by rw[e',List.getElem?_append_left (by omega)]at hj2;exact hj2
   by_cases q:j=dn
   ·subst q
    rw[hpS]at hj3;cases hj3;rw[hl]at hl';cases hl';exact g' t ht
   ·rw[e'];exact List.mem_append_left _ (c4 j p' l' (by omega) hj3 hl' t ht)
  ·rintro i _ H' hi ⟨y6,y7,S',kvs',rfl,I',e',g'⟩
   exact⟨_,_,SqL.of (I'.same _ _ f3),by unfold IL;rw[List.getElem?_map,List.getElem?_eq_getElem hi];rfl⟩
  ·rintro i _ H' hi ⟨y6,y7,S',kvs',rfl,I',⟨ext,e'⟩,g'⟩ v H1 ⟨pp,w,hpp,rfl,rfl,gw⟩
   obtain⟨t,ht⟩:∃t,l[i]? = some t:=⟨_,List.getElem?_eq_getElem hi⟩;have gw:=gw _ (SqL.of (I'.same _ _ f3));unfold IL at gw;rw[List.getElem?_map,ht]at gw;cases gw;refine s_gpair (SqT.of upd_same) ?_;have I1:=I'.next (same_new (o:=.tup [V.int (i:Int),V.int (t:Int)]) hpp);refine cb_body (p:=p) (q:=i) (t:=t) (l:=l) rfl rfl rfl rfl rfl I1 hv.le hl ht (hlt' t (List.mem_of_getElem? ht)) (.inr ⟨dn,?_,rfl⟩) fun H2 S2 kvs2 I2 ⟨ext2,e2⟩ t2=>?_
   ·rw[e',List.getElem?_append_left hlt];exact hpS
   ·refine⟨_,_,S2,kvs2,rfl,I2,⟨ext++ext2,by rw[e2,e',List.append_assoc]⟩,fun u hu=>?_⟩
    rw[List.take_add_one,ht]at hu;rcases List.mem_append.mp hu with q | q
    ·rw[e2];exact List.mem_append_left _ (g' u q)
    ·have:u=t:=by simpa using q
     subst this;exact t2
end RD
namespace RD
open PySem PySem.Spec L2
structure Rdy(K:PySem.W.Frag)(c:Cn)(H:Hp)(rx x dd:Addr)(N:List (List Nat))(rs:List Addr)(ds:List V)(Do Sp:Nat->Bool)(S:List Nat):Prop where
 ex:∃dx d kvs,H rx=some (.ins c.C_Ready dx [("plan", .ref x),("deed", .ref dd),("come_by", .ref d)])/\CbK K H d N Do Sp S kvs
 plan:PlanR c H x N rs
 deed:DeedQ H dd ds
 sat:DSat H rs ds Do Sp
 shut:Shut N Do Sp S
theorem Rdy.same{K:PySem.W.Frag}{c:Cn}{H H':Hp}{rx x dd:Addr}{N:List (List Nat)}{rs:List Addr}{ds:List V}{Do Sp:Nat->Bool}{S:List Nat}(h:Rdy K c H rx x dd N rs ds Do Sp S)(s:Same H H'):Rdy K c H' rx x dd N rs ds Do Sp S:=by
 obtain⟨dx,d,kvs,h1,h2⟩:=h.ex;exact⟨⟨dx,d,kvs,s _ _ h1,h2.same s⟩,h.plan.same s,h.deed.ts (Same.ts s),h.sat.ts (Same.ts s),h.shut⟩
theorem comp_bl{K:PySem.W.Frag}{c:Cn}{H:Hp}{x:Addr}{N:List (List Nat)}{rs:List Addr}{f:Nat->Bool}{σ:St}{te:TE}{Q:VK}(ck:CnOk K c)(hp:PlanR c H x N rs)(hv:Valid N)(hσ:σ[1]? = some (some (.ref x)))
  (step:∀(p:Nat) rx H',rs[p]? = some rx->Same H H'->∀R:VK,(∀H'',Same H' H''->R (.bl (f p)) H'')->te (some (.ref rx)::σ) H' R)
  (k:∀D H',H D=none->H' D=some (.lst (BL N.length f))->Same H H'->Q (.ref D) H'):tComp (iList K (tFld K (tVar 1) "rows")) tTrue te σ H Q:=by
 have h400:=hv.le;obtain⟨dx,fs,n,r,hx,hfn,hn,hfr,hr,lr⟩:=hp.ex
 with_reducible refine s_comp (s_ilst ?_)
 with_reducible refine s_fld ?_
 with_reducible refine s_var hσ ?_
 refine⟨x,_,dx,fs,_,rfl,hx,ck.cls_Plan,ck.na_Plan_rows,hfr,?_⟩;refine⟨r,rfl,⟨_,SqL.of hr⟩,fun D hD=>?_⟩;refine comp_lst (xs:=rs.map V.ref) (fun i ys H8=>ys=BL i f/\H8 D=some (.lst ys)/\Same H H8) ?_ ?_ ?_ ?_ ?_
 ·exact⟨rfl,upd_same,same_new hD⟩
 ·rintro i ys H8 ⟨_,h,_⟩
  exact h
 ·rintro i ys H8 _ ⟨_,_,s8⟩
  exact SqL.of (s8 _ _ hr)
 ·rintro i y ys H8 hy ⟨rfl,hD8,s8⟩ R hR
  rw[List.getElem?_map]at hy;cases hrx:rs[i]? with
  | none=>rw[hrx]at hy;cases hy
  | some rx=>
   rw[hrx]at hy;cases hy;have hi:i<rs.length:=(List.getElem?_eq_some_iff.mp hrx).1;refine step i rx H8 hrx s8 _ fun H9 s9=>?_
   refine hR _ _ (s9 _ _ hD8) (smallT (by rw[BL_len];omega)) ⟨?_,upd_same,fun b o e=>?_⟩
   ·unfold BL
    rw[List.range_succ,List.map_append];rfl
   ·rw[upd_ne (ne_of_none e hD)];exact s9 _ _ (s8 _ _ e)
 ·rintro ys H8 ⟨rfl,hD8,s8⟩
  rw[List.length_map,lr]at hD8;exact k D H8 hD hD8 s8
theorem make_ready{K:PySem.W.Frag}{c:Cn}{H:Hp}{x dd:Addr}{N:List (List Nat)}{rs:List Addr}{ds:List V}{Do Sp:Nat->Bool}{σ:St}{a b:Nat}{Q:VK}(ck:CnOk K c)(hp:PlanR c H x N rs)(hv:Valid N)(hd:DeedQ H dd ds)(hs:DSat H rs ds Do Sp)(ea:σ[a]? = some (some (.ref x)))(eb:σ[b]? = some (some (.ref dd)))
  (k:∀rx H' S,H rx=none->Rdy K c H' rx x dd N rs ds Do Sp S->Same H H'->Q (.ref rx) H'):tMake c.C_Ready (sp_Ready_init K c) [] E0 (tCons (tVar a) (tCons (tVar b) tNil)) σ H Q:=by
 with_reducible refine s_make ?_
 refine s_cons (s_var ea (s_cons (s_var eb (s_nil ?_))));intro rx dx hrx hdx hne;refine⟨rfl,?_⟩;unfold t_Ready_init
 with_reducible refine s_seq ?_
 with_reducible refine s_sfld ?_
 walk_at "ev";refine⟨rx,_,dx,[],rfl,upd_same,ck.cls_Ready,ck.na_Ready_plan,by simp,?_⟩
 with_reducible refine s_seq ?_
 with_reducible refine s_sfld ?_
 walk_at "ev";refine⟨rx,_,dx,_,rfl,upd_same,ck.cls_Ready,ck.na_Ready_deed,by simp[putF],?_⟩;obtain⟨H3,hH3⟩:∃H3,H3=upd (upd (upd (upd H dx (.own rx)) rx (.ins c.C_Ready dx [])) rx (.ins c.C_Ready dx (putF "plan" (.ref x) []))) rx (.ins c.C_Ready dx (putF "deed" (.ref dd) (putF "plan" (.ref x) []))):=⟨_,rfl⟩;rw[<-hH3];have x3:H3 rx=some (.ins c.C_Ready dx (putF "deed" (.ref dd) (putF "plan" (.ref x) []))):=hH3 ▸ upd_same
 have s3:Same H H3:=fun b o e=>by
  have n1:=ne_of_none e hrx;rw[hH3,upd_ne n1,upd_ne n1,upd_ne n1,upd_ne (ne_of_none e hdx)];exact e
 have hs3:=hs.ts (Same.ts s3);have hd3:=hd.ts (Same.ts s3)
 with_reducible refine s_seq ?_
 refine s_setc ?_;refine comp_bl ck (hp.same s3) hv (f:=Do) rfl (fun p ax H4 hax s4 R hR=>?_) fun ma H4 hma e4 s4=>?_
 ·obtain⟨xs,x1,x2,x3⟩:=hs3 p ax hax
  walk_at "ev";refine does_rw (x1.ts (Same.ts s4)) (hd3.ts (Same.ts s4)) ?_;rw[doesV_ts x1.2 (Same.ts s4),x2];exact hR H4 (Same.refl _)
 have s04:=s3.trans s4
 with_reducible refine s_sfld ?_
 walk_at "ev";refine comp_bl ck (hp.same s04) hv (f:=Sp) rfl (fun p ax H5 hax s5 R hR=>?_) fun br H5 hbr e5 s5=>?_
 ·obtain⟨xs,x1,x2,x3⟩:=hs3 p ax hax
  walk_at "ev";refine spoils_rw (x1.ts (Same.ts (s4.trans s5))) (hd3.ts (Same.ts (s4.trans s5))) fun H6 s6=>?_
  rw[x3];exact hR H6 s6
 walk_at "ev";have s35:=s4.trans s5;refine unready_steps_ok ck (hp.same (s3.trans s35)) hv (s5 _ _ e4) e5 fun d H6 S kvs cb sh s6=>?_
 walk_at "ev";have x4:=s6 _ _ (s35 _ _ x3);refine⟨rx,_,dx,_,rfl,x4,ck.cls_Ready,ck.na_Ready_come_by,(by show(2:Nat)<1000;decide),?_⟩;obtain⟨H5',hH5⟩:∃H5',H5'=upd H6 rx (.ins c.C_Ready dx (putF "come_by" (.ref d) (putF "deed" (.ref dd) (putF "plan" (.ref x) [])))):=⟨_,rfl⟩;rw[<-hH5];have s5':Same H H5':=fun b o e=>by rw[hH5,upd_ne (ne_of_none e hrx)];exact s6 _ _ (s35 _ _ (s3 _ _ e))
 have t5:TSame H6 H5':=hH5 ▸ TSame.ins x4;refine⟨rfl,k rx H5' S hrx ⟨⟨dx,d,kvs,?_,?_⟩,hp.same s5',hd.ts (Same.ts s5'),hs.ts (Same.ts s5'),sh⟩ s5'⟩
 ·rw[hH5,upd_same];rfl
 ·refine⟨?_,cb.nd,cb.lt,cb.len,cb.z,fun i t e=>?_⟩
  ·rw[hH5,upd_ne (ne_of cb.hd x4 (by intro z;cases z))];exact cb.hd
  ·obtain⟨a,s,q1,q2,q3⟩:=cb.at_ i t e
   exact⟨a,s,q1,q2.ts t5,q3⟩
theorem ready_at_ok{K:PySem.W.Frag}{c:Cn}{H:Hp}{rx x dd:Addr}{N:List (List Nat)}{rs:List Addr}{ds:List V}{Do Sp:Nat->Bool}{S:List Nat}{t:Nat}{Q:VK}{E:XK}(ck:CnOk K c)(h:Rdy K c H rx x dd N rs ds Do Sp S)(k:Q (.bl (!decide (t∈S))) H):sp_Ready_ready_at K [.ref rx,.int (t:Int)] H Q E:=by
 obtain⟨dx,d,kvs,h1,cb⟩:=h.ex;refine⟨rfl,?_⟩;unfold t_Ready_ready_at;walk_at "ev"
 with_reducible refine s_dnotin ?_
 walk_at "ev"
 with_reducible refine s_fld ?_
 walk_at "ev";refine⟨rx,_,dx,_,_,rfl,h1,ck.cls_Ready,ck.na_Ready_come_by,rfl,?_⟩;obtain⟨o',g1,g2⟩:=cb.notin t;refine⟨d,o',rfl,g1,?_⟩;rw[g2];exact k
def beh(Do Sp:Nat->Bool)(S:List Nat)(p:Nat):Bool:=if Sp p=true then false else (Do p || !decide (p∈S))
theorem ready_behind_ok{K:PySem.W.Frag}{c:Cn}{H:Hp}{rx x dd:Addr}{N:List (List Nat)}{rs:List Addr}{ds:List V}{Do Sp:Nat->Bool}{S:List Nat}{p:Nat}{Q:VK}{E:XK}(ck:CnOk K c)(h:Rdy K c H rx x dd N rs ds Do Sp S)(hp:p<N.length)(k:∀H',Same H H'->Q (.bl (beh Do Sp S p)) H'):sp_Ready_ready_behind K c [.ref rx,.int (p:Int)] H Q E:=by
 obtain⟨dx,d,kvs,h1,cb⟩:=h.ex;obtain⟨dx',fs,n,r,hx,hfn,hn,hfr,hr,lr⟩:=h.plan.ex;obtain⟨ax,hax⟩:∃ax,rs[p]? = some ax:=⟨_,List.getElem?_eq_getElem (by omega)⟩;obtain⟨xs,x1,x2,x3⟩:=h.sat p ax hax;refine⟨rfl,?_⟩;unfold t_Ready_ready_behind
 with_reducible refine s_seq ?_
 walk_at "ev"
 with_reducible refine s_fld ?_
 with_reducible refine s_fld ?_
 walk_at "ev";refine⟨rx,_,dx,_,_,rfl,h1,ck.cls_Ready,ck.na_Ready_plan,rfl,?_⟩;refine⟨x,_,dx',fs,_,rfl,hx,ck.cls_Plan,ck.na_Plan_rows,hfr,?_⟩;walk_at "ev";refine q_ixL hr (atI_nat (by rw[List.getElem?_map,hax];rfl)) ?_;walk_at "ev"
 with_reducible refine s_seq ?_
 walk_at "ev"
 with_reducible refine s_fld ?_
 walk_at "ev";refine⟨rx,_,dx,_,_,rfl,h1,ck.cls_Ready,ck.na_Ready_deed,rfl,?_⟩;walk_at "ev";refine spoils_rw x1 h.deed fun H1 s1=>?_
 walk_at "ev";rw[x3];unfold beh at k;cases hSp:Sp p with
 | true=>
  refine iteT' rfl ?_;walk_at "ev";have:=k H1 s1;rw[if_pos hSp]at this;exact this
 | false=>
  refine iteF' rfl ?_;walk_at "ev"
  with_reducible refine s_fld ?_
  walk_at "ev";refine⟨rx,_,dx,_,_,rfl,s1 _ _ h1,ck.cls_Ready,ck.na_Ready_deed,rfl,?_⟩;walk_at "ev";refine does_rw (x1.ts (Same.ts s1)) (h.deed.ts (Same.ts s1)) ?_;rw[doesV_ts x1.2 (Same.ts s1),x2];walk_at "ev";have kk:=k H1 s1;rw[if_neg (by rw[hSp];intro z;cases z)]at kk;cases hDo:Do p with
  | true=>
   refine iteT' rfl ?_;rw[hDo]at kk;exact kk
  | false=>
   refine iteF' rfl ?_;walk_at "ev"
   with_reducible refine s_meth ?_
   walk_at "ev";refine⟨rx,dx,_,rfl,s1 _ _ h1,rfl,?_⟩;walk_at "ev";refine ready_at_ok ck (h.same s1) ?_;rw[hDo]at kk;exact kk
def onF(Do Sp:Nat->Bool)(S:List Nat)(s:Stp):Bool := !decide (s=FST)&&beh Do Sp S s.1.toNat
theorem ready_on_ok{K:PySem.W.Frag}{c:Cn}{H:Hp}{rx x dd a:Addr}{N:List (List Nat)}{rs:List Addr}{ds:List V}{Do Sp:Nat->Bool}{S:List Nat}{s:Stp}{Q:VK}{E:XK}(ck:CnOk K c)(h:Rdy K c H rx x dd N rs ds Do Sp S)(ha:StepT K H a s)(hs:IsStep N s)(k:∀H',Same H H'->Q (.bl (onF Do Sp S s)) H'):sp_Ready_ready_on K c [.ref rx,.ref a] H Q E:=by
 obtain⟨dx,d,kvs,h1,cb⟩:=h.ex;refine⟨rfl,?_⟩;unfold t_Ready_ready_on;walk_at "ev";refine⟨_,_,_,_,rfl,rfl,ha.sq,ck.t_FIRST_STEP H,rfl,rfl,?_⟩;rw[eq2];walk_at "ev";rcases hs with rfl | ⟨p,q,l,t,rfl,hl,hq⟩
 ·refine iteF' rfl ?_
  exact k H (Same.refl H)
 ·refine iteT' (by
   have:decide ((((p:Int),(q:Int)).1,((p:Int),(q:Int)).2)=FST)=false:=decide_eq_false fst_ne;rw[this];rfl) ?_
  rcases ha with ha | ⟨z,_⟩
  rotate_left
  ·exact(fst_ne z).elim
  walk_at "ev"
  with_reducible refine s_meth ?_
  walk_at "ev";refine⟨rx,dx,_,rfl,h1,rfl,?_⟩;walk_at "ev";refine q_ixT ha (atI0 _ _) ?_;walk_at "ev";refine ready_behind_ok ck h (List.getElem?_eq_some_iff.mp hl).1 fun H' s'=>?_
  have:=k H' s';unfold onF at this;rw[decide_eq_false fst_ne]at this;exact this
theorem begins_unready_ok{K:PySem.W.Frag}{c:Cn}{H:Hp}{rx x dd a:Addr}{N:List (List Nat)}{rs:List Addr}{ds:List V}{Do Sp:Nat->Bool}{S:List Nat}{s:Stp}{Q:VK}{E:XK}(ck:CnOk K c)(h:Rdy K c H rx x dd N rs ds Do Sp S)(ha:StepT K H a s)(hs:IsStep N s)(k:∀H',Same H H'->Q (.bl (decide (s=FST)||Sp s.1.toNat)) H'):sp_Ready_begins_unready K c [.ref rx,.ref a] H Q E:=by
 obtain⟨dx,d,kvs,h1,cb⟩:=h.ex;obtain⟨dx',fs,n,r,hx,hfn,hn,hfr,hr,lr⟩:=h.plan.ex;refine⟨rfl,?_⟩;unfold t_Ready_begins_unready;walk_at "ev";refine⟨_,_,_,_,rfl,rfl,ha.sq,ck.t_FIRST_STEP H,rfl,rfl,?_⟩;rw[eq2];walk_at "ev";rcases hs with rfl | ⟨p,q,l,t,rfl,hl,hq⟩
 ·refine iteT' rfl ?_
  exact k H (Same.refl H)
 ·refine iteF' (by
   have:decide ((((p:Int),(q:Int)).1,((p:Int),(q:Int)).2)=FST)=false:=decide_eq_false fst_ne;rw[this]) ?_
  rcases ha with ha | ⟨z,_⟩
  rotate_left
  ·exact(fst_ne z).elim
  have hpn:=(List.getElem?_eq_some_iff.mp hl).1;obtain⟨ax,hax⟩:∃ax,rs[p]? = some ax:=⟨_,List.getElem?_eq_getElem (by omega)⟩;obtain⟨xs,x1,x2,x3⟩:=h.sat p ax hax;walk_at "ev"
  with_reducible refine s_fld ?_
  with_reducible refine s_fld ?_
  walk_at "ev";refine⟨rx,_,dx,_,_,rfl,h1,ck.cls_Ready,ck.na_Ready_plan,rfl,?_⟩;refine⟨x,_,dx',fs,_,rfl,hx,ck.cls_Plan,ck.na_Plan_rows,hfr,?_⟩;walk_at "ev";refine q_ixT ha (atI0 _ _) ?_;walk_at "ev";refine q_ixL hr (atI_nat (by rw[List.getElem?_map,hax];rfl)) ?_;walk_at "ev"
  with_reducible refine s_fld ?_
  walk_at "ev";refine⟨rx,_,dx,_,_,rfl,h1,ck.cls_Ready,ck.na_Ready_deed,rfl,?_⟩;walk_at "ev";refine spoils_rw x1 h.deed fun H1 s1=>?_
  rw[x3];have:=k H1 s1;rw[decide_eq_false fst_ne]at this;exact this
end RD
namespace RD
open PySem PySem.Spec L2
def lieF(Do Sp:Nat->Bool):Bool->List Nat->Bool
 | b,[]=>b
 | b,p::ps=>lieF Do Sp (if Sp p=true then false else if Do p=true then true else b) ps
theorem lieF_app{Do Sp:Nat->Bool}(xs ys:List Nat):∀b,lieF Do Sp b (xs++ys)=lieF Do Sp (lieF Do Sp b xs) ys:=by
 induction xs with
 | nil=>exact fun _=>rfl
 | cons x xs ih=>exact fun b=>ih _
theorem lieF_low{Do Sp:Nat->Bool}{xs:List Nat}(h:∀p∈xs,Do p=false/\Sp p=false)(b:Bool):lieF Do Sp b xs=b:=by
 induction xs generalizing b with
 | nil=>rfl
 | cons x xs ih=>
  have:=h x (List.mem_cons_self ..);unfold lieF;rw[this.1,this.2];exact ih (fun p hp=>h p (List.mem_cons_of_mem _ hp)) b
def begF(r:List Stp):List Nat:=r.map fun s=>s.1.toNat
theorem StepsAt.app{K:PySem.W.Frag}{H:Hp}{w:Addr}{S1 S2:List Stp}{v1 v2:List Addr}(h:H w=some (.lst (v1.map V.ref++v2.map V.ref)))(l1:v1.length=S1.length)(l2:v2.length=S2.length)(a1:∀(i:Nat) x s,v1[i]? = some x->S1[i]? = some s->StepT K H x s)(a2:∀(i:Nat) x s,v2[i]? = some x->S2[i]? = some s->StepT K H x s):StepsAt K H w (S1++S2):=by
 refine⟨v1++v2,by rw[List.map_append];exact h,by simp[l1,l2],fun i x s f1 f2=>?_⟩;by_cases q:i<v1.length
 ·rw[List.getElem?_append_left q]at f1
  rw[List.getElem?_append_left (by omega)]at f2;exact a1 i x s f1 f2
 ·rw[List.getElem?_append_right (by omega)]at f1
  rw[List.getElem?_append_right (by omega),<-l1]at f2;exact a2 _ x s f1 f2
theorem way_unready_ok{K:PySem.W.Frag}{c:Cn}{H:Hp}{rx x dd:Addr}{N:List (List Nat)}{rs:List Addr}{ds:List V}{Do Sp:Nat->Bool}{S:List Nat}{t0:Nat}{Q:VK}{E:XK}(ck:CnOk K c)(hR:Rdy K c H rx x dd N rs ds Do Sp S)(hv:Valid N)(ht0:t0∈S)
  (k:∀w r H',H w=none->Fw N FST r t0->r.length<=900->StepsAt K H' w (FST::r)->lieF Do Sp false (begF r)=false->Same H H'->Q (.ref w) H'):sp_Ready_way_unready K c [.ref rx,.int (t0:Int)] H Q E:=by
 have h400:=hv.le;obtain⟨dx,d,kvs,h1,cb⟩:=hR.ex;refine⟨rfl,?_⟩;unfold t_Ready_way_unready
 with_reducible refine s_seq ?_
 walk_at "ev"
 with_reducible refine s_meth ?_
 walk_at "ev";refine⟨rx,dx,_,rfl,h1,rfl,?_⟩;walk_at "ev";refine ready_at_ok ck hR ?_;walk_at "ev";refine iteF' (by rw[decide_eq_true ht0];rfl) ?_;walk_at "ev"
 with_reducible refine s_seq ?_
 walk_at "ev"
 with_reducible refine s_dget ?_
 with_reducible refine s_fld ?_
 walk_at "ev";refine⟨rx,_,dx,_,_,rfl,h1,ck.cls_Ready,ck.na_Ready_come_by,rfl,?_⟩;walk_at "ev";obtain⟨i0,hi0⟩:=List.mem_iff_getElem?.mp ht0;obtain⟨a,s,g1,g2,g3⟩:=cb.get hi0;refine⟨d,_,rfl,g1,?_⟩;walk_at "ev";refine new_i (by simp) fun w H1 hw e1 s1=>?_
 walk_at "ev";have hSl:S.length<=N.length:=nd_le _ _ cb.nd cb.lt;have hi0l:=(List.getElem?_eq_some_iff.mp hi0).1
 with_reducible refine s_seq ?_
 with_reducible refine s_while ?_
 refine⟨fun m σ H2=>∃(vs:List Addr) (a:Addr) (s:Stp) (r:List Stp) (i t:Nat),σ=[some (.ref rx),some (.int (t0:Int)),some (.ref w)]/\H2 w=some (.lst ((vs++[a]).map V.ref))/\vs.length=r.length/\(∀(j:Nat) x st,(vs++[a])[j]? = some x->(r.reverse++[s])[j]? = some st->StepT K H2 x st)/\Fw N s r t0/\S[i]? = some t/\Jst N Do Sp S i s t/\r.length+i<=i0/\Same H H2/\(∀st∈r,Do st.1.toNat=false/\Sp st.1.toNat=false)/\m=i,
  ⟨_,[],a,s,[],i0,t0,rfl,e1,rfl,fun j x st f1 f2=>?_,?_,hi0,g3,by simp,s1,by simp,rfl⟩,?_⟩
 ·cases j with
  | zero=>
   cases f1;cases f2;exact g2.ts (Same.ts s1)
  | succ j=>simp at f1
 ·have:=g3.step
  rw[<-this.2];exact .one this.1
 rintro m _ H2 ⟨vs,a,s,r,i,t,rfl,hw2,lv,at2,fw,hi,js,hle,s2,low,rfl⟩;have hst:StepT K H2 a s:=at2 vs.length a s (by simp) (by rw[lv,<-List.length_reverse];simp);rw[List.map_append]at hw2;have hR2:=hR.same s2;walk_at "ev"
 with_reducible refine s_meth ?_
 walk_at "ev";refine⟨rx,dx,_,rfl,s2 _ _ h1,rfl,?_⟩;walk_at "ev";refine q_ixL hw2 atI_last ?_;walk_at "ev";refine begins_unready_ok ck hR2 hst js.step.1 fun H3 s3=>?_
 walk_at "ev";have hw3:=s3 _ _ hw2;have st3:StepT K H3 a s:=hst.ts (Same.ts s3);have at3:∀(j:Nat) x st,(vs++[a])[j]? = some x->(r.reverse++[s])[j]? = some st->StepT K H3 x st:=fun j x st f1 f2=>(at2 j x st f1 f2).ts (Same.ts s3)
 have s03:=s2.trans s3
 have hSs:s=FST\/∃p q:Nat,s=((p:Int),(q:Int)):=by
  rcases js with ⟨_,rfl,_⟩ | ⟨p,q,l,rfl,_⟩
  ·exact .inl rfl
  ·exact .inr ⟨p,q,rfl⟩
 cases hb:(decide (s=FST)||Sp s.1.toNat)with
 | true=>
  refine iteF' rfl ?_
  with_reducible refine s_seq ?_
  walk_at "ev"
  with_reducible refine s_bm0 ?_
  walk_at "ev";refine⟨ty_list hw3,q_reverse hw3 ?_⟩;walk_at "ev";rw[<-List.map_append]at hw3;have:=StepsAt.rev (S:=r.reverse++[s]) hw3 (by simp[lv]) at3;rw[List.reverse_append,List.reverse_reverse]at this;rw[<-List.map_append];obtain⟨H4,hH4⟩:∃H4,H4=upd H3 w (.lst ((vs++[a]).map V.ref).reverse):=⟨_,rfl⟩;rw[<-hH4]at this ⊢;have s04:Same H H4:=fun b o e=>by rw[hH4,upd_ne (ne_of_none e hw)];exact s03 _ _ e
  obtain⟨v1,f1,f2,f3⟩:=this.ex
  obtain⟨b0,v1',rfl⟩:∃b0 v1',v1=b0::v1':=by
   cases v1 with
   | nil=>simp at f2
   | cons b0 v1'=>exact⟨_,_,rfl⟩
  have st4:StepT K H4 b0 s:=f3 0 b0 s rfl rfl
  with_reducible refine s_seq ?_
  walk_at "ev";refine q_ixL f1 (atI0 _ _) ?_;refine⟨_,_,_,_,rfl,rfl,st4.sq,ck.t_FIRST_STEP H4,rfl,rfl,?_⟩;rw[eq2];walk_at "ev";by_cases hF:s=FST
  ·refine iteT' (decide_eq_true hF) ?_
   walk_at "ev";subst hF;refine k w r H4 hw fw (by omega) this (lieF_low (fun p hp=>?_) _) s04;unfold begF at hp;obtain⟨st,h,rfl⟩:=List.mem_map.mp hp;exact low st h
  ·refine iteF' (decide_eq_false hF) ?_
   rcases hSs with z | ⟨p,q,rfl⟩
   ·exact(hF z).elim
   rw[decide_eq_false hF]at hb;have hSp:Sp p=true:=hb;walk_at "ev"
   with_reducible refine s_fld ?_
   walk_at "ev";refine⟨rx,_,dx,_,_,rfl,s04 _ _ h1,ck.cls_Ready,ck.na_Ready_plan,rfl,?_⟩;walk_at "ev";refine q_ixL f1 (atI0 _ _) ?_;walk_at "ev";rcases st4 with st4 | ⟨z,_⟩
   rotate_left
   ·exact(hF z).elim
   refine q_ixT st4 (atI0 _ _) ?_;walk_at "ev"
   have hpn:p<N.length:=by
    rcases js with ⟨_,z,_⟩ | ⟨p',q',l,e,h2,_⟩
    ·exact(hF z).elim
    ·have:=congrArg Prod.fst e
     have this:(p:Int)=(p':Int):=this;obtain rfl:p=p':=by omega
     exact(List.getElem?_eq_some_iff.mp h2).1
   refine way_to_ok ck (hR.plan.same s04).x hv hpn fun w1 r1 H5 hw1 fw1 lr1 sa1 s5=>?_
   walk_at "ev";obtain⟨u1,y1,y2,y3⟩:=sa1.ex;have f1':=s5 _ _ f1;refine q_addL y1 f1' ?_;refine new_i (Nat.le_of_lt (by rw[List.length_map,List.length_map,y2,f2,List.length_cons];show r1.length+1+(r.length+1)<100000;omega)) fun y H6 hy e6 s6=>?_
   have fwA:=Fw.app fw1 rfl fw;refine k y (r1++((p:Int),(q:Int))::r) H6 ?_ fwA (by rw[List.length_append,List.length_cons];omega) ?_ ?_ ((s04.trans s5).trans s6)
   ·exact(s04.trans s5).free hy
   ·have:=StepsAt.app (K:=K) (S1:=FST::r1) (S2:=((p:Int),(q:Int))::r) e6 y2 f2 (fun i x s a b=>(y3 i x s a b).ts (Same.ts s6)) (fun i x s a b=>(f3 i x s a b).ts (Same.ts (s5.trans s6)))
    exact this
   ·unfold begF
    rw[List.map_append,lieF_app,List.map_cons];unfold lieF;rw[if_pos (show Sp (((p:Int),(q:Int)):Stp).1.toNat=true from hSp)];refine lieF_low (fun p hp=>?_) _;obtain⟨st,h,rfl⟩:=List.mem_map.mp hp;exact low st h
 | false=>
  rw[Bool.or_eq_false_iff]at hb;rcases js with ⟨_,rfl,rfl⟩ | ⟨p,q,l,rfl,h2,h3,h4⟩
  ·exact absurd hb.1 (by decide)
  have hSp:Sp p=false:=hb.2;rcases h4 with h4 | ⟨j,j1,j2,j3⟩
  ·rw[hSp]at h4;cases h4
  refine iteT' rfl ?_;rcases st3 with st3 | ⟨z,_⟩
  rotate_left
  ·exact(fst_ne z).elim
  refine⟨fun σ H3=>∃(m':Nat) (vs:List Addr) (a:Addr) (s:Stp) (r:List Stp) (i' t:Nat),σ=[some (.ref rx),some (.int (t0:Int)),some (.ref w)]/\H3 w=some (.lst ((vs++[a]).map V.ref))/\vs.length=r.length/\(∀(j:Nat) x st,(vs++[a])[j]? = some x->(r.reverse++[s])[j]? = some st->StepT K H3 x st)/\Fw N s r t0/\S[i']? = some t/\Jst N Do Sp S i' s t/\r.length+i'<=i0/\Same H H3/\(∀st∈r,Do st.1.toNat=false/\Sp st.1.toNat=false)/\m'=i'/\m'<m,?_,?_⟩
  ·rintro σ' H3 ⟨m',vs,a,s,r,i',t,e,q1,q2,q3,q4,q5,q6,q7,q8,q9,q10,q11⟩
   exact⟨m',q11,vs,a,s,r,i',t,e,q1,q2,q3,q4,q5,q6,q7,q8,q9,q10⟩
  walk_at "ev"
  with_reducible refine s_bm ?_
  walk_at "ev";refine⟨ty_list hw3,?_⟩;walk_at "ev"
  with_reducible refine s_dget ?_
  with_reducible refine s_fld ?_
  walk_at "ev";refine⟨rx,_,dx,_,_,rfl,s03 _ _ h1,ck.cls_Ready,ck.na_Ready_come_by,rfl,?_⟩;walk_at "ev";refine q_ixL hw3 atI_last ?_;walk_at "ev";refine q_ixT st3 (atI0 _ _) ?_;obtain⟨a',s',y1,y2,y3⟩:=(cb.same s03).get j2;refine⟨d,_,rfl,y1,?_⟩;walk_at "ev";refine q_append hw3 (smallT (by rw[List.length_append,List.length_map];simp;omega)) ?_;have hw3':H3 w=some (.lst ((vs++[a]).map V.ref)):=by rw[List.map_append];exact hw3
  have sn:=snoc_steps (S:=r.reverse++[((p:Int),(q:Int))]) hw3' (by simp[lv]) at3 y2;obtain⟨vs',z1,z2,z3⟩:=sn.ex
  have ev:vs'=(vs++[a])++[a']:=by
   rw[upd_same]at z1;exact(List.map_inj_right (f:=V.ref) (fun a b h=>V.ref.inj h) |>.mp (HO.lst.inj (Option.some.inj z1))).symm
  subst ev;have ew:vs.map V.ref++List.map V.ref [a]++[V.ref a']=((vs++[a])++[a']).map V.ref:=by simp
  rw[ew];have hs':=y3.step;refine⟨_,vs++[a],a',s',((p:Int),(q:Int))::r,j,p,rfl,upd_same,by simp[lv],fun j x st f1 f2=>?_,.cons hs'.1 ?_ fw,j2,y3,by rw[List.length_cons];omega,fun b o e=>by rw[upd_ne (ne_of_none e hw)];exact s03 _ _ e,fun st h=>?_,rfl,j1⟩
  ·refine z3 j x st f1 ?_
   rw[List.reverse_cons]at f2;exact f2
  ·rw[hs'.2]
  ·rcases List.mem_cons.mp h with rfl | h
   ·exact⟨j3,hSp⟩
   ·exact low st h
end RD
namespace RD
open PySem PySem.Spec L2
theorem lead_at{N:List (List Nat)}{p q:Nat}{l:List Nat}{t:Nat}(h1:N[p]? = some l)(h2:l[q]? = some t):leadF N ((p:Int),(q:Int))=t:=by
 unfold leadF;rw[if_neg fst_ne];show(N.getD (p:Int).toNat []).getD (q:Int).toNat 0=t;rw[Int.toNat_natCast,Int.toNat_natCast];simp[List.getD,h1,h2]
theorem IL_app(a b:List Nat):IL (a++b)=IL a++IL b:=by unfold IL;rw[List.map_append]
end RD
namespace RD
open PySem PySem.Spec L2
theorem mem_steps{N:List (List Nat)}{s:Stp}(h:IsStep N s):s∈stepsF N:=by
 rcases h with rfl | ⟨p,q,l,t,rfl,h1,h2⟩
 ·exact List.mem_cons_self ..
 ·refine List.mem_cons_of_mem _ (List.mem_flatMap.mpr ⟨p,List.mem_range.mpr (List.getElem?_eq_some_iff.mp h1).1,?_⟩)
  unfold stepsOn;refine List.mem_map.mpr ⟨q,List.mem_range.mpr ?_,rfl⟩;simp only[List.getD,h1,Option.getD_some];exact(List.getElem?_eq_some_iff.mp h2).1
theorem ty_bool{H:Hp}{b:Bool}{Q:VK}(k:Q (.bl true) H):qIsi [.bl b,.ty "bool"] H Q:=q_isi (s := "bool") rfl (by decide) k
end RD
namespace RD
open PySem PySem.Spec L2
theorem names3(r n e:Addr)(m:Str)(h:m∉(["rows", "nexts", "entries"]:List Str)):([("rows", .ref r),("nexts", .ref n),("entries", .ref e)]:List (Str×V)).lookup m=none:=by
 rw[List.lookup_eq_none_iff];intro p hp;simp only[List.mem_cons,List.not_mem_nil,or_false]at h hp;rcases hp with rfl | rfl | rfl
 ·simp;intro z;exact h (.inl z)
 ·simp;intro z;exact h (.inr (.inl z))
 ·simp;intro z;exact h (.inr (.inr z))
theorem plan_stops_ok{K:PySem.W.Frag}{c:Cn}{H:Hp}{x:Addr}{N:List (List Nat)}{Q:VK}{E:XK}(ck:CnOk K c)(hp:PlanAt K c H x N)(hv:Valid N)
  (k:∀a H',H a=none->H' a=some (.lst (IL (stopsF N)))->Same H H'->Q (.ref a) H'):sp_Plan_stops K [.ref x] H Q E:=by
 obtain⟨dx,fs,n,hx,hf,hn⟩:=hp.x;refine⟨rfl,?_⟩;unfold t_Plan_stops;walk_at "ev"
 with_reducible refine s_fld ?_
 walk_at "ev";refine⟨x,_,dx,fs,_,rfl,hx,ck.cls_Plan,ck.na_Plan_nexts,hf,?_⟩;walk_at "ev";exact stops_of_ok hn hv.le k
theorem plan_into_ok{K:PySem.W.Frag}{c:Cn}{H:Hp}{x:Addr}{N:List (List Nat)}{t:Nat}{Q:VK}{E:XK}(ck:CnOk K c)(hp:PlanAt K c H x N)(ht:t<N.length)
  (k:∀a H',H a=none->StepsAt K H' a ((stepsF N).filter fun s=>decide (leadF N s=t))->Same H H'->Q (.ref a) H'):sp_Plan_steps_into K [.ref x,.int (t:Int)] H Q E:=by
 obtain⟨dx,r,n,e,es,h1,_,_,h4,h5,h6⟩:=hp.ex;refine⟨rfl,?_⟩;unfold t_Plan_steps_into;walk_at "ev"
 with_reducible refine s_fld ?_
 walk_at "ev";refine⟨x,_,dx,_,.ref e,rfl,h1,ck.cls_Plan,ck.na_Plan_entries,rfl,?_⟩;walk_at "ev";obtain⟨y,hy⟩:∃y,es[t]? = some y:=⟨_,List.getElem?_eq_getElem (by omega)⟩;refine q_ixL h4 (atI_nat (by rw[List.getElem?_map,hy];rfl)) ?_;walk_at "ev";obtain⟨vs,v1,v2,v3⟩:=(h6 t y hy).ex;refine q_listL v1 fun l H' hl e' s'=>?_
 exact k l H' hl ⟨vs,e',v2,fun i x s a b=>(v3 i x s a b).ts (Same.ts s')⟩ s'
end RD
namespace RD
open PySem PySem.Spec L2
def EndP(N:List (List Nat))(Do Sp:Nat->Bool)(t:Nat):Prop:=Do t=false/\(Sp t=true\/N[t]? = some [])
def Jgb(K:PySem.W.Frag)(H:Hp)(N:List (List Nat))(Do Sp:Nat->Bool)(S:List Nat)(i t:Nat)(v:V):Prop:=
 (v=.non/\EndP N Do Sp t)\/∃(a:Addr) (q:Nat) (l:List Nat) (u j:Nat),v=.ref a/\StepT K H a ((t:Int),(q:Int))/\N[t]? = some l/\l[q]? = some u/\S[j]? = some u/\j<i/\Do t=false
theorem Jgb.grow{K:PySem.W.Frag}{H H':Hp}{N:List (List Nat)}{Do Sp:Nat->Bool}{S ext:List Nat}{i t:Nat}{v:V}(h:Jgb K H N Do Sp S i t v)(ts:TSame H H'):Jgb K H' N Do Sp (S++ext) i t v:=by
 rcases h with h | ⟨a,q,l,u,j,h1,h2,h3,h4,h5,h6,h7⟩
 ·exact .inl h
 ·exact .inr ⟨a,q,l,u,j,h1,h2.ts ts,h3,h4,by rw[List.getElem?_append_left (List.getElem?_eq_some_iff.mp h5).1];exact h5,h6,h7⟩
structure GbK(K:PySem.W.Frag)(H:Hp)(d:Addr)(N:List (List Nat))(Do Sp:Nat->Bool)(S:List Nat)(kvs:List (Key×V)):Prop where
 hd:H d=some (.dK kvs)
 nd:S.Nodup
 lt:∀t∈S,t<N.length
 len:kvs.length=S.length
 at_:∀(i:Nat) t,S[i]? = some t->∃v,kvs[i]? = some (Sum.inl (t:Int),v)/\Jgb K H N Do Sp S i t v
section
variable {K:PySem.W.Frag}{H H':Hp}{d:Addr}{N:List (List Nat)}{Do Sp:Nat->Bool}{S:List Nat}{kvs:List (Key×V)}
theorem GbK.keys(h:GbK K H d N Do Sp S kvs):kvs.map (·.1)=S.map fun(t:Nat)=>(Sum.inl (t:Int):Key):=by
 apply List.ext_getElem?;intro i;rw[List.getElem?_map,List.getElem?_map];cases e:S[i]? with
 | none=>
  have:kvs[i]? = none:=by
   rw[List.getElem?_eq_none_iff]at e ⊢;have:=h.len;omega
  rw[this];rfl
 | some t=>
  obtain⟨v,q,_⟩:=h.at_ i t e;rw[q];rfl
theorem GbK.ndk(h:GbK K H d N Do Sp S kvs):(kvs.map (·.1)).Nodup:=by
 rw[h.keys];refine List.Pairwise.map _ (fun a b hab z=>hab ?_) h.nd;have:=Sum.inl.inj z;omega
theorem GbK.in_(h:GbK K H d N Do Sp S kvs)(t:Nat):(valV kvs (Sum.inl (t:Int))).isSome=decide (t∈S):=by
 by_cases ht:t∈S
 ·rw[decide_eq_true ht]
  obtain⟨i,hi⟩:=List.mem_iff_getElem?.mp ht;obtain⟨v,q,_⟩:=h.at_ i t hi;rw[valV_mem h.ndk (List.mem_of_getElem? q)];rfl
 ·rw[decide_eq_false ht]
  cases e:valV kvs (Sum.inl (t:Int))with
  | none=>rfl
  | some v=>
   have:=valV_in e;rw[h.keys]at this;obtain⟨u,hu,z⟩:=List.mem_map.mp this;have:=Sum.inl.inj z;have:u=t:=by omega
   exact absurd (this ▸ hu) ht
theorem GbK.get(h:GbK K H d N Do Sp S kvs){i t:Nat}(hi:S[i]? = some t):∃v,DGet H d (.int (t:Int)) (some v)/\Jgb K H N Do Sp S i t v:=by
 obtain⟨v,q,q2⟩:=h.at_ i t hi;refine⟨v,?_,q2⟩;have:=DGet.k (k:=Sum.inl (t:Int)) h.hd;rw[valV_mem h.ndk (List.mem_of_getElem? q)]at this;exact this
theorem GbK.notin(h:GbK K H d N Do Sp S kvs)(t:Nat):∃o,DGet H d (.int (t:Int)) o/\o.isSome=decide (t∈S):=⟨_,DGet.k (k:=Sum.inl (t:Int)) h.hd,h.in_ t⟩
theorem GbK.same(h:GbK K H d N Do Sp S kvs)(s:Same H H'):GbK K H' d N Do Sp S kvs:=
 ⟨s _ _ h.hd,h.nd,h.lt,h.len,fun i t e=>by
  obtain⟨v,q1,q2⟩:=h.at_ i t e;have:=q2.grow (ext:=[]) (Same.ts s);rw[List.append_nil]at this;exact⟨v,q1,this⟩⟩
theorem GbK.add{v:V}{t:Nat}(h:GbK K H d N Do Sp S kvs)(ht:¬t∈S)(hlt:t<N.length)(hj:Jgb K H N Do Sp S S.length t v) :
  GbK K (upd H d (.dK (putK kvs (Sum.inl (t:Int)) v))) d N Do Sp (S++[t]) (putK kvs (Sum.inl (t:Int)) v):=by
 have e:putK kvs (Sum.inl (t:Int)) v=kvs++[(Sum.inl (t:Int),v)]:=by
  unfold putK;rw[valV_any,h.in_,decide_eq_false ht,if_neg (by decide)]
 rw[e];have ts:TSame H (upd H d (.dK (kvs++[(Sum.inl (t:Int),v)]))):=fun b xs q=>by rw[upd_ne (ne_of q h.hd (by intro z;cases z))];exact q
 refine⟨upd_same,?_,fun u hu=>?_,by simp[h.len],fun i u hu=>?_⟩
 ·rw[List.nodup_append]
  exact⟨h.nd,by simp,fun x hx y hy=>by rw[List.mem_singleton.mp hy];intro z;exact ht (z ▸ hx)⟩
 ·rcases List.mem_append.mp hu with q | q
  ·exact h.lt u q
  ·rw[List.mem_singleton.mp q];exact hlt
 ·rcases snocAt hu with ⟨hi,g⟩ | ⟨hi,g⟩
  ·obtain⟨v',q1,q2⟩:=h.at_ i u g
   exact⟨v',by rw[List.getElem?_append_left (List.getElem?_eq_some_iff.mp q1).1];exact q1,q2.grow ts⟩
  ·subst g
   refine⟨v,?_,?_⟩
   ·rw[hi,<-h.len];simp
   ·rw[hi];exact hj.grow ts
end
structure ShutG(N:List (List Nat))(Do Sp:Nat->Bool)(S:List Nat):Prop where
 en:∀t,t<N.length->EndP N Do Sp t->t∈S
 no:∀(p:Nat) l,N[p]? = some l->Do p=false->∀t∈l,t∈S->p∈S
def behG(N:List (List Nat))(S:List Nat)(p:Nat):Bool:=decide (0<(N.getD p []).length)&&(N.getD p []).all fun t => !decide (t∈S)
end RD
namespace RD
open PySem PySem.Spec L2
structure Wnt(K:PySem.W.Frag)(c:Cn)(H:Hp)(wx x:Addr)(N:List (List Nat))(Do Sp:Nat->Bool)(S:List Nat):Prop where
 ex:∃dx d kvs,H wx=some (.ins c.C_Wanted dx [("plan", .ref x),("goes_by", .ref d)])/\GbK K H d N Do Sp S kvs
 plan:PlanAt K c H x N
 shut:ShutG N Do Sp S
section
variable {K:PySem.W.Frag}{c:Cn}{H H':Hp}{wx x a:Addr}{N:List (List Nat)}{Do Sp:Nat->Bool}{S:List Nat}{t p:Nat}{s:Stp}{Q:VK}{E:XK}
theorem Wnt.same(h:Wnt K c H wx x N Do Sp S)(s:Same H H'):Wnt K c H' wx x N Do Sp S:=by
 obtain⟨dx,d,kvs,h1,h2⟩:=h.ex;exact⟨⟨dx,d,kvs,s _ _ h1,h2.same s⟩,h.plan.same s,h.shut⟩
theorem names_w(a b:V)(m:Str)(h:m∉(["plan", "goes_by"]:List Str)):([("plan", a),("goes_by", b)]:List (Str×V)).lookup m=none:=by
 have h1:m≠("plan" : Str):=fun e=>h (by rw[e];simp)
 have h2:m≠("goes_by" : Str):=fun e=>h (by rw[e];simp)
 simp[List.lookup,beq_eq_false_iff_ne.mpr h1,beq_eq_false_iff_ne.mpr h2]
theorem wanted_at_ok(ck:CnOk K c)(h:Wnt K c H wx x N Do Sp S)(k:Q (.bl (!decide (t∈S))) H):sp_Wanted_wanted_at K [.ref wx,.int (t:Int)] H Q E:=by
 obtain⟨dx,d,kvs,h1,cb⟩:=h.ex;refine⟨rfl,?_⟩;unfold t_Wanted_wanted_at;walk_at "ev"
 with_reducible refine s_dnotin ?_
 walk_at "ev"
 with_reducible refine s_fld ?_
 walk_at "ev";refine⟨wx,_,dx,_,_,rfl,h1,ck.cls_Wanted,ck.na_Wanted_goes_by,rfl,?_⟩;obtain⟨o',g1,g2⟩:=cb.notin t;refine⟨d,o',rfl,g1,?_⟩;rw[g2];exact k
theorem wanted_on_ok(ck:CnOk K c)(h:Wnt K c H wx x N Do Sp S)(ha:StepT K H a s)(hs:IsStep N s)(k:Q (.bl (!decide (leadF N s∈S))) H):sp_Wanted_wanted_on K c [.ref wx,.ref a] H Q E:=by
 obtain⟨dx,d,kvs,h1,cb⟩:=id h.ex;obtain⟨dx',fs,n,hx,hf,hn⟩:=h.plan.x;obtain⟨dx2,r,n2,e,es,p1,_⟩:=h.plan.ex;refine⟨rfl,?_⟩;unfold t_Wanted_wanted_on;walk_at "ev"
 with_reducible refine s_meth ?_
 walk_at "ev";refine⟨wx,dx,_,rfl,h1,names_w _ _ _ (by decide),?_⟩;walk_at "ev"
 with_reducible refine s_meth ?_
 with_reducible refine s_fld ?_
 walk_at "ev";refine⟨wx,_,dx,_,_,rfl,h1,ck.cls_Wanted,ck.na_Wanted_plan,rfl,?_⟩;refine⟨x,dx2,_,rfl,p1,names3 r n2 e _ (by decide),?_⟩;walk_at "ev";refine leads_to_ok ck h.plan.x ha hs ?_;walk_at "ev";exact wanted_at_ok ck h k
theorem wanted_behind_ok(ck:CnOk K c)(h:Wnt K c H wx x N Do Sp S)(hv:Valid N)(hp:p<N.length)(k:∀H',Same H H'->Q (.bl (behG N S p)) H'):sp_Wanted_wanted_behind K c [.ref wx,.int (p:Int)] H Q E:=by
 obtain⟨dx,d,kvs,h1,cb⟩:=id h.ex;obtain⟨dx',fs,n,hx,hf,hn⟩:=h.plan.x;have hl:=at_len hp;obtain⟨l,hle⟩:∃l,l=N[p]:=⟨_,rfl⟩;rw[<-hle]at hl;have hg:N.getD p []=l:=by simp[List.getD,hl]
 have l2:=hv.two l (List.mem_of_getElem? hl);obtain⟨us,u,f1,f2,f3,_⟩:=hn.at hl;unfold behG at k;rw[hg]at k;refine⟨rfl,?_⟩;unfold t_Wanted_wanted_behind
 with_reducible refine s_seq ?_
 walk_at "ev"
 with_reducible refine s_fld ?_
 with_reducible refine s_fld ?_
 walk_at "ev";refine⟨wx,_,dx,_,_,rfl,h1,ck.cls_Wanted,ck.na_Wanted_plan,rfl,?_⟩;refine⟨x,_,dx',fs,_,rfl,hx,ck.cls_Plan,ck.na_Plan_nexts,hf,?_⟩;walk_at "ev";refine q_ixL f1 f2 ?_;walk_at "ev";refine q_lenL f3 ?_;rw[IL_len];walk_at "ev";by_cases h0:0<l.length
 ·rw[decide_eq_true h0]at k
  refine iteT' (decide_eq_true (by omega)) ?_;walk_at "ev"
  with_reducible refine s_comp (s_ilst ?_)
  walk_at "ev";refine⟨u,rfl,⟨_,SqL.of f3⟩,fun T hT=>?_⟩;refine comp_lst (xs:=IL l) (fun i ys H8=>ys=((l.take i).map fun t=>V.bl (!decide (t∈S)))/\H8 T=some (.lst ys)/\Same H H8) ?_ ?_ ?_ ?_ ?_
  ·exact⟨rfl,upd_same,same_new hT⟩
  ·rintro i ys H8 ⟨_,h,_⟩
   exact h
  ·rintro i ys H8 _ ⟨_,_,s8⟩
   exact SqL.of (s8 _ _ f3)
  ·rintro i y ys H8 hy ⟨rfl,hT8,s8⟩ R hR
   unfold IL at hy;rw[List.getElem?_map]at hy;cases hz:l[i]? with
   | none=>rw[hz]at hy;cases hy
   | some z=>
    rw[hz]at hy;cases hy;walk_at "ev"
    with_reducible refine s_meth ?_
    walk_at "ev";refine⟨wx,dx,_,rfl,s8 _ _ h1,names_w _ _ _ (by decide),?_⟩;walk_at "ev";refine wanted_at_ok ck (h.same s8) ?_;refine hR _ _ hT8 (smallT (by rw[List.length_map,List.length_take];omega)) ⟨?_,upd_same,fun b o e=>?_⟩
    ·rw[List.take_add_one,hz,List.map_append];rfl
    ·rw[upd_ne (ne_of_none e hT)];exact s8 _ _ e
  ·rintro ys H8 ⟨rfl,hT8,s8⟩
   rw[IL_len,List.take_length]at hT8;have eb:(l.map fun t=>V.bl (!decide (t∈S)))=(l.map fun t => !decide (t∈S)).map V.bl:=by rw[List.map_map];rfl
   rw[eb]at hT8;walk_at "ev";refine q_all hT8 ?_;have:=k H8 s8;rw[Bool.true_and]at this;rw[List.all_map];exact this
 ·rw[decide_eq_false h0]at k
  refine iteF' (decide_eq_false (by omega)) ?_;exact k H (Same.refl _)
end
end RD
namespace RD
open PySem PySem.Spec L2
def endB(N:List (List Nat))(Do Sp:Nat->Bool)(p:Nat):Bool := !Do p&&(Sp p||decide ((N.getD p []).length=0))
structure PlanQ(c:Cn)(H:Hp)(x:Addr)(N:List (List Nat))(rs:List Addr):Prop where
 ex:∃dx fs n r,H x=some (.ins c.C_Plan dx fs)/\fs.lookup ("nexts" : Str)=some (V.ref n)/\NetAt H n N/\fs.lookup ("rows" : Str)=some (V.ref r)/\H r=some (.lst (rs.map V.ref))/\rs.length=N.length
theorem unwanted_ends_ok{K:PySem.W.Frag}{c:Cn}{H:Hp}{x dd:Addr}{N:List (List Nat)}{rs:List Addr}{ds:List V}{Do Sp:Nat->Bool}{Q:VK}{E:XK}(ck:CnOk K c)(hp:PlanQ c H x N rs)(hv:Valid N)(hd:DeedQ H dd ds)(hs:DSat H rs ds Do Sp)
  (k:∀D H',H D=none->H' D=some (.lst (IL ((List.range N.length).filter (endB N Do Sp))))->Same H H'->Q (.ref D) H'):sp_unwanted_ends K [.ref x,.ref dd] H Q E:=by
 have h400:=hv.le;obtain⟨dx,fs,n,r,hx,hfn,hn,hfr,hr,lr⟩:=hp.ex;refine⟨rfl,?_⟩;unfold t_unwanted_ends
 with_reducible refine s_seq ?_
 walk_at "ev";refine new_i (by simp) fun D H1 hD e1 s1=>?_
 walk_at "ev"
 with_reducible refine s_seq ?_
 with_reducible refine s_for (s_ienum ?_)
 walk_at "ev"
 with_reducible refine s_fld ?_
 walk_at "ev";refine⟨x,_,dx,fs,_,rfl,s1 _ _ hx,ck.cls_Plan,ck.na_Plan_rows,hfr,?_⟩;walk_at "ev";refine⟨r,rfl,⟨_,SqL.of (s1 _ _ hr)⟩,?_⟩;refine for_i N.length (fun i σ H2=>∃y3 y4,σ=[some (.ref x),some (.ref dd),some (.ref D),y3,y4]/\H2 D=some (.lst (IL ((List.range i).filter (endB N Do Sp))))/\Same H H2) ⟨_,_,rfl,e1,s1⟩ ?_ ?_ ?_
 ·rintro _ H2 ⟨y3,y4,rfl,hD2,s2⟩
  refine⟨⟨_,SqL.of (s2 _ _ hr),by rw[List.length_map,lr];exact Nat.le_refl _⟩,?_⟩;walk_at "ev";exact k D H2 hD hD2 s2
 ·rintro i _ H2 hi ⟨y3,y4,rfl,hD2,s2⟩
  exact⟨_,_,SqL.of (s2 _ _ hr),by rw[List.getElem?_map,List.getElem?_eq_getElem (show i<rs.length by omega)];rfl⟩
 ·rintro i _ H2 hi ⟨y3,y4,rfl,hD2,s2⟩ v H3 ⟨pp,w,hpp,rfl,rfl,gw⟩
  obtain⟨rx,hrx⟩:∃rx,rs[i]? = some rx:=⟨_,List.getElem?_eq_getElem (by omega)⟩;have gw:=gw _ (SqL.of (s2 _ _ hr));rw[List.getElem?_map,hrx]at gw;cases gw;refine s_gpair (SqT.of upd_same) ?_;have s3:Same H2 (upd H2 pp (.tup [V.int (i:Int),V.ref rx])):=same_new hpp;obtain⟨H3,hH3⟩:∃H3,H3=upd H2 pp (.tup [V.int (i:Int),V.ref rx]):=⟨_,rfl⟩;rw[<-hH3]at s3 ⊢;have s03:=s2.trans s3;obtain⟨xs,x1,x2,x3⟩:=(hs.ts (Same.ts s03)) i rx hrx;have hlp:=at_len hi;obtain⟨lp,hle⟩:∃lp,lp=N[i]:=⟨_,rfl⟩;rw[<-hle]at hlp;have hg:N.getD i []=lp:=by simp[List.getD,hlp]
  have hb:endB N Do Sp i=(!Do i&&(Sp i||decide (lp.length=0))):=by unfold endB;rw[hg]
  have lf:((List.range i).filter (endB N Do Sp)).length<=i:=by
   have:=List.length_filter_le (endB N Do Sp) (List.range i);rw[List.length_range]at this;exact this
  have skip:∀H4,Same H3 H4->endB N Do Sp i=false->(∃y3 y4,[some (V.ref x),some (.ref dd),some (.ref D),some (.int (i:Int)),some (.ref rx)]=[some (V.ref x),some (.ref dd),some (.ref D),y3,y4]/\H4 D=some (.lst (IL ((List.range (i+1)).filter (endB N Do Sp))))/\Same H H4):=fun H4 s4 e=>by
   refine⟨_,_,rfl,?_,s03.trans s4⟩;rw[List.range_succ,List.filter_append];simp only[List.filter_cons,e,List.filter_nil,if_neg (show ¬(false=true) by decide),List.append_nil];exact s4 _ _ (s3 _ _ hD2)
  have put:∀H4,Same H3 H4->endB N Do Sp i=true->(∃y3 y4,[some (V.ref x),some (.ref dd),some (.ref D),some (.int (i:Int)),some (.ref rx)]=[some (V.ref x),some (.ref dd),some (.ref D),y3,y4]/\(upd H4 D (.lst (IL ((List.range i).filter (endB N Do Sp))++[.int (i:Int)]))) D=some (.lst (IL ((List.range (i+1)).filter (endB N Do Sp))))/\Same H (upd H4 D (.lst (IL ((List.range i).filter (endB N Do Sp))++[.int (i:Int)])))):=fun H4 s4 e=>by
   refine⟨_,_,rfl,?_,fun b o q=>?_⟩
   ·rw[upd_same,List.range_succ,List.filter_append]
    simp only[List.filter_cons,e,List.filter_nil,if_pos];rw[IL_app];rfl
   ·rw[upd_ne (ne_of_none q hD)];exact s4 _ _ (s03 _ _ q)
  walk_at "ev";refine does_rw x1 (hd.ts (Same.ts s03)) ?_;rw[x2];walk_at "ev";cases hDo:Do i with
  | true=>
   refine iteF' rfl ?_;refine iteF' rfl ?_;walk_at "ev";exact skip H3 (Same.refl _) (by rw[hb,hDo];rfl)
  | false=>
   refine iteT' rfl ?_;walk_at "ev";refine spoils_rw x1 (hd.ts (Same.ts s03)) fun H4 s4=>?_
   rw[x3];walk_at "ev";cases hSp:Sp i with
   | true=>
    refine iteT' rfl ?_;refine iteT' rfl ?_;walk_at "ev"
    with_reducible refine s_bm ?_
    walk_at "ev";refine⟨ty_list (s4 _ _ (s3 _ _ hD2)),?_⟩;walk_at "ev";refine q_append (s4 _ _ (s3 _ _ hD2)) (smallT (by rw[IL_len];omega)) ?_;exact put H4 s4 (by rw[hb,hDo,hSp];rfl)
   | false=>
    refine iteF' rfl ?_;walk_at "ev"
    with_reducible refine s_fld ?_
    walk_at "ev";refine⟨x,_,dx,fs,_,rfl,(s03.trans s4) _ _ hx,ck.cls_Plan,ck.na_Plan_nexts,hfn,?_⟩;obtain⟨us,u,f1,f2,f3,_⟩:=(hn.same (s03.trans s4)).at hlp;walk_at "ev";refine q_ixL f1 f2 ?_;walk_at "ev";refine q_lenL f3 ?_;rw[IL_len];walk_at "ev";by_cases h0:lp.length=0
    ·refine iteT' (decide_eq_true (by rw[h0];rfl)) ?_
     walk_at "ev"
     with_reducible refine s_bm ?_
     walk_at "ev";refine⟨ty_list (s4 _ _ (s3 _ _ hD2)),?_⟩;walk_at "ev";refine q_append (s4 _ _ (s3 _ _ hD2)) (smallT (by rw[IL_len];omega)) ?_;exact put H4 s4 (by rw[hb,hDo,hSp,decide_eq_true h0];rfl)
    ·refine iteF' (decide_eq_false (fun z=>h0 (by have:=V.int.inj z;omega))) ?_
     walk_at "ev";exact skip H4 s4 (by rw[hb,hDo,hSp,decide_eq_false h0];rfl)
end RD
namespace RD
open PySem PySem.Spec L2
def noneK(L:List Nat):List (Key×V):=L.map fun(p:Nat)=>(Sum.inl (p:Int),V.non)
theorem dict_ends{K:PySem.W.Frag}{σ:St}{H:Hp}{tr:TE}{L:List Nat}{Q:VK}(nd:L.Nodup)(l400:L.length<=400)(htr:∀R:VK,(∀a H',H' a=some (.lst (IL L))->Same H H'->R (.ref a) H')->tr σ H R)
  (k:∀d H',H d=none->H' d=some (.dK (noneK L))->Same H H'->Q (.ref d) H'):tCB qDictL (tCons (tComp (iList K tr) tTrue (tTup (tCons (tVar 0) (tCons (tC .non) tNil)))) tNil) σ H Q:=by
 with_reducible refine s_cb ?_
 with_reducible refine s_cons ?_
 with_reducible refine s_comp (s_ilst ?_)
 refine htr _ fun a H1 e1 s1=>?_
 refine⟨a,rfl,⟨_,SqL.of e1⟩,fun T hT=>?_⟩;refine comp_lst (xs:=IL L) (fun i ys H8=>ys.length=i/\H8 T=some (.lst ys)/\Same H1 H8/\∀(j p:Nat),j<i->L[j]? = some p->∃b,ys[j]? = some (V.ref b)/\H8 b=some (.tup [.int (p:Int),.non])) ?_ ?_ ?_ ?_ ?_
 ·exact⟨rfl,upd_same,same_new hT,by omega⟩
 ·rintro i ys H8 ⟨_,h,_⟩
  exact h
 ·rintro i ys H8 _ ⟨_,_,s8,_⟩
  exact SqL.of (s8 _ _ e1)
 ·rintro i y ys H8 hy ⟨l8,hT8,s8,a8⟩ R hR
  unfold IL at hy;rw[List.getElem?_map]at hy;cases hz:L[i]? with
  | none=>rw[hz]at hy;cases hy
  | some z=>
   rw[hz]at hy;cases hy;have hi:=(List.getElem?_eq_some_iff.mp hz).1;walk_at "ev";refine new_i (by simp) fun b H9 hb e9 s9=>?_
   have bT:b≠T:=fun q=>by rw[q,hT8]at hb;cases hb
   refine hR _ _ (s9 _ _ hT8) (smallT (by omega)) ⟨by rw[List.length_append,l8];rfl,upd_same,fun b o e=>?_,fun j p hj hp=>?_⟩
   ·rw[upd_ne (ne_of_none e hT)];exact s9 _ _ (s8 _ _ e)
   ·by_cases q:j=i
    ·subst q
     rw[hz]at hp;cases hp;exact⟨b,by rw[<-l8];simp,by rw[upd_ne bT];exact e9⟩
    ·obtain⟨b',q1,q2⟩:=a8 j p (by omega) hp
     exact⟨b',by rw[List.getElem?_append_left (by omega)];exact q1,by rw[upd_ne (ne_of q2 hT8 (by intro z;cases z))];exact s9 _ _ q2⟩
 ·rintro ys H8 ⟨l8,hT8,s8,a8⟩
  rw[IL_len]at l8 a8
  with_reducible refine s_nil ?_
  refine⟨T,ys,noneK L,rfl,hT8,by rw[l8];simp[noneK],fun i kk x e=>?_,?_,fun d hd=>?_⟩
  ·unfold noneK at e
   rw[List.getElem?_map]at e;cases hz:L[i]? with
   | none=>rw[hz]at e;cases e
   | some z=>
    rw[hz]at e;cases e;obtain⟨b,q1,q2⟩:=a8 i z (List.getElem?_eq_some_iff.mp hz).1 hz;exact⟨b,q1,q2⟩
  ·unfold noneK
   rw[List.map_map];refine List.Pairwise.map _ (fun a b hab z=>hab ?_) nd;have:=Sum.inl.inj z;omega
  ·have s08:=s1.trans s8
   exact k d _ (s08.free hd) upd_same (s08.trans (same_new hd))
theorem gb_start{K:PySem.W.Frag}{H:Hp}{d:Addr}{N:List (List Nat)}{Do Sp:Nat->Bool}{L:List Nat}(hd:H d=some (.dK (noneK L)))(nd:L.Nodup)(lt:∀t∈L,t<N.length)(en:∀t∈L,EndP N Do Sp t):GbK K H d N Do Sp L (noneK L):=by
 refine⟨hd,nd,lt,by simp[noneK],fun i t e=>⟨.non,?_,.inl ⟨rfl,en t (List.mem_of_getElem? e)⟩⟩⟩;unfold noneK;rw[List.getElem?_map,e];rfl
structure GbI(K:PySem.W.Frag)(H0 H:Hp)(d o:Addr)(N:List (List Nat))(Do Sp:Nat->Bool)(S:List Nat)(kvs:List (Key×V)):Prop where
 gb:GbK K H d N Do Sp S kvs
 same:Same H0 H
 ho:H o=some (.lst (IL S))
 fr:H0 d=none/\H0 o=none
def But(d o:Addr)(H H':Hp):Prop:=∀b ob,b≠d->b≠o->H b=some ob->H' b=some ob
section
variable {K:PySem.W.Frag}{H0 H H':Hp}{d o:Addr}{N:List (List Nat)}{Do Sp:Nat->Bool}{S:List Nat}{kvs:List (Key×V)}
theorem GbI.next(h:GbI K H0 H d o N Do Sp S kvs)(s:Same H H'):GbI K H0 H' d o N Do Sp S kvs:=⟨h.gb.same s,h.same.trans s,s _ _ h.ho,h.fr⟩
theorem But.ts(h:But d o H H')(hd:H d=some (.dK kvs))(ho:H o=some (.lst (IL S))):TSame H H':=fun b xs q=>h b _ (ne_of q hd (by intro z;cases z)) (ne_of q ho (by intro z;cases z)) q
theorem gb_put{σ:St}{D:Ends}{a b g p q t j:Nat}{x:Addr}{l:List Nat}(ha:σ[a]? = some (some (.ref x)))(hb:σ[b]? = some (some (.ref d)))(hg:σ[g]? = some (some (.ref o)))(I:GbI K H0 H d o N Do Sp S kvs)(h400:N.length<=400)(hx:H x=some (.tup [.int (p:Int),.int (q:Int)]))(hl:N[p]? = some l)(ht:l[q]? = some t)(hj:S[j]? = some t)(hD:Do p=false)(hps:¬p∈S)
  (k:∀H' kvs',GbI K H0 H' d o N Do Sp (S++[p]) kvs'->But d o H H'->D.nx σ H'):tSeq (sDPut (tVar b) (tOp qIx (tVar a) (tC (.int 0))) (tVar a)) (tDrop (tBM K "list" qAppend (tVar g) (tCons (tOp qIx (tVar a) (tC (.int 0))) (tNil)))) D σ H:=by
 with_reducible refine s_seq ?_
 with_reducible refine s_dput ?_
 with_reducible refine s_var ha ?_
 with_reducible refine s_var hb ?_
 with_reducible refine s_op ?_
 with_reducible refine s_var ha ?_
 with_reducible refine s_c ?_
 refine q_ixT hx (atI0 _ _) ?_;have hlen:S.length<=400:=Nat.le_trans (nd_le _ _ I.gb.nd I.gb.lt) h400;refine⟨d,_,rfl,DPut.k (k:=Sum.inl (p:Int)) I.gb.hd (smallT (by rw[I.gb.len];omega)),?_⟩;have add:=I.gb.add (v:=.ref x) hps (List.getElem?_eq_some_iff.mp hl).1 (.inr ⟨x,q,l,t,j,rfl,.inl hx,hl,ht,hj,(List.getElem?_eq_some_iff.mp hj).1,hD⟩);obtain⟨kvs',hk⟩:∃kvs',kvs'=putK kvs (Sum.inl (p:Int)) (.ref x):=⟨_,rfl⟩;rw[<-hk]at add ⊢;obtain⟨H2,hH2⟩:∃H2,H2=upd H d (.dK kvs'):=⟨_,rfl⟩;rw[<-hH2]at add ⊢;have nod:o≠d:=ne_of I.ho I.gb.hd (by intro z;cases z);have ho2:H2 o=some (.lst (IL S)):=by rw[hH2,upd_ne nod];exact I.ho
 have hx2:H2 x=some (.tup [.int (p:Int),.int (q:Int)]):=by rw[hH2,upd_ne (ne_of hx I.gb.hd (by intro z;cases z))];exact hx
 with_reducible refine s_drop ?_
 with_reducible refine s_bm ?_
 with_reducible refine s_var hg ?_
 refine⟨ty_list ho2,?_⟩
 with_reducible refine s_cons ?_
 with_reducible refine s_op ?_
 with_reducible refine s_var ha ?_
 with_reducible refine s_c ?_
 refine q_ixT hx2 (atI0 _ _) ?_
 with_reducible refine s_nil ?_
 refine q_append ho2 (smallT (by rw[IL_len];omega)) ?_;have e3:IL S++[V.int (p:Int)]=IL (S++[p]):=by simp[IL]
 rw[e3];have ts:TSame H2 (upd H2 o (.lst (IL (S++[p])))):=TSame.put ho2;refine k _ kvs' ⟨⟨by rw[upd_ne nod.symm];exact add.hd,add.nd,add.lt,add.len,fun i u hu=>?_⟩,fun b' o'' q'=>?_,upd_same,I.fr⟩ fun b ob n1 n2 e=>?_
 ·obtain⟨v,q1,q2⟩:=add.at_ i u hu
  have:=q2.grow (ext:=[]) ts;rw[List.append_nil]at this;exact⟨v,q1,this⟩
 ·rw[upd_ne (ne_of_none q' I.fr.2),hH2,upd_ne (ne_of_none q' I.fr.1)];exact I.same _ _ q'
 ·rw[upd_ne n2,hH2,upd_ne n1];exact e
end
theorem But.trans{d o:Addr}{H H' H'':Hp}(h:But d o H H')(h':But d o H' H''):But d o H H'':=fun b ob n1 n2 e=>h' b ob n1 n2 (h b ob n1 n2 e)
theorem But.refl{d o:Addr}{H:Hp}:But d o H H:=fun _ _ _ _ e=>e
theorem endB_iff{N:List (List Nat)}{Do Sp:Nat->Bool}{t:Nat}(ht:t<N.length):endB N Do Sp t=true↔EndP N Do Sp t:=by
 have hg:N.getD t []=N[t]:=by simp[List.getD,ht]
 unfold endB EndP;rw[hg,Bool.and_eq_true,Bool.or_eq_true,at_len ht,Bool.not_eq_true',decide_eq_true_iff,List.length_eq_zero_iff,Option.some.injEq]
theorem PlanQ.same{c:Cn}{H H':Hp}{x:Addr}{N:List (List Nat)}{rs:List Addr}(h:PlanQ c H x N rs)(s:Same H H'):PlanQ c H' x N rs:=by
 obtain⟨dx,fs,n,r,h1,h2,h3,h4,h5,h6⟩:=h.ex;exact⟨dx,fs,n,r,s _ _ h1,h2,h3.same s,h4,s _ _ h5,h6⟩
theorem PlanZ.q{K:PySem.W.Frag}{c:Cn}{Z:Addr->Prop}{rs:List Addr}{H:Hp}{x:Addr}{N:List (List Nat)}(h:PlanZ K c Z rs H x N):PlanQ c H x N rs:=by
 obtain⟨dx,r,n,e,es,ns,h1,⟨h2,h2r⟩,h3,h4,h5,h6,h7,h8,_⟩:=h.ex;refine⟨dx,_,n,r,h1,rfl,⟨ns,h3,h4,h5⟩,rfl,h2r,?_⟩;obtain⟨rs',q1,q2,_⟩:=h2.ex;rw[h2r]at q1;have:=congrArg List.length (HO.lst.inj (Option.some.inj q1));rw[List.length_map,List.length_map]at this;omega
theorem unwanted_steps_ok{K:PySem.W.Frag}{c:Cn}{H:Hp}{x dd:Addr}{N:List (List Nat)}{rs:List Addr}{ds:List V}{Do Sp:Nat->Bool}{Q:VK}{E:XK}(ck:CnOk K c)(hp:PlanQ c H x N rs)(hz:PlanAt K c H x N)(hv:Valid N)(hd:DeedQ H dd ds)(hs:DSat H rs ds Do Sp)
  (k:∀d H' S kvs,GbK K H' d N Do Sp S kvs->ShutG N Do Sp S->Same H H'->Q (.ref d) H'):sp_unwanted_steps K c [.ref x,.ref dd] H Q E:=by
 have h400:=hv.le;obtain⟨dx,fs,n,r,hx,hfn,hn,hfr,hr,lr⟩:=id hp.ex;obtain⟨dx2,r2,n2,e2',es,p1,_⟩:=id hz.ex;obtain⟨L0,hL0⟩:∃L0,L0=(List.range N.length).filter (endB N Do Sp):=⟨_,rfl⟩;have nd0:L0.Nodup:=hL0 ▸ List.nodup_range.filter _;have lt0:∀t∈L0,t<N.length:=fun t ht=>by rw[hL0]at ht;exact List.mem_range.mp (List.mem_filter.mp ht).1
 have en0:∀t,t<N.length->(t∈L0↔EndP N Do Sp t):=fun t ht=>by
  rw[hL0,List.mem_filter,List.mem_range,endB_iff ht];exact⟨fun h=>h.2,fun h=>⟨ht,h⟩⟩
 have l0:L0.length<=400:=Nat.le_trans (nd_le _ _ nd0 lt0) h400;refine⟨rfl,?_⟩;unfold t_unwanted_steps
 with_reducible refine s_seq ?_
 walk_at "ev";refine unwanted_ends_ok ck hp hv hd hs fun o H1 ho e1 s1=>?_
 rw[<-hL0]at e1;walk_at "ev"
 with_reducible refine s_seq ?_
 with_reducible refine s_asg ?_
 refine dict_ends nd0 l0 (fun R hR=>s_var rfl (hR o H1 e1 (Same.refl _))) fun d H2 hd2 e2 s2=>?_
 walk_at "ev";have I2:GbI K H H2 d o N Do Sp L0 _:=⟨gb_start e2 nd0 lt0 fun t ht=>(en0 t (lt0 t ht)).mp ht,s1.trans s2,s2 _ _ e1,s1.free hd2,ho⟩
 with_reducible refine s_seq ?_
 walk_at "ev"
 with_reducible refine s_seq ?_
 with_reducible refine s_while ?_
 refine⟨fun m σ H4=>∃(y5 y6:Option V) (S:List Nat) (kvs:List (Key×V)) (dn:Nat),σ=[some (.ref x),some (.ref dd),some (.ref o),some (.ref d),some (.int (dn:Int)),y5,y6]/\GbI K H H4 d o N Do Sp S kvs/\(∃ext,S=L0++ext)/\dn<=S.length/\(∀(j t p:Nat) l,j<dn->S[j]? = some t->N[p]? = some l->t∈l->Do p=false->p∈S)/\m=N.length - dn,
  ⟨_,_,_,L0,_,0,rfl,I2,⟨[],by simp⟩,by omega,by omega,rfl⟩,?_⟩
 rintro m _ H4 ⟨y5,y6,S,kvs,dn,rfl,I4,x4,hdn,c4,rfl⟩;walk_at "ev";refine q_lenL I4.ho ?_;walk_at "ev";rw[IL_len];have hSl:S.length<=N.length:=nd_le _ _ I4.gb.nd I4.gb.lt;by_cases hlt:dn<S.length
 ·refine iteT' (decide_eq_true (by omega)) ?_
  obtain⟨t,htS⟩:∃t,S[dn]? = some t:=⟨_,List.getElem?_eq_getElem hlt⟩;have htn:=I4.gb.lt t (List.mem_of_getElem? htS);refine⟨fun σ H5=>∃(m':Nat) (y5 y6:Option V) (S:List Nat) (kvs:List (Key×V)) (dn':Nat),σ=[some (.ref x),some (.ref dd),some (.ref o),some (.ref d),some (.int (dn':Int)),y5,y6]/\GbI K H H5 d o N Do Sp S kvs/\(∃ext,S=L0++ext)/\dn'<=S.length/\(∀(j t p:Nat) l,j<dn'->S[j]? = some t->N[p]? = some l->t∈l->Do p=false->p∈S)/\m'=N.length - dn'/\m'<N.length - dn,?_,?_⟩
  ·rintro σ' H5 ⟨m',y5,y6,S,kvs,dn',e,r1,r2,r3,r4,r5,r6⟩
   exact⟨m',r6,y5,y6,S,kvs,dn',e,r1,r2,r3,r4,r5⟩
  with_reducible refine s_seq ?_
  walk_at "ev";refine q_ixL I4.ho (IL_at htS) ?_;walk_at "ev"
  with_reducible refine s_seq ?_
  with_reducible refine s_aug rfl ?_
  walk_at "ev";have e1':(dn:Int)+1=((dn+1:Nat):Int):=by omega
  rw[e1']
  with_reducible refine s_for (s_ilst ?_)
  walk_at "ev"
  with_reducible refine s_meth ?_
  walk_at "ev";refine⟨x,dx2,_,rfl,I4.same _ _ p1,names3 r2 n2 e2' _ (by decide),?_⟩;walk_at "ev";refine plan_into_ok ck (hz.same I4.same) htn fun st H5 hst sa s5=>?_
  obtain⟨vs,v1,v2,v3⟩:=sa.ex;have I5:=I4.next s5;have nst:st≠d/\st≠o:=⟨(ne_of_none I4.gb.hd hst).symm,(ne_of_none I4.ho hst).symm⟩;obtain⟨Z,hZ⟩:∃Z,Z=(stepsF N).filter fun s=>decide (leadF N s=t):=⟨_,rfl⟩
  rw[<-hZ]at v2 v3;refine⟨st,rfl,⟨_,SqL.of v1⟩,for_list (xs:=vs.map V.ref) (fun i σ H6=>∃(y6:Option V) (S':List Nat) (kvs':List (Key×V)),σ=[some (.ref x),some (.ref dd),some (.ref o),some (.ref d),some (.int ((dn+1:Nat):Int)),some (.int (t:Int)),y6]/\GbI K H H6 d o N Do Sp S' kvs'/\(∃ext,S'=S++ext)/\But d o H5 H6/\∀(j p q:Nat),j<i->Z[j]? = some ((p:Int),(q:Int))->Do p=false->p∈S') ⟨_,S,kvs,rfl,I5,⟨[],by simp⟩,But.refl,by omega⟩ ?_ ?_ ?_⟩
  ·rintro i σ H6 _ ⟨_,_,_,_,_,_,bt,_⟩
   exact SqL.of (bt _ _ nst.1 nst.2 v1)
  ·rintro i y _ H6 hy ⟨y6,S',kvs',rfl,I6,⟨ext,e6⟩,bt,g6⟩
   rw[List.getElem?_map]at hy;cases hw:vs[i]? with
   | none=>rw[hw]at hy;cases hy
   | some w=>
    rw[hw]at hy;cases hy;obtain⟨s,hsi⟩:∃s,Z[i]? = some s:=⟨_,List.getElem?_eq_getElem (by have:=(List.getElem?_eq_some_iff.mp hw).1;omega)⟩;have sm:=List.mem_of_getElem? hsi;rw[hZ,List.mem_filter]at sm;have iss:=isStep_of sm.1;have ld:=of_decide_eq_true sm.2;have st6:StepT K H6 w s:=(v3 i w s hw hsi).ts (bt.ts I5.gb.hd I5.ho);have lS':S'.length<=N.length:=nd_le _ _ I6.gb.nd I6.gb.lt
    have grow:∀S'',(∃e,S''=S'++e)->(∀p q:Nat,s=((p:Int),(q:Int))->Do p=false->p∈S'')->∀(j p q:Nat),j<i+1->Z[j]? = some ((p:Int),(q:Int))->Do p=false->p∈S'':=by
     rintro S'' ⟨e,rfl⟩ h j p q hj hj2 hD;by_cases z:j=i
     ·subst z
      rw[hsi]at hj2;exact h p q (Option.some.inj hj2) hD
     ·exact List.mem_append_left _ (g6 j p q (by omega) hj2 hD)
    walk_at "ev";refine⟨_,_,_,_,rfl,rfl,st6.sq,ck.t_FIRST_STEP H6,rfl,rfl,?_⟩;rw[eq2];walk_at "ev";rcases iss with rfl | ⟨p,q,l,t',rfl,hl,hq⟩
    ·refine iteF' rfl ?_
     refine iteF' rfl ?_;walk_at "ev";exact⟨_,S',kvs',rfl,I6,⟨ext,e6⟩,bt,grow S' ⟨[],by simp⟩ fun p q e _=>(fst_ne e.symm).elim⟩
    ·rw[lead_at hl hq]at ld
     subst ld
     refine iteT' (by
      have:decide ((((p:Int),(q:Int)).1,((p:Int),(q:Int)).2)=FST)=false:=decide_eq_false fst_ne;rw[this];rfl) ?_
     rcases st6 with st6 | ⟨z,_⟩
     rotate_left
     ·exact(fst_ne z).elim
     have eqs:∀p' q':Nat,(((p:Int),(q:Int)):Stp)=((p':Int),(q':Int))->p'=p:=fun p' q' e=>by
      have:(p:Int)=(p':Int):=congrArg Prod.fst e;omega
     walk_at "ev"
     with_reducible refine s_dnotin ?_
     walk_at "ev";refine q_ixT st6 (atI0 _ _) ?_;walk_at "ev";obtain⟨o',g1,g2⟩:=I6.gb.notin p;refine⟨d,o',rfl,g1,?_⟩;rw[g2];walk_at "ev";by_cases hps:p∈S'
     ·refine iteF' (by rw[decide_eq_true hps];rfl) ?_
      refine iteF' rfl ?_;walk_at "ev";exact⟨_,S',kvs',rfl,I6,⟨ext,e6⟩,bt,grow S' ⟨[],by simp⟩ fun p' q' e _=>by rw[eqs p' q' e];exact hps⟩
     ·refine iteT' (by rw[decide_eq_false hps];rfl) ?_
      have hpn:=(List.getElem?_eq_some_iff.mp hl).1;obtain⟨ax,hax⟩:∃ax,rs[p]? = some ax:=⟨_,List.getElem?_eq_getElem (by omega)⟩;obtain⟨xs,x1,x2,x3⟩:=(hs.ts (Same.ts I6.same)) p ax hax;walk_at "ev"
      with_reducible refine s_fld ?_
      walk_at "ev";refine⟨x,_,dx,fs,_,rfl,I6.same _ _ hx,ck.cls_Plan,ck.na_Plan_rows,hfr,?_⟩;walk_at "ev";refine q_ixT st6 (atI0 _ _) ?_;walk_at "ev";refine q_ixL (I6.same _ _ hr) (atI_nat (by rw[List.getElem?_map,hax];rfl)) ?_;walk_at "ev";refine does_rw x1 (hd.ts (Same.ts I6.same)) ?_;rw[x2];walk_at "ev";cases hDo:Do p with
      | true=>
       refine iteF' rfl ?_;walk_at "ev";exact⟨_,S',kvs',rfl,I6,⟨ext,e6⟩,bt,grow S' ⟨[],by simp⟩ fun p' q' e hD=>by rw[eqs p' q' e,hDo]at hD;cases hD⟩
      | false=>
       refine iteT' rfl ?_;refine gb_put (a:=6) (b:=3) (g:=2) (j:=dn) rfl rfl rfl I6 h400 st6 hl hq (by rw[e6,List.getElem?_append_left hlt];exact htS) hDo hps fun H7 kvs7 I7 b7=>?_
       exact⟨_,S'++[p],kvs7,rfl,I7,⟨ext++[p],by rw[e6,List.append_assoc]⟩,bt.trans b7,grow _ ⟨[p],rfl⟩ fun p' q' e _=>by rw[eqs p' q' e];simp⟩
  ·rintro _ H6 ⟨y6,S',kvs',rfl,I6,⟨ext,e6⟩,bt,g6⟩
   obtain⟨ext4,hx4⟩:=x4;refine⟨_,_,_,S',kvs',dn+1,rfl,I6,⟨ext4++ext,by rw[e6,hx4,List.append_assoc]⟩,by rw[e6,List.length_append];omega,fun j t' p l hj hj2 hl ht hD=>?_,rfl,by omega⟩;rw[List.length_map,v2]at g6;have hj3:S[j]? = some t':=by rw[e6,List.getElem?_append_left (by omega)]at hj2;exact hj2
   by_cases q:j=dn
   ·subst q
    rw[htS]at hj3;cases hj3;obtain⟨q,hq⟩:=List.mem_iff_getElem?.mp ht
    have m1:(((p:Int),(q:Int)):Stp)∈Z:=by
     rw[hZ,List.mem_filter];exact⟨mem_steps (.inr ⟨p,q,l,t,rfl,hl,hq⟩),decide_eq_true (lead_at hl hq)⟩
    obtain⟨i,hi⟩:=List.mem_iff_getElem?.mp m1;exact g6 i p q (List.getElem?_eq_some_iff.mp hi).1 hi hD
   ·rw[e6];exact List.mem_append_left _ (c4 j t' p l (by omega) hj3 hl ht hD)
 ·refine iteF' (decide_eq_false (by omega)) ?_
  walk_at "ev";obtain⟨ext4,hx4⟩:=x4;refine k d H4 S kvs I4.gb ⟨fun t ht he=>by rw[hx4];exact List.mem_append_left _ ((en0 t ht).mpr he),fun p l hl hD t ht htS=>?_⟩ I4.same;obtain⟨j,hj⟩:=List.mem_iff_getElem?.mp htS;have:=(List.getElem?_eq_some_iff.mp hj).1;exact c4 j t p l (by omega) hj hl ht hD
end RD
namespace RD
open PySem PySem.Spec L2
inductive On(N:List (List Nat)):Nat->List Stp->Nat->Prop
 | nil {t:Nat}:On N t [] t
 | cons {p q u e:Nat} {l:List Nat} {W:List Stp}:N[p]? = some l->l[q]? = some u->On N u W e->On N p (((p:Int),(q:Int))::W) e
section
variable {N:List (List Nat)}{t e e':Nat}{W W':List Stp}
theorem On.app(h:On N t W e)(h':On N e W' e'):On N t (W++W') e':=by
 induction h with
 | nil=>exact h'
 | cons h1 h2 _ ih=>exact .cons h1 h2 (ih h')
theorem On.snoc{q u:Nat}{l:List Nat}(h:On N t W e)(h1:N[e]? = some l)(h2:l[q]? = some u):On N t (W++[((e:Int),(q:Int))]) u:=h.app (.cons h1 h2 .nil)
theorem On.isStep(h:On N t W e):∀x∈W,IsStep N x:=by
 induction h with
 | nil=>intro x hx;cases hx
 | @cons p q u e l W h1 h2 _ ih=>
  intro x hx;rcases List.mem_cons.mp hx with rfl | hx
  ·exact .inr ⟨p,q,l,u,rfl,h1,h2⟩
  ·exact ih x hx
theorem On.beg(h:On N t W e):t::W.map (leadF N)=(W.map fun s=>s.1.toNat)++[e]:=by
 induction h with
 | nil=>rfl
 | @cons p q u e l W h1 h2 _ ih=>
  rw[List.map_cons,List.map_cons,lead_at h1 h2,ih];rfl
theorem On.lt(hv:Valid N)(ht:t<N.length)(h:On N t W e):e<N.length:=by
 induction h with
 | nil=>exact ht
 | @cons p q u e l W h1 h2 _ ih=>exact ih (hv.lt l (List.mem_of_getElem? h1) u (List.mem_of_getElem? h2))
end
theorem followed_ok{K:PySem.W.Frag}{c:Cn}{H:Hp}{x d:Addr}{N:List (List Nat)}{Do Sp:Nat->Bool}{S:List Nat}{kvs:List (Key×V)}{i0 t0:Nat}{Q:VK}{E:XK}(ck:CnOk K c)(hz:PlanAt K c H x N)(hc:GbK K H d N Do Sp S kvs)(h400:N.length<=400)(hi0:S[i0]? = some t0)
  (k:∀w W e H',H w=none->On N t0 W e->W.length<=400->(∀s∈W,Do s.1.toNat=false)->EndP N Do Sp e->StepsAt K H' w W->Same H H'->Q (.ref w) H'):sp_followed K c [.ref x,.ref d,.int (t0:Int)] H Q E:=by
 obtain⟨dx2,r2,n2,e2',es,p1,_⟩:=id hz.ex;refine⟨rfl,?_⟩;unfold t_followed
 with_reducible refine s_seq ?_
 walk_at "ev";refine new_i (by simp) fun w H1 hw e1 s1=>?_
 walk_at "ev"
 with_reducible refine s_seq ?_
 walk_at "ev"
 with_reducible refine s_dget ?_
 walk_at "ev";obtain⟨v,g1,g2⟩:=(hc.same s1).get hi0;refine⟨d,_,rfl,g1,?_⟩;walk_at "ev";have hSl:S.length<=N.length:=nd_le _ _ hc.nd hc.lt;have hi0l:=(List.getElem?_eq_some_iff.mp hi0).1
 with_reducible refine s_seq ?_
 with_reducible refine s_while ?_
 refine⟨fun m σ H2=>∃(vs:List Addr) (W:List Stp) (i t:Nat) (v:V),σ=[some (.ref x),some (.ref d),some (.int (t0:Int)),some (.ref w),some v]/\H2 w=some (.lst (vs.map V.ref))/\vs.length=W.length/\(∀(j:Nat) x st,vs[j]? = some x->W[j]? = some st->StepT K H2 x st)/\On N t0 W t/\S[i]? = some t/\Jgb K H2 N Do Sp S i t v/\W.length+i<=i0/\(∀s∈W,Do s.1.toNat=false)/\Same H H2/\m=i,
  ⟨_,[],[],i0,t0,v,rfl,e1,rfl,fun j x st f1 f2=>by simp at f1,.nil,hi0,g2,by simp,by simp,s1,rfl⟩,?_⟩
 rintro m _ H2 ⟨vs,W,i,t,v,rfl,hw2,lv,at2,on,hi,js,hle,low,s2,rfl⟩;walk_at "ev";refine⟨rfl,?_⟩;walk_at "ev";rcases js with ⟨rfl,en⟩ | ⟨a,q,l,u,j,rfl,h2,h3,h4,h5,h6,h7⟩
 ·refine iteF' (by simp) ?_
  walk_at "ev";exact k w W t H2 hw on (by omega) low en ⟨vs,hw2,lv,at2⟩ s2
 ·refine iteT' (by simp) ?_
  refine⟨fun σ H3=>∃(m':Nat) (vs:List Addr) (W:List Stp) (i t:Nat) (v:V),σ=[some (.ref x),some (.ref d),some (.int (t0:Int)),some (.ref w),some v]/\H3 w=some (.lst (vs.map V.ref))/\vs.length=W.length/\(∀(j:Nat) x st,vs[j]? = some x->W[j]? = some st->StepT K H3 x st)/\On N t0 W t/\S[i]? = some t/\Jgb K H3 N Do Sp S i t v/\W.length+i<=i0/\(∀s∈W,Do s.1.toNat=false)/\Same H H3/\m'=i/\m'<m,?_,?_⟩
  ·rintro σ' H3 ⟨m',vs,W,i',t,v,e,q1,q2,q3,q4,q5,q6,q7,q8,q9,q10,q11⟩
   exact⟨m',q11,vs,W,i',t,v,e,q1,q2,q3,q4,q5,q6,q7,q8,q9,q10⟩
  with_reducible refine s_seq ?_
  walk_at "ev"
  with_reducible refine s_bm ?_
  walk_at "ev";refine⟨ty_list hw2,?_⟩;walk_at "ev";refine q_append hw2 (smallT (by rw[List.length_map];omega)) ?_;have sn:=snoc_steps (S:=W) hw2 lv at2 h2;have ew:vs.map V.ref++[V.ref a]=(vs++[a]).map V.ref:=by simp
  rw[ew];have t3:TSame H2 (upd H2 w (.lst ((vs++[a]).map V.ref))):=TSame.put hw2;obtain⟨H3,hH3⟩:∃H3,H3=upd H2 w (.lst ((vs++[a]).map V.ref)):=⟨_,rfl⟩;have hw3:H3 w=some (.lst ((vs++[a]).map V.ref)):=hH3 ▸ upd_same;have s3:Same H H3:=fun b o e=>by rw[hH3,upd_ne (ne_of_none e hw)];exact s2 _ _ e
  rw[<-hH3]at sn t3 ⊢;obtain⟨vs',z1,z2,z3⟩:=sn.ex
  have ev:vs'=vs++[a]:=by
   rw[hw3]at z1;exact(List.map_inj_right (f:=V.ref) (fun a b h=>V.ref.inj h) |>.mp (HO.lst.inj (Option.some.inj z1))).symm
  subst ev;walk_at "ev"
  with_reducible refine s_dget ?_
  walk_at "ev"
  with_reducible refine s_meth ?_
  walk_at "ev";refine⟨x,dx2,_,rfl,s3 _ _ p1,names3 r2 n2 e2' _ (by decide),?_⟩;walk_at "ev";refine leads_to_ok ck (hz.same s3).x (h2.ts t3) (.inr ⟨t,q,l,u,rfl,h3,h4⟩) ?_;rw[lead_at h3 h4];obtain⟨v',y1,y2⟩:=(hc.same s3).get h5;refine⟨d,_,rfl,y1,?_⟩;walk_at "ev"
  exact⟨_,vs++[a],W++[((t:Int),(q:Int))],j,u,v',rfl,hw3,by simp[lv],z3,on.snoc h3 h4,h5,y2,by rw[List.length_append,List.length_singleton];omega,fun s hs=>by
   rcases List.mem_append.mp hs with hs | hs
   ·exact low s hs
   ·rw[List.mem_singleton.mp hs];exact h7,s3,rfl,h6⟩
end RD
namespace RD
open PySem PySem.Spec L2
theorem stop_end{N:List (List Nat)}{t:Nat}(ht:t<N.length):(t∈stopsF N↔N[t]? = some []):=by
 refine⟨fun h=>?_,mem_stops⟩;have h:=(List.mem_filter.mp h).2;have hg:N.getD t []=N[t]:=by simp[List.getD,ht]
 unfold isStop at h;rw[at_len ht];simp only[hg]at h;simpa using h
theorem way_on_ok{K:PySem.W.Frag}{c:Cn}{H:Hp}{x:Addr}{N:List (List Nat)}{t0:Nat}{Q:VK}{E:XK}(ck:CnOk K c)(hz:PlanAt K c H x N)(hv:Valid N)(ht0:t0<N.length)
  (k:∀w W e H',H w=none->On N t0 W e->W.length<=400->N[e]? = some []->StepsAt K H' w W->Same H H'->Q (.ref w) H'):sp_way_on K c [.ref x,.int (t0:Int)] H Q E:=by
 have h400:=hv.le;obtain⟨dx2,r2,n2,e2',es,p1,_⟩:=id hz.ex;have nd0:(stopsF N).Nodup:=List.nodup_range.filter _;have lt0:∀t∈stopsF N,t<N.length:=fun t ht=>List.mem_range.mp (List.mem_filter.mp ht).1
 have l0:(stopsF N).length<=400:=Nat.le_trans (nd_le _ _ nd0 lt0) h400;refine⟨rfl,?_⟩;unfold t_way_on
 with_reducible refine s_seq ?_
 with_reducible refine s_asg ?_
 refine dict_ends nd0 l0 (fun R hR=>?_) fun d H1 hd1 e1 s1=>?_
 ·with_reducible refine s_meth ?_
  walk_at "ev";refine⟨x,dx2,_,rfl,p1,names3 r2 n2 e2' _ (by decide),?_⟩;walk_at "ev";exact plan_stops_ok ck hz hv fun a H1 _ e1 s1=>hR a H1 e1 s1
 walk_at "ev"
 with_reducible refine s_seq ?_
 walk_at "ev"
 with_reducible refine s_meth ?_
 walk_at "ev";refine⟨x,dx2,_,rfl,s1 _ _ p1,names3 r2 n2 e2' _ (by decide),?_⟩;walk_at "ev";refine plan_stops_ok ck (hz.same s1) hv fun o H2 ho e2 s2=>?_
 walk_at "ev";have I2:GbI K H H2 d o N (fun _=>false) (fun _=>false) (stopsF N) _:=⟨gb_start (s2 _ _ e1) nd0 lt0 fun t ht=>⟨rfl,.inr ((stop_end (lt0 t ht)).mp ht)⟩,s1.trans s2,e2,hd1,s1.free ho⟩
 with_reducible refine s_seq ?_
 walk_at "ev"
 with_reducible refine s_seq ?_
 with_reducible refine s_while ?_
 refine⟨fun m σ H4=>∃(y5 y6:Option V) (S:List Nat) (kvs:List (Key×V)) (dn:Nat),σ=[some (.ref x),some (.int (t0:Int)),some (.ref d),some (.ref o),some (.int (dn:Int)),y5,y6]/\GbI K H H4 d o N (fun _=>false) (fun _=>false) S kvs/\(∃ext,S=stopsF N++ext)/\dn<=S.length/\(∀(j t p:Nat) l,j<dn->S[j]? = some t->N[p]? = some l->t∈l->p∈S)/\m=N.length - dn,
  ⟨_,_,_,stopsF N,_,0,rfl,I2,⟨[],by simp⟩,by omega,by omega,rfl⟩,?_⟩
 rintro m _ H4 ⟨y5,y6,S,kvs,dn,rfl,I4,x4,hdn,c4,rfl⟩;walk_at "ev"
 with_reducible refine s_dnotin ?_
 walk_at "ev";obtain⟨o',g1,g2⟩:=I4.gb.notin t0;refine⟨d,o',rfl,g1,?_⟩;rw[g2];walk_at "ev";have hSl:S.length<=N.length:=nd_le _ _ I4.gb.nd I4.gb.lt;obtain⟨ext4,hx4⟩:=x4;by_cases hin:t0∈S
 ·refine iteF' (by rw[decide_eq_true hin];rfl) ?_
  walk_at "ev";obtain⟨i0,hi0⟩:=List.mem_iff_getElem?.mp hin;refine followed_ok ck (hz.same I4.same) I4.gb h400 hi0 fun w W e H5 hw on lW _ en sa s5=>?_
  refine k w W e H5 (I4.same.free hw) on lW ?_ sa (I4.same.trans s5);rcases en.2 with z | z
  ·cases z
  ·exact z
 ·refine iteT' (by rw[decide_eq_false hin];rfl) ?_
  have hlt:dn<S.length:=by
   refine Classical.byContradiction fun hno=>hin ?_
   have cl:∀z,Gd N z->z∈S:=by
    intro z h;induction h with
    | @stop z h=>rw[hx4];exact List.mem_append_left _ (mem_stops h)
    | @step z t l hl ht _ ih=>
     obtain⟨j,hj⟩:=List.mem_iff_getElem?.mp ih;have:=(List.getElem?_eq_some_iff.mp hj).1;exact c4 j t z l (by omega) hj hl ht
   exact cl t0 (hv.gd t0 ht0)
  obtain⟨t,htS⟩:∃t,S[dn]? = some t:=⟨_,List.getElem?_eq_getElem hlt⟩;have htn:=I4.gb.lt t (List.mem_of_getElem? htS);refine⟨fun σ H5=>∃(m':Nat) (y5 y6:Option V) (S:List Nat) (kvs:List (Key×V)) (dn':Nat),σ=[some (.ref x),some (.int (t0:Int)),some (.ref d),some (.ref o),some (.int (dn':Int)),y5,y6]/\GbI K H H5 d o N (fun _=>false) (fun _=>false) S kvs/\(∃ext,S=stopsF N++ext)/\dn'<=S.length/\(∀(j t p:Nat) l,j<dn'->S[j]? = some t->N[p]? = some l->t∈l->p∈S)/\m'=N.length - dn'/\m'<N.length - dn,?_,?_⟩
  ·rintro σ' H5 ⟨m',y5,y6,S,kvs,dn',e,r1,r2,r3,r4,r5,r6⟩
   exact⟨m',r6,y5,y6,S,kvs,dn',e,r1,r2,r3,r4,r5⟩
  with_reducible refine s_seq ?_
  walk_at "ev";refine q_ixL I4.ho (IL_at htS) ?_;walk_at "ev"
  with_reducible refine s_seq ?_
  with_reducible refine s_aug rfl ?_
  walk_at "ev";have e1':(dn:Int)+1=((dn+1:Nat):Int):=by omega
  rw[e1']
  with_reducible refine s_for (s_ilst ?_)
  walk_at "ev"
  with_reducible refine s_meth ?_
  walk_at "ev";refine⟨x,dx2,_,rfl,I4.same _ _ p1,names3 r2 n2 e2' _ (by decide),?_⟩;walk_at "ev";refine plan_into_ok ck (hz.same I4.same) htn fun st H5 hst sa s5=>?_
  obtain⟨vs,v1,v2,v3⟩:=sa.ex;have I5:=I4.next s5;have nst:st≠d/\st≠o:=⟨(ne_of_none I4.gb.hd hst).symm,(ne_of_none I4.ho hst).symm⟩;obtain⟨Z,hZ⟩:∃Z,Z=(stepsF N).filter fun s=>decide (leadF N s=t):=⟨_,rfl⟩
  rw[<-hZ]at v2 v3;refine⟨st,rfl,⟨_,SqL.of v1⟩,for_list (xs:=vs.map V.ref) (fun i σ H6=>∃(y6:Option V) (S':List Nat) (kvs':List (Key×V)),σ=[some (.ref x),some (.int (t0:Int)),some (.ref d),some (.ref o),some (.int ((dn+1:Nat):Int)),some (.int (t:Int)),y6]/\GbI K H H6 d o N (fun _=>false) (fun _=>false) S' kvs'/\(∃ext,S'=S++ext)/\But d o H5 H6/\∀(j p q:Nat),j<i->Z[j]? = some ((p:Int),(q:Int))->p∈S') ⟨_,S,kvs,rfl,I5,⟨[],by simp⟩,But.refl,by omega⟩ ?_ ?_ ?_⟩
  ·rintro i σ H6 _ ⟨_,_,_,_,_,_,bt,_⟩
   exact SqL.of (bt _ _ nst.1 nst.2 v1)
  ·rintro i y _ H6 hy ⟨y6,S',kvs',rfl,I6,⟨ext,e6⟩,bt,g6⟩
   rw[List.getElem?_map]at hy;cases hw:vs[i]? with
   | none=>rw[hw]at hy;cases hy
   | some w=>
    rw[hw]at hy;cases hy;obtain⟨s,hsi⟩:∃s,Z[i]? = some s:=⟨_,List.getElem?_eq_getElem (by have:=(List.getElem?_eq_some_iff.mp hw).1;omega)⟩;have sm:=List.mem_of_getElem? hsi;rw[hZ,List.mem_filter]at sm;have iss:=isStep_of sm.1;have ld:=of_decide_eq_true sm.2;have st6:StepT K H6 w s:=(v3 i w s hw hsi).ts (bt.ts I5.gb.hd I5.ho)
    have grow:∀S'',(∃e,S''=S'++e)->(∀p q:Nat,s=((p:Int),(q:Int))->p∈S'')->∀(j p q:Nat),j<i+1->Z[j]? = some ((p:Int),(q:Int))->p∈S'':=by
     rintro S'' ⟨e,rfl⟩ h j p q hj hj2;by_cases z:j=i
     ·subst z
      rw[hsi]at hj2;exact h p q (Option.some.inj hj2)
     ·exact List.mem_append_left _ (g6 j p q (by omega) hj2)
    walk_at "ev";refine⟨_,_,_,_,rfl,rfl,st6.sq,ck.t_FIRST_STEP H6,rfl,rfl,?_⟩;rw[eq2];walk_at "ev";rcases iss with rfl | ⟨p,q,l,t',rfl,hl,hq⟩
    ·refine iteF' rfl ?_
     refine iteF' rfl ?_;walk_at "ev";exact⟨_,S',kvs',rfl,I6,⟨ext,e6⟩,bt,grow S' ⟨[],by simp⟩ fun p q e=>(fst_ne e.symm).elim⟩
    ·rw[lead_at hl hq]at ld
     subst ld
     refine iteT' (by
      have:decide ((((p:Int),(q:Int)).1,((p:Int),(q:Int)).2)=FST)=false:=decide_eq_false fst_ne;rw[this];rfl) ?_
     rcases st6 with st6 | ⟨z,_⟩
     rotate_left
     ·exact(fst_ne z).elim
     have eqs:∀p' q':Nat,(((p:Int),(q:Int)):Stp)=((p':Int),(q':Int))->p'=p:=fun p' q' e=>by
      have:(p:Int)=(p':Int):=congrArg Prod.fst e;omega
     walk_at "ev"
     with_reducible refine s_dnotin ?_
     walk_at "ev";refine q_ixT st6 (atI0 _ _) ?_;walk_at "ev";obtain⟨o',g1,g2⟩:=I6.gb.notin p;refine⟨d,o',rfl,g1,?_⟩;rw[g2];walk_at "ev";by_cases hps:p∈S'
     ·refine iteF' (by rw[decide_eq_true hps];rfl) ?_
      walk_at "ev";exact⟨_,S',kvs',rfl,I6,⟨ext,e6⟩,bt,grow S' ⟨[],by simp⟩ fun p' q' e=>by rw[eqs p' q' e];exact hps⟩
     ·refine iteT' (by rw[decide_eq_false hps];rfl) ?_
      refine gb_put (a:=6) (b:=2) (g:=3) (j:=dn) rfl rfl rfl I6 h400 st6 hl hq (by rw[e6,List.getElem?_append_left hlt];exact htS) rfl hps fun H7 kvs7 I7 b7=>?_
      exact⟨_,S'++[p],kvs7,rfl,I7,⟨ext++[p],by rw[e6,List.append_assoc]⟩,bt.trans b7,grow _ ⟨[p],rfl⟩ fun p' q' e=>by rw[eqs p' q' e];simp⟩
  ·rintro _ H6 ⟨y6,S',kvs',rfl,I6,⟨ext,e6⟩,bt,g6⟩
   refine⟨_,_,_,S',kvs',dn+1,rfl,I6,⟨ext4++ext,by rw[e6,hx4,List.append_assoc]⟩,by rw[e6,List.length_append];omega,fun j t' p l hj hj2 hl ht=>?_,rfl,by omega⟩;rw[List.length_map,v2]at g6;have hj3:S[j]? = some t':=by rw[e6,List.getElem?_append_left (by omega)]at hj2;exact hj2
   by_cases q:j=dn
   ·subst q
    rw[htS]at hj3;cases hj3;obtain⟨q,hq⟩:=List.mem_iff_getElem?.mp ht
    have m1:(((p:Int),(q:Int)):Stp)∈Z:=by
     rw[hZ,List.mem_filter];exact⟨mem_steps (.inr ⟨p,q,l,t,rfl,hl,hq⟩),decide_eq_true (lead_at hl hq)⟩
    obtain⟨i,hi⟩:=List.mem_iff_getElem?.mp m1;exact g6 i p q (List.getElem?_eq_some_iff.mp hi).1 hi
   ·rw[e6];exact List.mem_append_left _ (c4 j t' p l (by omega) hj3 hl ht)
end RD
namespace RD
open PySem PySem.Spec L2
theorem GbK.ins{K:PySem.W.Frag}{H:Hp}{d x C dx:Addr}{N:List (List Nat)}{Do Sp:Nat->Bool}{S:List Nat}{kvs:List (Key×V)}{fs:List (Str×V)}{o:HO}(h:GbK K H d N Do Sp S kvs)(hx:H x=some (.ins C dx fs)):GbK K (upd H x o) d N Do Sp S kvs:=by
 refine⟨by rw[upd_ne (ne_of h.hd hx (by intro z;cases z))];exact h.hd,h.nd,h.lt,h.len,fun i t e=>?_⟩;obtain⟨v,q1,q2⟩:=h.at_ i t e;have:=q2.grow (ext:=[]) (TSame.ins (o:=o) hx);rw[List.append_nil]at this;exact⟨v,q1,this⟩
theorem make_wanted{K:PySem.W.Frag}{c:Cn}{H:Hp}{x dd:Addr}{N:List (List Nat)}{rs:List Addr}{ds:List V}{Do Sp:Nat->Bool}{σ:St}{a b:Nat}{Q:VK}(ck:CnOk K c)(hp:PlanQ c H x N rs)(hz:PlanAt K c H x N)(hv:Valid N)(hd:DeedQ H dd ds)(hs:DSat H rs ds Do Sp)(ea:σ[a]? = some (some (.ref x)))(eb:σ[b]? = some (some (.ref dd)))
  (k:∀wx H' S,H wx=none->Wnt K c H' wx x N Do Sp S->Same H H'->Q (.ref wx) H'):tMake c.C_Wanted (sp_Wanted_init K c) [] E0 (tCons (tVar a) (tCons (tVar b) tNil)) σ H Q:=by
 with_reducible refine s_make ?_
 refine s_cons (s_var ea (s_cons (s_var eb (s_nil ?_))));intro wx dx hwx hdx hne;refine⟨rfl,?_⟩;unfold t_Wanted_init
 with_reducible refine s_seq ?_
 with_reducible refine s_sfld ?_
 walk_at "ev";refine⟨wx,_,dx,[],rfl,upd_same,ck.cls_Wanted,ck.na_Wanted_plan,by simp,?_⟩;obtain⟨H3,hH3⟩:∃H3,H3=upd (upd (upd H dx (.own wx)) wx (.ins c.C_Wanted dx [])) wx (.ins c.C_Wanted dx (putF "plan" (.ref x) [])):=⟨_,rfl⟩;rw[<-hH3];have x3:H3 wx=some (.ins c.C_Wanted dx (putF "plan" (.ref x) [])):=hH3 ▸ upd_same
 have s3:Same H H3:=fun b o e=>by
  have n1:=ne_of_none e hwx;rw[hH3,upd_ne n1,upd_ne n1,upd_ne (ne_of_none e hdx)];exact e
 with_reducible refine s_sfld ?_
 walk_at "ev";refine unwanted_steps_ok ck (hp.same s3) (hz.same s3) hv (hd.ts (Same.ts s3)) (hs.ts (Same.ts s3)) fun d H6 S kvs gb sh s6=>?_
 walk_at "ev";have x4:=s6 _ _ x3;refine⟨wx,_,dx,_,rfl,x4,ck.cls_Wanted,ck.na_Wanted_goes_by,(by show(1:Nat)<1000;decide),?_⟩;have g7:=gb.ins (o:=.ins c.C_Wanted dx (putF "goes_by" (.ref d) (putF "plan" (.ref x) []))) x4;obtain⟨H7,hH7⟩:∃H7,H7=upd H6 wx (.ins c.C_Wanted dx (putF "goes_by" (.ref d) (putF "plan" (.ref x) []))):=⟨_,rfl⟩;rw[<-hH7]at g7 ⊢;have s7:Same H H7:=fun b o e=>by rw[hH7,upd_ne (ne_of_none e hwx)];exact s6 _ _ (s3 _ _ e)
 refine⟨rfl,k wx H7 S hwx ⟨⟨dx,d,kvs,?_,g7⟩,hz.same s7,sh⟩ s7⟩;rw[hH7,upd_same];rfl
theorem way_unwanted_ok{K:PySem.W.Frag}{c:Cn}{H:Hp}{wx x:Addr}{N:List (List Nat)}{Do Sp:Nat->Bool}{S:List Nat}{t0:Nat}{Q:VK}{E:XK}(ck:CnOk K c)(hW:Wnt K c H wx x N Do Sp S)(hv:Valid N)(ht0:t0∈S)
  (k:∀w W1 e W2 e2 H',H w=none->On N t0 W1 e->(∀s∈W1,Do s.1.toNat=false)->EndP N Do Sp e->On N e W2 e2->N[e2]? = some []->(W1++W2).length<=1000->StepsAt K H' w (W1++W2)->Same H H'->Q (.ref w) H'):sp_Wanted_way_unwanted K c [.ref wx,.int (t0:Int)] H Q E:=by
 have h400:=hv.le;obtain⟨dx,d,kvs,h1,gb⟩:=id hW.ex;obtain⟨dx2,r2,n2,e2',es,p1,_⟩:=id hW.plan.ex;refine⟨rfl,?_⟩;unfold t_Wanted_way_unwanted
 with_reducible refine s_seq ?_
 walk_at "ev"
 with_reducible refine s_meth ?_
 walk_at "ev";refine⟨wx,dx,_,rfl,h1,names_w _ _ _ (by decide),?_⟩;walk_at "ev";refine wanted_at_ok ck hW ?_;walk_at "ev";refine iteF' (by rw[decide_eq_true ht0];rfl) ?_;walk_at "ev"
 with_reducible refine s_seq ?_
 walk_at "ev"
 with_reducible refine s_fld ?_
 walk_at "ev";refine⟨wx,_,dx,_,_,rfl,h1,ck.cls_Wanted,ck.na_Wanted_plan,rfl,?_⟩;walk_at "ev"
 with_reducible refine s_fld ?_
 walk_at "ev";refine⟨wx,_,dx,_,_,rfl,h1,ck.cls_Wanted,ck.na_Wanted_goes_by,rfl,?_⟩;walk_at "ev";obtain⟨i0,hi0⟩:=List.mem_iff_getElem?.mp ht0;refine followed_ok ck hW.plan gb h400 hi0 fun w W1 e H1 hw on1 l1 low en sa s1=>?_
 obtain⟨vs,v1,v2,v3⟩:=sa.ex;have hen:e<N.length:=on1.lt hv (gb.lt t0 ht0);walk_at "ev"
 with_reducible refine s_cut (P:=fun σ H2=>σ=[some (.ref wx),some (.int (t0:Int)),some (.ref w),some (.int (e:Int))]/\H2=H1) ?_ ?_
 rotate_left
 ·intro nx hnx
  walk_at "ev";refine q_lenL v1 ?_;rw[List.length_map,v2];walk_at "ev";cases W1 with
  | nil=>
   refine iteF' rfl ?_;walk_at "ev";refine hnx _ _ ⟨?_,rfl⟩;cases on1;rfl
  | cons s0 r0=>
   refine iteT' (decide_eq_true (by rw[List.length_cons];omega)) ?_;obtain⟨W',s,hWs⟩:∃W' s,s0::r0=W'++[s]:=⟨_,_,(List.dropLast_concat_getLast (by simp)).symm⟩;rw[hWs]at on1 v2 v3
   obtain⟨vs',a,rfl⟩:∃vs' a,vs=vs'++[a]:=by
    cases vs with
    | nil=>simp at v2
    | cons b vs=>exact⟨_,_,(List.dropLast_concat_getLast (by simp)).symm⟩
   have lv:vs'.length=W'.length:=by simpa using v2
   have st:StepT K H1 a s:=v3 vs'.length a s (by simp) (by rw[lv];simp)
   have le:leadF N s=e:=by
    have:=on1.beg;rw[List.map_append,List.map_append,List.map_singleton,<-List.cons_append]at this;exact List.singleton_inj.mp (List.append_inj' this rfl).2
   rw[List.map_append]at v1;walk_at "ev"
   with_reducible refine s_meth ?_
   with_reducible refine s_fld ?_
   walk_at "ev";refine⟨wx,_,dx,_,_,rfl,s1 _ _ h1,ck.cls_Wanted,ck.na_Wanted_plan,rfl,?_⟩;refine⟨x,dx2,_,rfl,s1 _ _ p1,names3 r2 n2 e2' _ (by decide),?_⟩;walk_at "ev";refine q_ixL v1 atI_last ?_;walk_at "ev";refine leads_to_ok ck (hW.plan.same s1).x st (on1.isStep s (by simp)) ?_;rw[le];walk_at "ev";exact hnx _ _ ⟨rfl,rfl⟩
 rintro _ _ ⟨rfl,rfl⟩;walk_at "ev"
 with_reducible refine s_fld ?_
 walk_at "ev";refine⟨wx,_,dx,_,_,rfl,s1 _ _ h1,ck.cls_Wanted,ck.na_Wanted_plan,rfl,?_⟩;walk_at "ev";refine way_on_ok ck (hW.plan.same s1) hv hen fun w2 W2 e2 H3 hw2 on2 l2 st2 sa2 s3=>?_
 obtain⟨us,u1,u2,u3⟩:=sa2.ex;refine q_addL (s3 _ _ v1) u1 ?_;refine new_i (Nat.le_of_lt (by rw[List.length_map,List.length_map,v2,u2];show W1.length+W2.length<100000;omega)) fun y H4 hy e4 s4=>?_
 refine k y W1 e W2 e2 H4 ((s1.trans s3).free hy) on1 low en on2 st2 (by rw[List.length_append];omega) ?_ ((s1.trans s3).trans s4);refine⟨vs++us,by rw[List.map_append];exact e4,by simp[v2,u2],fun i z s f1 f2=>?_⟩;by_cases q:i<vs.length
 ·rw[List.getElem?_append_left q]at f1
  rw[List.getElem?_append_left (by omega)]at f2;exact(v3 i z s f1 f2).ts (Same.ts (s3.trans s4))
 ·rw[List.getElem?_append_right (by omega)]at f1
  rw[List.getElem?_append_right (by omega),<-v2]at f2;exact(u3 _ z s f1 f2).ts (Same.ts s4)
end RD
namespace RD
open PySem PySem.Spec L2
inductive UnR(N:List (List Nat))(Do Sp:Nat->Bool):Nat->Prop
 | zero:UnR N Do Sp 0
 | sp {p t:Nat} {l:List Nat}:Sp p=true->N[p]? = some l->t∈l->UnR N Do Sp t
 | no {p t:Nat} {l:List Nat}:UnR N Do Sp p->Do p=false->N[p]? = some l->t∈l->UnR N Do Sp t
inductive UnW(N:List (List Nat))(Do Sp:Nat->Bool):Nat->Prop
 | en {t:Nat}:t<N.length->EndP N Do Sp t->UnW N Do Sp t
 | no {p t:Nat} {l:List Nat}:N[p]? = some l->Do p=false->t∈l->UnW N Do Sp t->UnW N Do Sp p
section
variable {K:PySem.W.Frag}{H H':Hp}{d d':Addr}{N:List (List Nat)}{Do Sp:Nat->Bool}{S S':List Nat}{kvs kvs':List (Key×V)}
theorem unR_iff(cb:CbK K H d N Do Sp S kvs)(sh:Shut N Do Sp S)(t:Nat):t∈S↔UnR N Do Sp t:=by
 constructor
 ·intro h
  obtain⟨i,hi⟩:=List.mem_iff_getElem?.mp h;clear h;induction i using Nat.strongRecOn generalizing t with
  | ind i ih=>
   obtain⟨a,s,_,_,j⟩:=cb.at_ i t hi;rcases j with ⟨_,_,rfl⟩ | ⟨p,q,l,_,h2,h3,h4⟩
   ·exact .zero
   ·rcases h4 with h4 | ⟨j,j1,j2,j3⟩
    ·exact .sp h4 h2 (List.mem_of_getElem? h3)
    ·exact .no (ih j j1 p j2) j3 h2 (List.mem_of_getElem? h3)
 ·intro h
  induction h with
  | zero=>exact List.mem_of_getElem? cb.z
  | @sp p t l h1 h2 h3=>exact sh.sp p l h1 h2 t h3
  | @no p t l _ h1 h2 h3 ih=>exact sh.no p l ih h1 h2 t h3
theorem unW_iff(gb:GbK K H d N Do Sp S kvs)(sh:ShutG N Do Sp S)(t:Nat):t∈S↔UnW N Do Sp t:=by
 constructor
 ·intro h
  obtain⟨i,hi⟩:=List.mem_iff_getElem?.mp h;clear h;induction i using Nat.strongRecOn generalizing t with
  | ind i ih=>
   obtain⟨v,_,j⟩:=gb.at_ i t hi;rcases j with ⟨_,h⟩ | ⟨a,q,l,u,j,_,_,h3,h4,h5,h6,h7⟩
   ·exact .en (gb.lt t (List.mem_of_getElem? hi)) h
   ·exact .no h3 h7 (List.mem_of_getElem? h4) (ih j h6 u h5)
 ·intro h
  induction h with
  | @en t h1 h2=>exact sh.en t h1 h2
  | @no p t l h1 h2 h3 _ ih=>exact sh.no p l h1 h2 t h3 ih
end
def toldF(N:List (List Nat))(Do Sp:Nat->Bool)(S S':List Nat)(ask p:Nat)(s:Stp):Bool:=
 match ask with
 | 0 => !decide (p∈S)
 | 1=>beh Do Sp S p
 | 2=>onF Do Sp S s
 | 3 => !decide (p∈S)
 | 4 => !decide (p∈S')
 | 5=>behG N S' p
 | 6 => !decide (leadF N s∈S')
 | _ => !decide (p∈S')
theorem dec_iff{a b:Prop}[Decidable a][Decidable b](h:a↔b):decide a=decide b:=by
 by_cases q:a
 ·rw[decide_eq_true q,decide_eq_true (h.mp q)]
 ·rw[decide_eq_false q,decide_eq_false fun z=>q (h.mpr z)]
theorem told_eq{N:List (List Nat)}{Do Sp:Nat->Bool}{S1 S2 T1 T2:List Nat}(h:∀t,t∈S1↔t∈S2)(h':∀t,t∈T1↔t∈T2)(ask p:Nat)(s:Stp):toldF N Do Sp S1 T1 ask p s=toldF N Do Sp S2 T2 ask p s:=by
 have b:∀p,beh Do Sp S1 p=beh Do Sp S2 p:=fun p=>by
  unfold beh;rw[dec_iff (h p)]
 unfold toldF;split
 ·rw[dec_iff (h p)]
 ·exact b p
 ·unfold onF
  rw[b]
 ·rw[dec_iff (h p)]
 ·rw[dec_iff (h' p)]
 ·unfold behG
  congr 2;funext t;rw[dec_iff (h' t)]
 ·rw[dec_iff (h' _)]
 ·rw[dec_iff (h' p)]
theorem way_unready_no{K:PySem.W.Frag}{c:Cn}{H:Hp}{rx x dd:Addr}{N:List (List Nat)}{rs:List Addr}{ds:List V}{Do Sp:Nat->Bool}{S:List Nat}{t0:Nat}{Q:VK}{E:XK}(ck:CnOk K c)(hR:Rdy K c H rx x dd N rs ds Do Sp S)(ht0:¬t0∈S)(k:Q .non H):sp_Ready_way_unready K c [.ref rx,.int (t0:Int)] H Q E:=by
 obtain⟨dx,d,kvs,h1,cb⟩:=hR.ex;refine⟨rfl,?_⟩;unfold t_Ready_way_unready
 with_reducible refine s_seq ?_
 walk_at "ev"
 with_reducible refine s_meth ?_
 walk_at "ev";refine⟨rx,dx,_,rfl,h1,rfl,?_⟩;walk_at "ev";refine ready_at_ok ck hR ?_;walk_at "ev";refine iteT' (by rw[decide_eq_false ht0];rfl) ?_;walk_at "ev";exact k
theorem way_unwanted_no{K:PySem.W.Frag}{c:Cn}{H:Hp}{wx x:Addr}{N:List (List Nat)}{Do Sp:Nat->Bool}{S:List Nat}{t0:Nat}{Q:VK}{E:XK}(ck:CnOk K c)(hW:Wnt K c H wx x N Do Sp S)(ht0:¬t0∈S)(k:Q .non H):sp_Wanted_way_unwanted K c [.ref wx,.int (t0:Int)] H Q E:=by
 obtain⟨dx,d,kvs,h1,gb⟩:=hW.ex;refine⟨rfl,?_⟩;unfold t_Wanted_way_unwanted
 with_reducible refine s_seq ?_
 walk_at "ev"
 with_reducible refine s_meth ?_
 walk_at "ev";refine⟨wx,dx,_,rfl,h1,names_w _ _ _ (by decide),?_⟩;walk_at "ev";refine wanted_at_ok ck hW ?_;walk_at "ev";refine iteT' (by rw[decide_eq_false ht0];rfl) ?_;walk_at "ev";exact k
theorem names_r(a b d:V)(m:Str)(h:m∉(["plan", "deed", "come_by"]:List Str)):([("plan", a),("deed", b),("come_by", d)]:List (Str×V)).lookup m=none:=by
 have h1:m≠("plan" : Str):=fun e=>h (by rw[e];simp)
 have h2:m≠("deed" : Str):=fun e=>h (by rw[e];simp)
 have h3:m≠("come_by" : Str):=fun e=>h (by rw[e];simp)
 simp[List.lookup,beq_eq_false_iff_ne.mpr h1,beq_eq_false_iff_ne.mpr h2,beq_eq_false_iff_ne.mpr h3]
theorem told_ok{K:PySem.W.Frag}{c:Cn}{H:Hp}{rx wx x dd a:Addr}{N:List (List Nat)}{rs:List Addr}{ds:List V}{Do Sp:Nat->Bool}{S S':List Nat}{ask p:Nat}{s:Stp}{Q:VK}{E:XK}(ck:CnOk K c)(hR:Rdy K c H rx x dd N rs ds Do Sp S)(hW:Wnt K c H wx x N Do Sp S')(hv:Valid N)(ha:ask<8)(hp:p<N.length)(hst:StepT K H a s)(his:IsStep N s)
  (k:∀H',Same H H'->Q (.bl (toldF N Do Sp S S' ask p s)) H'):sp_told K c [.ref rx,.ref wx,.int (ask:Int),.int (p:Int),.ref a] H Q E:=by
 obtain⟨dx,d,kvs,h1,cb⟩:=id hR.ex;obtain⟨wdx,wd,wkvs,w1,gb⟩:=id hW.ex;refine⟨rfl,?_⟩;unfold t_told;have ne:∀(n m:Nat),n≠m->decide (V.int (n:Int)=V.int (m:Int))=false:=fun n m h=>decide_eq_false fun z=>h (by have:=V.int.inj z;omega)
 have step:∀(m:Nat) {D:Ends} {σ:St} {t1 t2:TS},ask≠m->σ[2]? = some (some (.int (ask:Int)))->t2 D σ H->tSeq (tIfS (tTest (tOp qEq (tVar 2) (tC (.int (m:Int))))) t1 tNext) t2 D σ H:=by
  intro m D σ t1 t2 h e g
  with_reducible refine s_seq ?_
  with_reducible refine s_if ?_
  with_reducible refine s_test ?_
  with_reducible refine s_op ?_
  with_reducible refine s_var e ?_
  with_reducible refine s_c ?_
  refine q_eq rfl ?_;refine⟨_,rfl,?_⟩;refine iteF' (ne _ _ h) ?_
  with_reducible refine s_next ?_
  exact g
 have hit:∀(m:Nat) {D:Ends} {σ:St} {t1 t2:TS},ask=m->σ[2]? = some (some (.int (ask:Int)))->t1 { D with nx:=fun σ H=>t2 D σ H } σ H->tSeq (tIfS (tTest (tOp qEq (tVar 2) (tC (.int (m:Int))))) t1 tNext) t2 D σ H:=by
  intro m D σ t1 t2 h e g
  with_reducible refine s_seq ?_
  with_reducible refine s_if ?_
  with_reducible refine s_test ?_
  with_reducible refine s_op ?_
  with_reducible refine s_var e ?_
  with_reducible refine s_c ?_
  refine q_eq rfl ?_;refine⟨_,rfl,?_⟩;refine iteT' (by rw[h];simp) ?_;exact g
 by_cases e0:ask=0
 ·refine hit 0 e0 rfl ?_
  subst e0;walk_at "ev"
  with_reducible refine s_meth ?_
  walk_at "ev";refine⟨rx,dx,_,rfl,h1,names_r _ _ _ _ (by decide),?_⟩;walk_at "ev";exact ready_at_ok ck hR (k H (Same.refl _))
 refine step 0 e0 rfl ?_;by_cases e1:ask=1
 ·refine hit 1 e1 rfl ?_
  subst e1;walk_at "ev"
  with_reducible refine s_meth ?_
  walk_at "ev";refine⟨rx,dx,_,rfl,h1,names_r _ _ _ _ (by decide),?_⟩;walk_at "ev";exact ready_behind_ok ck hR hp k
 refine step 1 e1 rfl ?_;by_cases e2:ask=2
 ·refine hit 2 e2 rfl ?_
  subst e2;walk_at "ev"
  with_reducible refine s_meth ?_
  walk_at "ev";refine⟨rx,dx,_,rfl,h1,names_r _ _ _ _ (by decide),?_⟩;walk_at "ev";exact ready_on_ok ck hR hst his k
 refine step 2 e2 rfl ?_;by_cases e3:ask=3
 ·refine hit 3 e3 rfl ?_
  subst e3;walk_at "ev"
  with_reducible refine s_meth ?_
  walk_at "ev";refine⟨rx,dx,_,rfl,h1,names_r _ _ _ _ (by decide),?_⟩;walk_at "ev";by_cases hS:p∈S
  ·refine way_unready_ok ck hR hv hS fun w r H1 _ _ _ _ _ s1=>?_
   walk_at "ev";refine⟨rfl,?_⟩;have:=k H1 s1;unfold toldF at this;rw[decide_eq_true hS]at this;exact this
  ·refine way_unready_no ck hR hS ?_
   walk_at "ev";refine⟨rfl,?_⟩;have:=k H (Same.refl _);unfold toldF at this;rw[decide_eq_false hS]at this;exact this
 refine step 3 e3 rfl ?_;by_cases e4:ask=4
 ·refine hit 4 e4 rfl ?_
  subst e4;walk_at "ev"
  with_reducible refine s_meth ?_
  walk_at "ev";refine⟨wx,wdx,_,rfl,w1,names_w _ _ _ (by decide),?_⟩;walk_at "ev";exact wanted_at_ok ck hW (k H (Same.refl _))
 refine step 4 e4 rfl ?_;by_cases e5:ask=5
 ·refine hit 5 e5 rfl ?_
  subst e5;walk_at "ev"
  with_reducible refine s_meth ?_
  walk_at "ev";refine⟨wx,wdx,_,rfl,w1,names_w _ _ _ (by decide),?_⟩;walk_at "ev";exact wanted_behind_ok ck hW hv hp k
 refine step 5 e5 rfl ?_;by_cases e6:ask=6
 ·refine hit 6 e6 rfl ?_
  subst e6;walk_at "ev"
  with_reducible refine s_meth ?_
  walk_at "ev";refine⟨wx,wdx,_,rfl,w1,names_w _ _ _ (by decide),?_⟩;walk_at "ev";exact wanted_on_ok ck hW hst his (k H (Same.refl _))
 refine step 6 e6 rfl ?_;obtain rfl:ask=7:=by omega
 walk_at "ev"
 with_reducible refine s_meth ?_
 walk_at "ev";refine⟨wx,wdx,_,rfl,w1,names_w _ _ _ (by decide),?_⟩;walk_at "ev";by_cases hS:p∈S'
 ·refine way_unwanted_ok ck hW hv hS fun w W1 e W2 e2 H1 _ _ _ _ _ _ _ _ s1=>?_
  walk_at "ev";refine⟨rfl,?_⟩;have:=k H1 s1;unfold toldF at this;rw[decide_eq_true hS]at this;exact this
 ·refine way_unwanted_no ck hW hS ?_
  walk_at "ev";refine⟨rfl,?_⟩;have:=k H (Same.refl _);unfold toldF at this;rw[decide_eq_false hS]at this;exact this
end RD
namespace RD
open PySem PySem.Spec L2
theorem PlanZ.weak{K:PySem.W.Frag}{c:Cn}{Z Z':Addr->Prop}{rs:List Addr}{H:Hp}{x:Addr}{N:List (List Nat)}(h:PlanZ K c Z rs H x N)(hz:∀z,Z' z->Z z):PlanZ K c Z' rs H x N:=by
 obtain⟨dx,r,n,e,es,ns,h1,h2,h3,h4,h5,h6,h7,h8,h9⟩:=h.ex;exact⟨dx,r,n,e,es,ns,h1,h2,h3,h4,h5,h6,h7,h8,fun z q=>h9 z (hz z q)⟩
theorem made_ok{K:PySem.W.Frag}{c:Cn}{H:Hp}{ra na:Addr}{N:List (List Nat)}{rs:List Addr}{Q:VK}{E:XK}(ck:CnOk K c)(hrs:H ra=some (.lst (rs.map V.ref)))(R:RowsAt H ra N)(T:NetAt H na N)(hv:Valid N)
  (k:∀x H',H x=none->PlanZ K c (fun z=>∃o,H z=some o) rs H' x N->Same H H'->Q (.ref x) H'):sp_made K c [.ref ra,.ref na] H Q E:=by
 refine⟨rfl,?_⟩;unfold t_made
 with_reducible refine s_seq ?_
 walk_at "ev";refine q_listL hrs fun ra' H3 hra' e3 s3=>?_
 walk_at "ev";refine lists_new (T.same s3) hv.le fun na' ns H4 hna' e4 f4 T4 s4=>?_
 walk_at "ev";refine new_i (by simp) fun hd H5 hhd e5 s5=>?_
 walk_at "ev"
 with_reducible refine s_seq ?_
 walk_at "ev"
 with_reducible refine s_make ?_
 walk_at "ev";refine q_ixL e5 (atI0 _ _) ?_;walk_at "ev";refine q_ixL e5 (atI1 _ _ _) ?_;walk_at "ev";intro x dx hx hdx hne
 have sm:Same H5 (upd (upd H5 dx (.own x)) x (.ins c.C_Plan dx [])):=fun b o e=>by
  rw[upd_ne (ne_of_none e hx),upd_ne (ne_of_none e hdx)];exact e
 obtain⟨H6,hH6⟩:∃H6,H6=upd (upd H5 dx (.own x)) x (.ins c.C_Plan dx []):=⟨_,rfl⟩;have x6:H6 x=some (.ins c.C_Plan dx []):=hH6 ▸ upd_same;rw[<-hH6]at sm ⊢;have s34:=s3.trans s4;have s35:=s34.trans s5;have s36:=s35.trans sm;have r5:H5 ra'=some (.lst (rs.map V.ref)):=s5 _ _ (s4 _ _ e3);have n5:=s5 _ _ e4
 have R5:RowsAt H5 ra' N:=by
  obtain⟨rs',q1,q2,q3⟩:=id (R.same s35).ex;rw[s35 _ _ hrs]at q1;obtain rfl:rs'=rs:=(List.map_inj_right (f:=V.ref) (fun a b h=>V.ref.inj h) |>.mp (HO.lst.inj (Option.some.inj q1))).symm;exact⟨rs',r5,q2,q3⟩
 refine plan_init_ok ck (sm _ _ r5) (R5.same sm) ((T4.same s5).same sm) hv x6 fun H7 pz old=>⟨rfl,?_⟩
 have s57:Same H5 H7:=fun b o e=>old b o (sm _ _ e) (ne_of_none e hx)
 have s37:=s35.trans s57;walk_at "ev"
 with_reducible refine s_seq ?_
 walk_at "ev"
 with_reducible refine s_bm0 ?_
 walk_at "ev";refine q_ixL (s57 _ _ e5) (atI0 _ _) ?_;have r7:=s57 _ _ r5;refine⟨ty_list r7,q_clear r7 ?_⟩;have nar:na'≠ra':=(ne_of_none e3 hna').symm;have hdr:hd≠ra':=(ne_of_none (s4 _ _ e3) hhd).symm;have pz8:PlanZ K c _ rs _ x N:=pz.put (ys:=[]) ⟨_,sm _ _ r5,ne_of_none r5 hx⟩ r7;obtain⟨H8,hH8⟩:∃H8,H8=upd H7 ra' (.lst []):=⟨_,rfl⟩;rw[<-hH8]at pz8 ⊢;have old8:∀b o,b≠ra'->H7 b=some o->H8 b=some o:=fun b o n e=>by rw[hH8,upd_ne n];exact e
 have s38:Same H H8:=fun b o e=>old8 b o (ne_of_none e hra') (s37 _ _ e)
 with_reducible refine s_seq ?_
 with_reducible refine s_for (s_ilst ?_)
 walk_at "ev";refine q_ixL (old8 _ _ hdr (s57 _ _ e5)) (atI1 _ _ _) ?_;have n8:H8 na'=some (.lst (ns.map V.ref)):=old8 _ _ nar (s57 _ _ n5);refine⟨na',rfl,⟨_,SqL.of n8⟩,for_list (xs:=ns.map V.ref) (fun i σ H9=>∃y4,σ=[some (.ref ra),some (.ref na),some (.ref hd),some (.ref x),y4]/\PlanZ K c (fun z=>∃o,H6 z=some o/\z≠x) rs H9 x N/\Same H H9/\H9 na'=some (.lst (ns.map V.ref))/\∀y∈ns,∃xs,H9 y=some (.lst xs)) ⟨_,rfl,pz8,s38,n8,fun y hy=>?_⟩ ?_ ?_ ?_⟩
 ·obtain⟨q1,q2,xs,q3⟩:=f4 y hy
  exact⟨xs,old8 _ _ (ne_of_none e3 q1).symm (s57 _ _ (s5 _ _ q3))⟩
 ·rintro i σ H9 _ ⟨_,_,_,_,h,_⟩
  exact SqL.of h
 ·rintro i y _ H9 hy ⟨y4,rfl,pz9,s9,n9,f9⟩
  rw[List.getElem?_map]at hy;cases hw:ns[i]? with
  | none=>rw[hw]at hy;cases hy
  | some w=>
   rw[hw]at hy;cases hy;have hm:=List.mem_of_getElem? hw;obtain⟨q1,q2,xs0,q3⟩:=f4 w hm;obtain⟨xs,hxs⟩:=f9 w hm;walk_at "ev"
   with_reducible refine s_bm0 ?_
   walk_at "ev";refine⟨ty_list hxs,q_clear hxs ?_⟩;have w5:=s5 _ _ q3;refine⟨_,rfl,pz9.put ⟨_,sm _ _ w5,ne_of_none w5 hx⟩ hxs,fun b o e=>?_,by rw[upd_ne q2.symm];exact n9,fun y hy=>?_⟩
   ·rw[upd_ne (ne_of_none (s3 _ _ e) q1)];exact s9 _ _ e
   ·by_cases q:y=w
    ·subst q
     exact⟨_,upd_same⟩
    ·obtain⟨xs',h'⟩:=f9 y hy
     exact⟨xs',by rw[upd_ne q];exact h'⟩
 ·rintro _ H9 ⟨y4,rfl,pz9,s9,n9,f9⟩
  walk_at "ev";exact k x H9 (s35.free hx) (pz9.weak fun z ⟨o,e⟩=>⟨o,s36 _ _ e,ne_of_none (s35 _ _ e) hx⟩) s9
structure Drw(H:Hp)(p ra na sa da:Addr)(N:List (List Nat)):Prop where
 e:H p=some (.tup [.ref ra,.ref na,.ref sa,.ref da])
 R:RowsAt H ra N
 T:NetAt H na N
 M:NamesN H sa
 M2:∃ss:List Str,H sa=some (.lst (ss.map V.str))/\2<=ss.length
 P:PoolN H da
 v:Valid N
 l24:N.length<=24
theorem Drw.same{H H':Hp}{p ra na sa da:Addr}{N:List (List Nat)}(h:Drw H p ra na sa da N)(s:Same H H'):Drw H' p ra na sa da N:=by
 obtain⟨ss,m1,m2⟩:=h.M2;exact⟨s _ _ h.e,h.R.same s,h.T.same s,h.M.same s,⟨ss,s _ _ m1,m2⟩,h.P.same s,h.v,h.l24⟩
theorem Drw.kept{H H':Hp}{b c p ra na sa da:Addr}{N:List (List Nat)}(h:Drw H p ra na sa da N)(hB:Bag H b c)(k:Kept b H H'):Drw H' p ra na sa da N:=by
 obtain⟨ss,m1,m2⟩:=h.M2;have q:=h.M.kept hB k;exact⟨k.ts hB _ _ h.e,h.R.kept hB k,h.T.kept hB h.v.two k,q.1,⟨ss,k.1 _ _ m1 q.2,m2⟩,h.P.kept hB k,h.v,h.l24⟩
theorem second_ok{K:PySem.W.Frag}{H:Hp}{b c p ra na sa da:Addr}{N:List (List Nat)}{Q:VK}{E:XK}(hB:Bag H b c)(D:Drw H p ra na sa da N)
  (k:∀p' ra' na' sa' da' N' H',Drw H' p' ra' na' sa' da' N'->Bag H' b c->Kept b H H'->Q (.ref p') H'):sp_second K [.ref b,.ref p] H Q E:=by
 refine⟨rfl,?_⟩;unfold t_second
 with_reducible refine s_seq ?_
 walk_at "ev";refine⟨p,_,rfl,SqT.of D.e,rfl,_,_,rfl,_,_,rfl,_,_,rfl,_,_,rfl,rfl,?_⟩
 with_reducible refine s_seq ?_
 walk_at "ev";refine take_ok hB (by decide) (by decide) fun n1 H1 a0 a1 B1 k1=>?_
 walk_at "ev";refine ite2 (fun _=>?_) (fun _=>?_)
 ·walk_at "ev"
  refine plan_new B1 fun p' ra' na' sa' da' N' H' h1 h2 h3 h4 h5 h6 h7 h8 _ _ B' k'=>?_
  exact k p' ra' na' sa' da' N' H' ⟨h1,h2,h3,h4,h5,h6,h7,h8⟩ B' (k1.trans k')
 have D1:=D.kept hB k1;walk_at "ev"
 with_reducible refine s_seq ?_
 walk_at "ev";obtain⟨rs,r1,r2,r3⟩:=id D1.R.ex;refine q_lenL r1 ?_;have pos:=D1.v.pos;have l24:=D1.l24;walk_at "ev"
 refine take_ok B1 (by rw [List.length_map]; omega) (by rw [List.length_map]; have : (2 : Int) ^ 64 = 18446744073709551616 := by decide
                                                        omega) fun n2 H2 b0 b1 B2 k2=>?_
 have D2:=D1.kept B1 k2;rw[List.length_map]at b1;walk_at "ev"
 with_reducible refine s_seq ?_
 walk_at "ev";have r12:H2 ra=some (.lst (rs.map V.ref)):=k2.1 _ _ r1 (refs_ne B1 r1);refine q_listL r12 fun ra' H3 hra' e3 s3=>?_
 have D3:=D2.same s3;have B3:=B2.same s3;obtain⟨n,rfl⟩:∃n:Nat,n2=(n:Int):=⟨n2.toNat,by omega⟩;have hn:n<rs.length:=by omega
 obtain⟨rx,hrx⟩:∃rx,rs[n]? = some rx:=⟨_,List.getElem?_eq_getElem hn⟩;have k13:=(k1.trans k2).trans (Kept.of_same s3);have row:∀(i:Nat) x l,rs[i]? = some x->N[i]? = some l->RowN H3 (.ref x) (l.length == 2):=fun i x l e1 e2=>((r3 i x l e1 e2).ts (k2.ts B1)).ts (Same.ts s3)
 have hnN:n<N.length:=by omega
 obtain⟨px,xs,hpx,hxs,_,kk,rr,rfl,hask⟩:=row n rx _ hrx (at_len hnN);cases hpx;walk_at "ev"
 with_reducible refine s_cut (P:=fun σ H4=>∃rs',σ=[some (.ref b),some (.ref p),some (.ref ra),some (.ref na),some (.ref sa),some (.ref da),some (.int (n:Int)),some (.ref ra')]/\H4 ra'=some (.lst ((rs':List Addr).map V.ref))/\rs'.length=N.length/\(∀(i:Nat) x l,rs'[i]? = some x->N[i]? = some l->RowN H4 (.ref x) (l.length == 2))/\Drw H4 p ra na sa da N/\Bag H4 b c/\Kept b H H4) ?_ ?_
 ·rintro _ H4 ⟨rs',rfl,q1,q2,q3,D4,B4,k4⟩
  walk_at "ev";refine new_i (by simp) fun p' H5 hp' e5 s5=>?_
  have D5:=D4.same s5;refine k p' ra' na sa da N H5 ⟨e5,?_,D5.T,D5.M,D5.M2,D5.P,D5.v,D5.l24⟩ (B4.same s5) (k4.trans (Kept.of_same s5));exact⟨rs',s5 _ _ q1,q2,fun i x l a b=>(q3 i x l a b).ts (Same.ts s5)⟩
 ·intro nx hnx
  walk_at "ev";refine q_ixL (s3 _ _ r12) (atI_nat (by rw[List.getElem?_map,hrx];rfl)) ?_;walk_at "ev";refine q_ixT hxs (atI0 _ _) ?_;walk_at "ev";refine ite2 (fun e=>?_) (fun e=>?_)
  ·have l2:((N[n]).length == 2)=false:=by
    rw[<-hask];refine decide_eq_false fun z=>?_
    rw[z]at e;simp at e
   obtain⟨ss,m1,m2,m3,m4⟩:=id D3.M.ex
   have m5:2<=ss.length:=by
    obtain⟨ss',z1,z2⟩:=D3.M2;rw[m1]at z1;have:=congrArg List.length (HO.lst.inj (Option.some.inj z1));rw[List.length_map,List.length_map]at this;omega
   walk_at "ev";refine row_ok (few:=1) B3 m1 m3 (by omega) m4 D3.P fun v H4 rv B4 k4=>?_
   walk_at "ev";obtain⟨px,ys,rfl,hys,rest⟩:=id rv;have nb:ra'≠b:=(B2.nb hra').1;have e4:H4 ra'=some (.lst (rs.map V.ref)):=k4.1 _ _ e3 nb;refine q_set (k:=n) e4 (by unfold ixN;rw[if_pos (by omega),if_pos (by rw[List.length_map];omega),Int.toNat_natCast]) ?_;have es:(rs.map V.ref).set n (V.ref px)=(rs.set n px).map V.ref:=by rw[List.map_set]
   rw[es];have D4:=D3.kept B3 k4;have t5:TSame H4 (upd H4 ra' (.lst ((rs.set n px).map V.ref))):=TSame.put e4;have f3:H3 ra'=some _:=e3;have old:∀a o,H2 a=some o->a≠ra':=fun a o h=>ne_of_none h hra'
   refine hnx _ _ ⟨rs.set n px,rfl,upd_same,by rw[List.length_set,r2],fun i x l g1 g2=>?_,?_,?_,?_⟩
   ·by_cases q:i=n
    ·subst q
     rw[List.getElem?_set_self hn]at g1;cases g1;rw[at_len hnN]at g2;cases g2;rw[l2];exact rv.ts t5
    ·rw[List.getElem?_set_ne (Ne.symm q)]at g1
     exact((row i x l g1 g2).ts (k4.ts B3)).ts t5
   ·have k24:Kept b H2 (upd H4 ra' (.lst ((rs.set n px).map V.ref))):=((Kept.of_same s3).trans k4).put hra'
    exact D2.kept B2 k24
   ·exact B4.put nb fun z=>by
     obtain⟨_,_,_,_,_,z2,_⟩:=B2.ex;exact old _ _ z2 z.symm
   ·exact(k1.trans k2).trans (((Kept.of_same s3).trans k4).put hra')
  ·walk_at "ev"
   exact hnx _ _ ⟨rs,rfl,e3,r2,row,D3,B3,k13⟩
end RD
namespace RD
open PySem PySem.Spec L2
structure Pr(K:PySem.W.Frag)(c:Cn)(Z:Addr->Prop)(Hd H:Hp)(p:Addr)(rx wx ra na dd x:Addr)(N:List (List Nat))(rs:List Addr)(ds:List V)(Do Sp:Nat->Bool)(S S':List Nat):Prop where
 e:H p=some (.tup [.ref rx,.ref wx,.ref ra,.ref na,.ref dd])
 r:Hd ra=some (.lst (rs.map V.ref))
 R:RowsAt Hd ra N
 T:NetAt Hd na N
 v:Valid N
 l24:N.length<=24
 q:DeedQ Hd dd ds
 s:DSat Hd rs ds Do Sp
 rdy:∃dx d kvs,H rx=some (.ins c.C_Ready dx [("plan", .ref x),("deed", .ref dd),("come_by", .ref d)])/\CbK K H d N Do Sp S kvs
 wnt:∃dx d kvs,H wx=some (.ins c.C_Wanted dx [("plan", .ref x),("goes_by", .ref d)])/\GbK K H d N Do Sp S' kvs
 pz:PlanZ K c Z rs H x N
 sh:Shut N Do Sp S
 sg:ShutG N Do Sp S'
def PrE(K:PySem.W.Frag)(c:Cn)(Z:Addr->Prop)(Hd H:Hp)(p:Addr):Prop:=∃rx wx ra na dd x N rs ds Do Sp S S',Pr K c Z Hd H p rx wx ra na dd x N rs ds Do Sp S S'
section
variable {K:PySem.W.Frag}{c:Cn}{Z:Addr->Prop}{Hd H H':Hp}{p:Addr}{rx wx ra na dd x:Addr}{N:List (List Nat)}{rs:List Addr}{ds:List V}{Do Sp:Nat->Bool}{S S':List Nat}
theorem CbK.move{d:Addr}{kvs:List (Key×V)}(h:CbK K H d N Do Sp S kvs)(t:TSame H H')(hd:H' d=some (.dK kvs)):CbK K H' d N Do Sp S kvs:=
 ⟨hd,h.nd,h.lt,h.len,h.z,fun i t' e=>let⟨a,st,q1,q2,q3⟩:=h.at_ i t' e; ⟨a,st,q1,q2.ts t,q3⟩⟩
theorem GbK.move{d:Addr}{kvs:List (Key×V)}(h:GbK K H d N Do Sp S kvs)(t:TSame H H')(hd:H' d=some (.dK kvs)):GbK K H' d N Do Sp S kvs:=
 ⟨hd,h.nd,h.lt,h.len,fun i t' e=>by
  obtain⟨v,q1,q2⟩:=h.at_ i t' e;have:=q2.grow (ext:=[]) t;rw[List.append_nil]at this;exact⟨v,q1,this⟩⟩
theorem Pr.move(h:Pr K c Z Hd H p rx wx ra na dd x N rs ds Do Sp S S')(ob:∀a o,H a=some o->(∀xs,o≠.lst xs)->H' a=some o)(pz:PlanZ K c Z rs H' x N):Pr K c Z Hd H' p rx wx ra na dd x N rs ds Do Sp S S':=by
 have t:TSame H H':=fun a xs q=>ob a _ q fun _ z=>by cases z
 obtain⟨dx,d,kvs,h1,h2⟩:=h.rdy;obtain⟨dx',d',kvs',w1,w2⟩:=h.wnt;exact⟨t _ _ h.e,h.r,h.R,h.T,h.v,h.l24,h.q,h.s,⟨dx,d,kvs,ob _ _ h1 fun _ z=>(by cases z),h2.move t (ob _ _ h2.hd fun _ z=>by cases z)⟩,⟨dx',d',kvs',ob _ _ w1 fun _ z=>(by cases z),w2.move t (ob _ _ w2.hd fun _ z=>by cases z)⟩,pz,h.sh,h.sg⟩
theorem Pr.same(h:Pr K c Z Hd H p rx wx ra na dd x N rs ds Do Sp S S')(s:Same H H'):Pr K c Z Hd H' p rx wx ra na dd x N rs ds Do Sp S S':=h.move (fun a o e _=>s a o e) (h.pz.same s)
theorem Pr.put{z:Addr}{xs ys:List V}(h:Pr K c Z Hd H p rx wx ra na dd x N rs ds Do Sp S S')(hz:Z z)(hl:H z=some (.lst xs)):Pr K c Z Hd (upd H z (.lst ys)) p rx wx ra na dd x N rs ds Do Sp S S':=
 h.move (fun a o e n=>by rw[upd_ne (ne_of e hl (n xs))];exact e) (h.pz.put hz hl)
theorem Pr.up(h:Pr K c Z Hd H p rx wx ra na dd x N rs ds Do Sp S S')(s:Same Hd H'):Pr K c Z H' H p rx wx ra na dd x N rs ds Do Sp S S':=
 ⟨h.e,s _ _ h.r,h.R.same s,h.T.same s,h.v,h.l24,h.q.ts (Same.ts s),h.s.ts (Same.ts s),h.rdy,h.wnt,h.pz,h.sh,h.sg⟩
theorem Pr.kept{b k':Addr}(h:Pr K c Z H H p rx wx ra na dd x N rs ds Do Sp S S')(hB:Bag H b k')(k:Kept b H H'):Pr K c Z H' H' p rx wx ra na dd x N rs ds Do Sp S S':=by
 obtain⟨bs,hb⟩:=hB.lst;have m:=h.move (H':=H') (fun a o e n=>k.1 a o e (ne_of e hb (n bs))) (h.pz.kept hB h.v.two k);exact⟨m.e,k.1 _ _ h.r (refs_ne hB h.r),h.R.kept hB k,h.T.kept hB h.v.two k,h.v,h.l24,h.q.ts (k.ts hB),h.s.ts (k.ts hB),m.rdy,m.wnt,m.pz,h.sh,h.sg⟩
theorem Pr.toR(h:Pr K c Z H H p rx wx ra na dd x N rs ds Do Sp S S'):Rdy K c H rx x dd N rs ds Do Sp S:=⟨h.rdy,h.pz.r,h.q,h.s,h.sh⟩
theorem Pr.toW(h:Pr K c Z H H p rx wx ra na dd x N rs ds Do Sp S S'):Wnt K c H wx x N Do Sp S':=⟨h.wnt,h.pz.at,h.sg⟩
end
end RD
namespace RD
open PySem PySem.Spec L2
theorem get_mem{α:Type}{xs:List α}{i:Nat}{a:α}(h:xs[i]? = some a):a∈xs:=List.mem_of_getElem? h
theorem pairs_ok{K:PySem.W.Frag}{c:Cn}{Hd H:Hp}{pl da x ra na:Addr}{N:List (List Nat)}{rs ps dl:List Addr}{σ:St}{D:Ends}(ck:CnOk K c)(hv:Valid N)(l24:N.length<=24)(hr:Hd ra=some (.lst (rs.map V.ref)))(R:RowsAt Hd ra N)(T:NetAt Hd na N)(hda:Hd da=some (.lst (dl.map V.ref)))(hdl:∀q∈dl,DeedN Hd q)(ldl:dl.length=3)
  (fpl:Hd pl=none) (pz:PlanZ K c (fun z=>z=pl) rs H x N) (s0:Same Hd H) (hpl:H pl=some (.lst (ps.map V.ref))) (lps:ps.length<=3) (pr:∀p∈ps,PrE K c (fun z=>z=pl) Hd H p)
  (hσ:∃y0 y1 y2 y3 y8 y9 y11 r,σ=y0::y1::y2::y3::some (.ref da)::some (.ref pl)::some (.ref ra)::some (.ref na)::y8::y9::some (.ref x)::y11::r)
  (k:∀H' ps' y,But pl pl H H'->Same Hd H'->H' pl=some (.lst ((ps':List Addr).map V.ref))->ps'.length=ps.length+3->(∀p∈ps',PrE K c (fun z=>z=pl) Hd H' p)->D.nx (σ.set 11 y) H') :
  tFor (iList K (tVar 4)) (gName 11) (tDrop (tBM K "list" qAppend (tVar 5) (tCons (tTup (tCons (tMake c.C_Ready (sp_Ready_init K c) [] E0 (tCons (tVar 10) (tCons (tVar 11) (tNil)))) (tCons (tMake c.C_Wanted (sp_Wanted_init K c) [] E0 (tCons (tVar 10) (tCons (tVar 11) (tNil)))) (tCons (tVar 6) (tCons (tVar 7) (tCons (tVar 11) (tNil))))))) (tNil)))) D σ H:=by
 obtain⟨y0,y1,y2,y3,y8,y9,y11,r,rfl⟩:=hσ
 with_reducible refine s_for (s_ilst ?_)
 walk_at "ev";refine⟨da,rfl,⟨_,SqL.of (s0 _ _ hda)⟩,for_list (xs:=dl.map V.ref) (fun i σ H1=>∃y11 ps',σ=y0::y1::y2::y3::some (.ref da)::some (.ref pl)::some (.ref ra)::some (.ref na)::y8::y9::some (.ref x)::y11::r/\Same Hd H1/\But pl pl H H1/\H1 pl=some (.lst ((ps':List Addr).map V.ref))/\ps'.length=ps.length+i/\(∀p∈ps',PrE K c (fun z=>z=pl) Hd H1 p)/\PlanZ K c (fun z=>z=pl) rs H1 x N) ⟨_,ps,rfl,s0,But.refl,hpl,by simp,pr,pz⟩ ?_ ?_ ?_⟩
 ·rintro i σ H1 _ ⟨_,_,_,s1,_⟩
  exact SqL.of (s1 _ _ hda)
 ·rintro i y _ H1 hy ⟨y11,ps',rfl,s1,bt1,hpl1,lp,pr1,pz1⟩
  rw[List.getElem?_map]at hy;cases hq:dl[i]? with
  | none=>rw[hq]at hy;cases hy
  | some q=>
   rw[hq]at hy;cases hy;have hi:=(List.getElem?_eq_some_iff.mp hq).1;obtain⟨ds,dq⟩:=(hdl q (get_mem hq)).q;obtain⟨Do,Sp,sat⟩:=DSat.ex R hr ds;walk_at "ev"
   with_reducible refine s_bm ?_
   walk_at "ev";refine⟨ty_list hpl1,?_⟩;walk_at "ev";refine make_ready ck pz1.r hv (dq.ts (Same.ts s1)) (sat.ts (Same.ts s1)) rfl rfl fun rx H2 S hrx hR s2=>?_
   walk_at "ev";have s02:=s1.trans s2;have pz2:=pz1.same s2;refine make_wanted ck pz2.q pz2.at hv (dq.ts (Same.ts s02)) (sat.ts (Same.ts s02)) rfl rfl fun wx H3 S' hwx hW s3=>?_
   walk_at "ev";refine new_i (by simp) fun p H4 hp e4 s4=>?_
   walk_at "ev";have s24:=s3.trans s4;have s14:=s2.trans s24;have s04:=s1.trans s14;have hpl4:=s14 _ _ hpl1;refine q_append hpl4 (smallT (by rw[List.length_map];omega)) ?_;have ea:ps'.map V.ref++[V.ref p]=(ps'++[p]).map V.ref:=by rw[List.map_append];rfl
   rw[ea];have pz4:=pz2.same s24;have P4:Pr K c (fun z=>z=pl) Hd H4 p rx wx ra na q x N rs ds Do Sp S S':=⟨e4,hr,R,T,hv,l24,dq,sat,(hR.same s24).ex,(hW.same s4).ex,pz4,hR.shut,hW.shut⟩;refine⟨_,ps'++[p],rfl,fun b o e=>?_,fun b o n _ e=>?_,upd_same,by rw[List.length_append,lp];rfl,fun p' hp'=>?_,pz4.put rfl hpl4⟩
   ·rw[upd_ne (ne_of_none e fpl)];exact s04 _ _ e
   ·rw[upd_ne n];exact s14 _ _ (bt1 _ _ n n e)
   ·rcases List.mem_append.mp hp' with h | h
    ·obtain⟨_,_,_,_,_,_,_,_,_,_,_,_,_,h⟩:=pr1 p' h
     exact⟨_,_,_,_,_,_,_,_,_,_,_,_,_,(h.same s14).put rfl hpl4⟩
    ·rw[List.mem_singleton.mp h]
     exact⟨_,_,_,_,_,_,_,_,_,_,_,_,_,P4.put rfl hpl4⟩
 ·rintro _ H1 ⟨y11',ps',rfl,s1,bt1,hpl1,lp,pr1,pz1⟩
  rw[List.length_map,ldl]at lp;exact k H1 ps' y11' bt1 s1 hpl1 lp pr1
theorem law_reading(K:PySem.W.Frag){H:Hp}{a:Addr}{ns:List Int}(hl:ns.length<=63)(hO:Only H)(hS:SqL K H a (ns.map V.int)):sp_law K [.ref a] H (fun v _=>v=.bl true) (fun _ _ _=>False):=by
 refine⟨rfl,fun c ck=>?_⟩;unfold t_law
 with_reducible refine s_seq ?_
 walk_at "ev";refine bag_ok hS hl fun b d H1 B1 s1 _=>?_
 walk_at "ev"
 with_reducible refine s_seq ?_
 walk_at "ev";refine plan_new B1 fun p1 ra na sa da N H2 h1 h2 h3 h4 h5 h6 h7 h8 _ _ B2 k2=>?_
 have D2:Drw H2 p1 ra na sa da N:=⟨h1,h2,h3,h4,h5,h6,h7,h8⟩;walk_at "ev"
 with_reducible refine s_seq ?_
 walk_at "ev";refine second_ok B2 D2 fun p2 ra2 na2 sa2 da2 N2 H3 D3 B3 k3=>?_
 have D23:=D2.kept B2 k3;walk_at "ev"
 with_reducible refine s_seq ?_
 walk_at "ev";refine q_ixT D23.e (atI3 _ _ _ _ _) ?_;walk_at "ev";obtain⟨ps,q1,q2,q3,q4⟩:=id D23.P.ex
 obtain⟨d0,ps0,rfl⟩:∃d0 ps0,ps=d0::ps0:=by
  cases ps with
  | nil=>exact(q2 rfl).elim
  | cons d0 ps0=>exact⟨_,_,rfl⟩
 refine q_ixL q1 (atI0 _ _) ?_;walk_at "ev";refine q_ixT D3.e (atI3 _ _ _ _ _) ?_;walk_at "ev";obtain⟨us,u1,u2,u3,u4⟩:=id D3.P.ex;obtain⟨us0,d1,rfl⟩:∃us0 d1,us=us0++[d1]:=⟨_,_,(List.dropLast_concat_getLast u2).symm⟩;rw[List.map_append]at u1;refine q_ixL u1 atI_last ?_;walk_at "ev";refine q_ixT D23.e (atI2 _ _ _ _) ?_;walk_at "ev";refine deed_ok B3 D23.M fun d2 H4 hd2 hdn B4 k4=>?_
 walk_at "ev";refine new_i (by simp) fun dl H5 hdl e5 s5=>?_
 have D25:=(D23.kept B3 k4).same s5;have D35:=(D3.kept B3 k4).same s5;have B5:=B4.same s5
 have dn5:∀q∈[d0,d1,d2],DeedN H5 q:=by
  intro q hq;simp only[List.mem_cons,List.not_mem_nil,or_false]at hq;rcases hq with rfl | rfl | rfl
  ·exact((q4 q (by simp)).ts (k4.ts B3)).ts (Same.ts s5)
  ·exact((u4 q (by simp)).ts (k4.ts B3)).ts (Same.ts s5)
  ·exact hd2.ts (Same.ts s5)
 walk_at "ev"
 with_reducible refine s_seq ?_
 walk_at "ev";refine new_i (by simp) fun pl H6 hpl e6 s6=>?_
 walk_at "ev"
 with_reducible refine s_cut (P:=fun σ H9=>∃y6 y7 y8 y9 y10 y11 ps,σ=[some (.ref a),some (.ref b),some (.ref p1),some (.ref p2),some (.ref dl),some (.ref pl),y6,y7,y8,y9,y10,y11,none,none,none,none,none,none,none,none,none,none]/\Same H5 H9/\H9 pl=some (.lst ((ps:List Addr).map V.ref))/\ps.length=6/\∀p∈ps,PrE K c (fun z=>z=pl) H5 H9 p) ?_ ?_
 rotate_left
 ·intro nx hnx
  with_reducible refine s_for (s_ilst ?_)
  walk_at "ev";refine new_i (by simp) fun l2 H7 hl2 e7 s7=>?_
  have s57:=s6.trans s7;refine⟨l2,rfl,⟨_,SqL.of e7⟩,for_list (xs:=[V.ref p1,V.ref p2]) (fun i σ H8=>∃y6 y7 y8 y9 y10 y11 ps,σ=[some (.ref a),some (.ref b),some (.ref p1),some (.ref p2),some (.ref dl),some (.ref pl),y6,y7,y8,y9,y10,y11,none,none,none,none,none,none,none,none,none,none]/\Same H5 H8/\H8 l2=some (.lst [V.ref p1,V.ref p2])/\H8 pl=some (.lst ((ps:List Addr).map V.ref))/\ps.length=3 * i/\∀p∈ps,PrE K c (fun z=>z=pl) H5 H8 p) ⟨_,_,_,_,_,_,[],rfl,s57,e7,s7 _ _ e6,rfl,by simp⟩ ?_ ?_ ?_⟩
  ·rintro i σ H8 _ ⟨_,_,_,_,_,_,_,_,_,h,_⟩
   exact SqL.of h
  ·rintro i y _ H8 hy ⟨y6,y7,y8,y9,y10,y11,ps,rfl,s8,hl8,hpl8,lps,pr8⟩
   have hi:i<2:=(List.getElem?_eq_some_iff.mp hy).1
   obtain⟨p,ra',na',sa',da',N',rfl,D5⟩:∃p ra' na' sa' da' N',y=.ref p/\Drw H5 p ra' na' sa' da' N':=by
    rcases(by omega:i=0\/i=1)with rfl | rfl
    ·cases hy
     exact⟨p1,_,_,_,_,_,rfl,D25⟩
    ·cases hy
     exact⟨p2,_,_,_,_,_,rfl,D35⟩
   have D8:=D5.same s8;refine⟨p,_,rfl,SqT.of D8.e,rfl,_,_,rfl,_,_,rfl,_,_,rfl,_,_,rfl,rfl,?_⟩;obtain⟨rs,r1,r2,r3⟩:=id D5.R.ex
   with_reducible refine s_seq ?_
   walk_at "ev";refine made_ok ck (s8 _ _ r1) D8.R D8.T D8.v fun x H9 hx pz9 s9=>?_
   walk_at "ev";have s59:=s8.trans s9;refine pairs_ok ck D5.v D5.l24 r1 D5.R D5.T e5 dn5 rfl hpl (pz9.weak fun z e=>⟨.lst (ps.map V.ref),by subst e;exact hpl8⟩) s59 (s9 _ _ hpl8) (by omega) (fun p hp=>?_) ⟨_,_,_,_,_,_,_,_,rfl⟩ fun H10 ps' y bt10 s10 hpl10 lp10 pr10=>?_
   ·obtain⟨_,_,_,_,_,_,_,_,_,_,_,_,_,h⟩:=pr8 p hp
    exact⟨_,_,_,_,_,_,_,_,_,_,_,_,_,h.same s9⟩
   ·refine⟨_,_,_,_,_,_,ps',rfl,s10,?_,hpl10,by omega,pr10⟩
    have n:l2≠pl:=(ne_of_none e6 hl2).symm;exact bt10 _ _ n n (s9 _ _ hl8)
  ·rintro _ H8 ⟨y6,y7,y8,y9,y10,y11,ps,rfl,s8,hl8,hpl8,lps,pr8⟩
   exact hnx _ _ ⟨_,_,_,_,_,_,ps,rfl,s8,hpl8,lps,pr8⟩
 rintro _ H9 ⟨y6,y7,y8,y9,y10,y11,ps,rfl,s9,hpl9,lps,pr9⟩;have B9:=B5.same s9
 have pr9:∀p∈ps,PrE K c (fun z=>z=pl) H9 H9 p:=fun p hp=>by
  obtain⟨_,_,_,_,_,_,_,_,_,_,_,_,_,h⟩:=pr9 p hp;exact⟨_,_,_,_,_,_,_,_,_,_,_,_,_,h.up s9⟩
 with_reducible refine s_seq ?_
 with_reducible refine s_for (s_rng1 ?_)
 walk_at "ev";refine take_ok B9 (by decide) (by decide) fun n1 H10 a0 a1 B10 k10=>?_
 walk_at "ev";obtain⟨n,rfl⟩:∃n:Nat,n1=(n:Int):=⟨n1.toNat,by omega⟩;refine⟨(6:Int)+(n:Int),rfl,by omega,by omega,?_⟩;have en:((6:Int)+(n:Int)).toNat=6+n:=by omega
 rw[en];refine for_range (fun i σ H12=>∃y6 y7 y8 y9 y10 y11 y12 y13 y14 y15 y16 y17 y18 y19 y20 y21,σ=[some (.ref a),some (.ref b),some (.ref p1),some (.ref p2),some (.ref dl),some (.ref pl),y6,y7,y8,y9,y10,y11,y12,y13,y14,y15,y16,y17,y18,y19,y20,y21]/\Bag H12 b d/\H12 pl=some (.lst (ps.map V.ref))/\∀p∈ps,PrE K c (fun z=>z=pl) H12 H12 p) ⟨_,_,_,_,_,_,_,_,_,_,_,_,_,_,_,_,rfl,B10,k10.1 _ _ hpl9 (refs_ne B9 hpl9),fun p hp=>?_⟩ ?_ ?_
 ·obtain⟨_,_,_,_,_,_,_,_,_,_,_,_,_,h⟩:=pr9 p hp
  exact⟨_,_,_,_,_,_,_,_,_,_,_,_,_,h.kept B9 k10⟩
 ·rintro i _ H12 hi ⟨y6,y7,y8,y9,y10,y11,y12,y13,y14,y15,y16,y17,y18,y19,y20,y21,rfl,B12,hpl12,pr12⟩
  rw[Int.zero_add];walk_at "ev"
  with_reducible refine s_seq ?_
  walk_at "ev";refine take_ok B12 (by decide) (by decide) fun n2 H13 c0 c1 B13 k13=>?_
  obtain⟨m,rfl⟩:∃m:Nat,n2=(m:Int):=⟨n2.toNat,by omega⟩;obtain⟨p,hp⟩:∃p,ps[m]? = some p:=⟨_,List.getElem?_eq_getElem (by omega)⟩;have hpl13:H13 pl=some (.lst (ps.map V.ref)):=k13.1 _ _ hpl12 (refs_ne B12 hpl12);walk_at "ev";refine q_ixL hpl13 (atI_nat (by rw[List.getElem?_map,hp];rfl)) ?_;obtain⟨rx,wx,ra',na',dd,x,N',rs,ds,Do,Sp,S,S',P12⟩:=pr12 p (get_mem hp);have P13:=P12.kept B12 k13;walk_at "ev";refine⟨p,_,rfl,SqT.of P13.e,rfl,_,_,rfl,_,_,rfl,_,_,rfl,_,_,rfl,_,_,rfl,rfl,?_⟩
  with_reducible refine s_seq ?_
  walk_at "ev";refine q_lenL P13.r ?_
  have lrs:rs.length=N'.length:=by
   obtain⟨rs',z1,z2,_⟩:=P13.R.ex;rw[P13.r]at z1;have:=congrArg List.length (HO.lst.inj (Option.some.inj z1));rw[List.length_map,List.length_map]at this;omega
  have pos:=P13.v.pos;have l24:=P13.l24;have p64:(2:Int) ^ 64=18446744073709551616:=by decide
  rw[List.length_map,lrs];walk_at "ev";refine take_ok B13 (by omega) (by omega) fun n3 H14 f0 f1 B14 k14=>?_
  obtain⟨sp,rfl⟩:∃sp:Nat,n3=(sp:Int):=⟨n3.toNat,by omega⟩;have hsp:sp<N'.length:=by omega
  have P14:=P13.kept B13 k14;walk_at "ev"
  with_reducible refine s_seq ?_
  walk_at "ev";refine new_i (by simp) fun st H15 hst e15 s15=>?_
  have P15:=(P14.same s15).up s15;have B15:=B14.same s15;walk_at "ev";have hlp:=at_len hsp;obtain⟨lp,hle⟩:∃lp,lp=N'[sp]:=⟨_,rfl⟩;rw[<-hle]at hlp;have l2:=P15.v.two lp (get_mem hlp)
  with_reducible refine s_cut (P:=fun σ H16=>∃st s,σ=[some (.ref a),some (.ref b),some (.ref p1),some (.ref p2),some (.ref dl),some (.ref pl),some (.ref ra'),some (.ref na'),y8,y9,y10,some (.ref dd),some (.int (i:Int)),some (.ref rx),some (.ref wx),some (.int (sp:Int)),some (.ref st),y17,y18,y19,y20,y21]/\StepT K H16 st s/\IsStep N' s/\Bag H16 b d/\Kept b H15 H16) ?_ ?_
  rotate_left
  ·intro nx hnx
   obtain⟨us,u,g1,g2,g3,_⟩:=P15.T.at hlp;walk_at "ev";refine q_ixL g1 g2 ?_;walk_at "ev";refine new_i (by simp) fun y H16 hy e16 s16=>?_
   refine⟨_,eqO_lst (s16 _ _ g3) e16 (IL_flat _) rfl,?_⟩;rw[flatEq_nil,IL_len];walk_at "ev";have B16:=B15.same s16;by_cases h0:lp.length=0
   ·refine iteF' (by rw[decide_eq_true h0];rfl) ?_
    refine iteF' rfl ?_;walk_at "ev";exact hnx _ _ ⟨st,FST,rfl,.inl (s16 _ _ e15),.inl rfl,B16,Kept.of_same s16⟩
   ·refine iteT' (by rw[decide_eq_false h0];rfl) ?_
    walk_at "ev";refine take_ok B16 (by decide) (by decide) fun n4 H17 w0 w1 B17 k17=>?_
    walk_at "ev";have st17:=k17.ts B16 _ _ (s16 _ _ e15);refine ite2 (fun _=>?_) (fun _=>?_)
    ·walk_at "ev"
     have T17:=(P15.T.same s16).kept B16 P15.v.two k17;obtain⟨us,u,g1,g2,g3,_⟩:=T17.at hlp;refine q_ixL g1 g2 ?_;walk_at "ev";refine q_lenL g3 ?_;rw[IL_len];walk_at "ev";refine take_ok B17 (by omega) (by omega) fun n5 H18 v0 v1 B18 k18=>?_
     walk_at "ev";refine new_i (by simp) fun z H19 hz e19 s19=>?_
     walk_at "ev";obtain⟨q,rfl⟩:∃q:Nat,n5=(q:Int):=⟨n5.toNat,by omega⟩;exact hnx _ _ ⟨z,((sp:Int),(q:Int)),rfl,.inl e19,.inr ⟨sp,q,lp,_,rfl,hlp,List.getElem?_eq_getElem (by omega)⟩,B18.same s19,(((Kept.of_same s16).trans k17).trans k18).trans (Kept.of_same s19)⟩
    ·walk_at "ev"
     exact hnx _ _ ⟨st,FST,rfl,.inl st17,.inl rfl,B17,(Kept.of_same s16).trans k17⟩
  rintro _ H16 ⟨st,s,rfl,st16,iss,B16,k16⟩;have P16:=P15.kept B15 k16;walk_at "ev"
  with_reducible refine s_seq ?_
  walk_at "ev";refine take_ok B16 (by decide) (by decide) fun n6 H17 w0 w1 B17 k17=>?_
  obtain⟨ask,rfl⟩:∃ask:Nat,n6=(ask:Int):=⟨n6.toNat,by omega⟩;have P17:=P16.kept B16 k17;have st17:=st16.ts (k17.ts B16);walk_at "ev"
  with_reducible refine s_seq ?_
  walk_at "ev";refine made_ok ck P17.r P17.R P17.T P17.v fun x' H18 hx' pz18 s18=>?_
  walk_at "ev"
  with_reducible refine s_seq ?_
  walk_at "ev";have s1:=s18;refine make_ready ck pz18.r P17.v (P17.q.ts (Same.ts s18)) (P17.s.ts (Same.ts s18)) rfl rfl fun rx' H19 S1 hrx' hR' s19=>?_
  walk_at "ev";have s719:=s18.trans s19;have pz19:=pz18.same s19;refine make_wanted ck pz19.q pz19.at P17.v (P17.q.ts (Same.ts s719)) (P17.s.ts (Same.ts s719)) rfl rfl fun wx' H20 S2 hwx' hW' s20=>?_
  walk_at "ev";have s720:=s719.trans s20;have ask8:ask<8:=by omega
  refine told_ok ck (hR'.same s20) hW' P17.v ask8 hsp (st17.ts (Same.ts s720)) iss fun H21 s21=>?_
  walk_at "ev";have s721:=s720.trans s21;have P21:=(P17.same s721).up s721
  have eT:toldF N' Do Sp S1 S2 ask sp s=toldF N' Do Sp S S' ask sp s:=by
   obtain⟨_,_,_,_,c1⟩:=hR'.ex;obtain⟨_,_,_,_,c2⟩:=P17.rdy;obtain⟨_,_,_,_,g1⟩:=hW'.ex;obtain⟨_,_,_,_,g2⟩:=P17.wnt;exact told_eq (fun t=>(unR_iff c1 hR'.shut t).trans (unR_iff c2 P17.sh t).symm) (fun t=>(unW_iff g1 hW'.shut t).trans (unW_iff g2 P17.sg t).symm) ask sp s
  rw[eT]
  with_reducible refine s_for (s_rng1 ?_)
  walk_at "ev";refine⟨2,rfl,by omega,by omega,?_⟩;refine for_range (n:=2) (fun j σ H22=>∃y20 y21,σ=[some (.ref a),some (.ref b),some (.ref p1),some (.ref p2),some (.ref dl),some (.ref pl),some (.ref ra'),some (.ref na'),y8,y9,y10,some (.ref dd),some (.int (i:Int)),some (.ref rx),some (.ref wx),some (.int (sp:Int)),some (.ref st),some (.int (ask:Int)),some (.ref x'),some (.bl (toldF N' Do Sp S S' ask sp s)),y20,y21]/\Same H21 H22) ⟨_,_,rfl,Same.refl _⟩ ?_ ?_
  ·rintro j _ H22 hj ⟨y20,y21,rfl,s22⟩
   have P22:=(P21.same s22).up s22;walk_at "ev"
   with_reducible refine s_seq ?_
   walk_at "ev";refine told_ok ck P22.toR P22.toW P22.v ask8 hsp (st17.ts (Same.ts (s721.trans s22))) iss fun H23 s23=>?_
   walk_at "ev";refine ty_bool ?_;walk_at "ev";refine iteF' rfl ?_;walk_at "ev";refine iteF' (by simp) ?_;walk_at "ev";exact⟨_,_,rfl,s22.trans s23⟩
  ·rintro _ H22 ⟨y20,y21,rfl,s22⟩
   have s722:=s721.trans s22;have kk:Kept b H12 H22:=((((k13.trans k14).trans (Kept.of_same s15)).trans k16).trans k17).trans (Kept.of_same s722);refine⟨_,_,_,_,_,_,_,_,_,_,_,_,_,_,_,_,rfl,B17.same s722,kk.1 _ _ hpl12 (refs_ne B12 hpl12),fun p hp=>?_⟩;obtain⟨_,_,_,_,_,_,_,_,_,_,_,_,_,h⟩:=pr12 p hp;exact⟨_,_,_,_,_,_,_,_,_,_,_,_,_,h.kept B12 kk⟩
 ·rintro _ H12 ⟨y6,y7,y8,y9,y10,y11,y12,y13,y14,y15,y16,y17,y18,y19,y20,y21,rfl,B12,hpl12,pr12⟩
  walk_at "ev";rfl
end RD
set_option maxHeartbeats 0
namespace PR
open PySem L2 RD
section
def top(i:Nat):Stmt:=PySem.Challenge.pw_oncedone_k45_two_deeds_by_turns.main.body.getD i (.Pass ⟨0,0,0,0⟩)
abbrev s_bag:Stmt:=top 53
abbrev s_take:Stmt:=top 54
abbrev s_net:Stmt:=top 55
abbrev s_mended:Stmt:=top 56
abbrev s_base:Stmt:=top 57
abbrev s_names:Stmt:=top 58
abbrev s_value:Stmt:=top 59
abbrev s_operand:Stmt:=top 60
abbrev s_deed:Stmt:=top 61
abbrev s_row:Stmt:=top 62
abbrev s_plan:Stmt:=top 63
abbrev s_second:Stmt:=top 67
abbrev s_lists:Stmt:=top 64
abbrev s_check_length:Stmt:=top 27
abbrev s_is_name:Stmt:=top 9
abbrev s_is_whole:Stmt:=top 7
abbrev s_is_value:Stmt:=top 8
abbrev s_is_operand:Stmt:=top 10
abbrev s_is_deed:Stmt:=top 11
abbrev s_is_row:Stmt:=top 12
abbrev s_check_each:Stmt:=top 28
abbrev s_is_below:Stmt:=top 26
abbrev s_are_nexts:Stmt:=top 31
abbrev s_check_nexts:Stmt:=top 32
abbrev s_reached:Stmt:=top 35
abbrev s_turned:Stmt:=top 34
abbrev s_stops_of:Stmt:=top 33
abbrev s_check_ways:Stmt:=top 36
abbrev s_steps_of:Stmt:=top 37
abbrev s_Plan_leads_to:Stmt:=inClass (top 38) 2
abbrev s_Plan_init:Stmt:=inClass (top 38) 0
abbrev s_made:Stmt:=top 65
abbrev s_Ready_ready_at:Stmt:=inClass (top 47) 1
abbrev s_set_by:Stmt:=top 15
abbrev s_spoils:Stmt:=top 17
abbrev s_deed_of:Stmt:=top 14
abbrev s_does:Stmt:=top 16
abbrev s_Ready_ready_behind:Stmt:=inClass (top 47) 2
abbrev s_Ready_ready_on:Stmt:=inClass (top 47) 3
abbrev s_traced:Stmt:=top 41
abbrev s_way_to:Stmt:=top 40
abbrev s_Ready_begins_unready:Stmt:=inClass (top 47) 4
abbrev s_Ready_way_unready:Stmt:=inClass (top 47) 5
abbrev s_Wanted_wanted_at:Stmt:=inClass (top 51) 1
abbrev s_Wanted_wanted_behind:Stmt:=inClass (top 51) 2
abbrev s_Wanted_wanted_on:Stmt:=inClass (top 51) 3
abbrev s_followed:Stmt:=top 43
abbrev s_Plan_stops:Stmt:=inClass (top 38) 4
abbrev s_Plan_steps_into:Stmt:=inClass (top 38) 3
abbrev s_way_on:Stmt:=top 42
abbrev s_Wanted_way_unwanted:Stmt:=inClass (top 51) 4
abbrev s_told:Stmt:=top 66
abbrev s_unwanted_ends:Stmt:=top 49
abbrev s_unwanted_steps:Stmt:=top 50
abbrev s_Wanted_init:Stmt:=inClass (top 51) 0
abbrev s_pass_on:Stmt:=top 45
abbrev s_unready_steps:Stmt:=top 46
abbrev s_Ready_init:Stmt:=inClass (top 47) 0
abbrev s_law:Stmt:=top 68
structure Txt(K:PySem.W.Frag)(mg:Str->Option Value)(c:Cn):Prop where
 b_abs:mg "abs" = none
 b_all:mg "all" = none
 b_any:mg "any" = none
 b_bool:mg "bool" = none
 b_dict:mg "dict" = none
 b_enumerate:mg "enumerate" = none
 b_int:mg "int" = none
 b_isinstance:mg "isinstance" = none
 b_len:mg "len" = none
 b_list:mg "list" = none
 b_min:mg "min" = none
 b_range:mg "range" = none
 b_sorted:mg "sorted" = none
 b_str:mg "str" = none
 b_tuple:mg "tuple" = none
 b_zip:mg "zip" = none
 g_BOUND:∃u,mg "BOUND" = some u/\RelV (.int 1000000000000) u
 g_DEED_KINDS:∃u,mg "DEED_KINDS" = some u/\RelV (.ref c.k_DEED_KINDS) u
 g_FIGURES:∃u,mg "FIGURES" = some u/\RelV (.str "0123456789") u
 g_FIRST_STEP:∃u,mg "FIRST_STEP" = some u/\RelV (.ref c.k_FIRST_STEP) u
 g_LETTERS:∃u,mg "LETTERS" = some u/\RelV (.str "abcdefghijklmnopqrstuvwxyz") u
 g_LONGEST_NAME:∃u,mg "LONGEST_NAME" = some u/\RelV (.int 8) u
 g_MOST:∃u,mg "MOST" = some u/\RelV (.int 400) u
section
variable {P:Program}{w:World}{K:PySem.W.Frag}{mg:Str->Option Value}{base:Heap}{c:Cn}
theorem sc_bag:FnScope ["_law_script"] ["_law_script"] (defScope s_bag):=by walk_at "sc"
theorem cc_bag_0:CompOk ["_law_script"] (defScope s_bag) ({ kind:=PySem.ScopeKind.function,names:=[ (PySem.Str.ofString ".0", PySem.NameKind.local),(PySem.Str.ofString "_law_cell", PySem.NameKind.local),(PySem.Str.ofString "abs", PySem.NameKind.globalImplicit)],isGenerator:=false,isCoroutine:=false,more:=[]:PySem.Scope }) "_law_cell" := ⟨rfl,by decide +kernel,by decide +kernel,rfl,by decide +kernel,by decide +kernel,rfl,by decide +kernel⟩
theorem ok_bag{f:Addr}{fd:FuncData}(F:Fun K "_law_bag" "_law_bag" s_bag f fd)(T:Txt K mg c)    : FnOk P w K mg base CX0 1 f fd ["_law_script"] (sp_bag K):=by
 refine Y.fun_ok F sc_bag (fun vs H Q E h=>h.1) (fun cdv A outer s H vs Q E hr h=>⟨t_bag K,?_,h.2⟩);have nd:=sc_bag.nd;exact Y.pss_one (Y.ps_ret (Y.pe_lst (Y.pa4 (Y.pe_int) (Y.pe_int) (Y.pe_int) (Y.pe_comp cc_bag_0 rfl (Y.pi_list (Y.pe_slice Y.sl_list (Y.pv 0) (Y.po_none) (Y.po_some (Y.pe_int)))) (fun _ _ _ _ _=>Y.pts_nil) (fun _ _ _ _ _=>Y.pe_callB Y.call_qabs rfl T.b_abs PyProof.Rows.boot_abs (Y.pa1 (Y.pv 0)))))))
theorem sc_take:FnScope ["_law_bag_here", "_law_many", "_law_more", "_law_cell", "_law_value_here", "_law_first", "_law_second_here"] ["_law_bag_here", "_law_many"] (defScope s_take):=by walk_at "sc"
theorem ok_take{f:Addr}{fd:FuncData}(F:Fun K "_law_take" "_law_take" s_take f fd)(T:Txt K mg c)    : FnOk P w K mg base CX0 1 f fd ["_law_bag_here", "_law_many"] (sp_take K):=by
 refine Y.fun_ok F sc_take (fun vs H Q E h=>h.1) (fun cdv A outer s H vs Q E hr h=>⟨t_take K,?_,h.2⟩);have nd:=sc_take.nd;exact Y.pss_cons (Y.ps_if (Y.pt_cmpR (Y.op_qeq hr) (Y.pe_ix Y.ix_q (Y.pv 0) (Y.pe_int) (fun _ _=>rfl)) (Y.pe_int) (nomark _)) (Y.pss_cons (Y.ps_set (n:=2) nd rfl (Or.inl rfl) (Y.pe_int)) (Y.pss_cons (Y.ps_if (Y.pt_cmpR Y.op_qlt (Y.pe_ix Y.ix_q (Y.pv 0) (Y.pe_int) (fun _ _=>rfl)) (Y.pe_callB Y.call_qlen rfl T.b_len PySem.boot_len (Y.pa1 (Y.pe_ix Y.ix_q (Y.pv 0) (Y.pe_int) (fun _ _=>rfl)))) (nomark _)) (Y.pss_cons (Y.ps_set (n:=3) nd rfl (Or.inl rfl) (Y.pe_ix Y.ix_q (Y.pe_ix Y.ix_q (Y.pv 0) (Y.pe_int) (fun _ _=>rfl)) (Y.pe_ix Y.ix_q (Y.pv 0) (Y.pe_int) (fun _ _=>rfl)) (fun _ _=>rfl))) (Y.pss_cons (Y.ps_augS (Y.pv 0) (Y.pe_int) Y.get_q (Y.pe_int) Y.ip_add Y.set_q) (Y.pss_cons (Y.ps_if (Y.pt_cmpR Y.op_qge (Y.pv 3) (Y.pe_int) (nomark _)) (Y.pss_one (Y.ps_asg (Y.pv 3) (Y.pg_sub (Y.pv 0) (Y.pe_int) Y.set_q))) (Y.pss_nil)) (Y.pss_one (Y.ps_set (n:=2) nd rfl (Or.inl rfl) (Y.pe_op Y.op_qadd (Y.pe_op Y.op_qmod (Y.pv 3) (Y.pe_int)) (Y.pe_int))))))) (Y.pss_nil)) (Y.pss_one (Y.ps_asg (Y.pe_op Y.op_qmod (Y.pe_op Y.op_qadd (Y.pe_op Y.op_qmul (Y.pe_ix Y.ix_q (Y.pv 0) (Y.pe_int) (fun _ _=>rfl)) (Y.pe_int)) (Y.pv 2)) (Y.pe_int)) (Y.pg_sub (Y.pv 0) (Y.pe_int) Y.set_q))))) (Y.pss_nil)) (Y.pss_cons (Y.ps_if (Y.pt_cmpR Y.op_qgt (Y.pe_ix Y.ix_q (Y.pv 0) (Y.pe_int) (fun _ _=>rfl)) (Y.pe_int) (nomark _)) (Y.pss_cons (Y.ps_set (n:=4) nd rfl (Or.inl rfl) (Y.pe_op Y.op_qmod (Y.pe_ix Y.ix_q (Y.pv 0) (Y.pe_int) (fun _ _=>rfl)) (Y.pv 1))) (Y.pss_cons (Y.ps_asg (Y.pe_op Y.op_qdiv (Y.pe_ix Y.ix_q (Y.pv 0) (Y.pe_int) (fun _ _=>rfl)) (Y.pv 1)) (Y.pg_sub (Y.pv 0) (Y.pe_int) Y.set_q)) (Y.pss_one (Y.ps_ret (Y.pv 4))))) (Y.pss_nil)) (Y.pss_cons (Y.ps_set (n:=5) nd rfl (Or.inl rfl) (Y.pe_op Y.op_qmod (Y.pe_op Y.op_qmul (Y.pe_ix Y.ix_q (Y.pv 0) (Y.pe_int) (fun _ _=>rfl)) (Y.pe_int)) (Y.pe_int))) (Y.pss_cons (Y.ps_set (n:=6) nd rfl (Or.inl rfl) (Y.pe_op Y.op_qmod (Y.pe_op Y.op_qmul (Y.pv 5) (Y.pe_int)) (Y.pe_int))) (Y.pss_cons (Y.ps_if (Y.pt_cmpR Y.op_qgt (Y.pv 1) (Y.pe_int) (nomark _)) (Y.pss_one (Y.ps_ret (Y.pe_op Y.op_qmod (Y.pe_op Y.op_qadd (Y.pe_op Y.op_qmul (Y.pv 6) (Y.pe_int)) (Y.pv 5)) (Y.pv 1)))) (Y.pss_nil)) (Y.pss_one (Y.ps_ret (Y.pe_op Y.op_qmod (Y.pe_op Y.op_qdiv (Y.pv 6) (Y.pe_int)) (Y.pv 1))))))))
theorem sc_net:FnScope ["_law_bag_here", "_law_many", "_law_nexts", "_law_k", "_law_near", "_law_some", "_law_way"] ["_law_bag_here", "_law_many"] (defScope s_net):=by walk_at "sc"
theorem ok_net{f:Addr}{fd:FuncData}(F:Fun K "_law_net" "_law_net" s_net f fd)(T:Txt K mg c)(c_take:Callee P w K mg base 1 "_law_take" ["_law_bag_here", "_law_many"] (sp_take K))   : FnOk P w K mg base CX0 2 f fd ["_law_bag_here", "_law_many"] (sp_net K):=by
 refine Y.fun_ok F sc_net (fun vs H Q E h=>h.1) (fun cdv A outer s H vs Q E hr h=>⟨t_net K,?_,h.2⟩);have nd:=sc_net.nd;exact Y.pss_cons (Y.ps_set (n:=2) nd rfl (Or.inl rfl) (Y.pe_lst (Y.pa_nil))) (Y.pss_cons (Y.ps_for PassesOwn.never rfl (Y.pi_range1 rfl T.b_range (Y.pa1 (Y.pv 1))) (Y.pg_name (n:=3) nd rfl (Or.inl rfl)) (Y.pss_cons (Y.ps_set (n:=4) nd rfl (Or.inl rfl) (Y.pe_callB (Y.call_qmin rfl) rfl T.b_min PyProof.Rows.boot_min (Y.pa2 (Y.pe_op Y.op_qadd (Y.pv 3) (Y.pe_int)) (Y.pe_op Y.op_qsub (Y.pv 1) (Y.pe_int))))) (Y.pss_cons (Y.ps_set (n:=5) nd rfl (Or.inl rfl) (Y.pe_lst (Y.pa2 (Y.pv 4) (Y.pe_own c_take hr (by decide) rfl (Y.pa2 (Y.pv 0) (Y.pv 1)))))) (Y.pss_cons (Y.ps_set (n:=6) nd rfl (Or.inl rfl) (Y.pe_own c_take hr (by decide) rfl (Y.pa2 (Y.pv 0) (Y.pe_int)))) (Y.pss_cons (Y.ps_if (Y.pt_cmpR Y.op_qlt (Y.pv 6) (Y.pe_int) (nomark _)) (Y.pss_one (Y.ps_set (n:=5) nd rfl (Or.inl rfl) (Y.pe_lst (Y.pa2 (Y.pe_ix Y.ix_q (Y.pv 5) (Y.pe_int) (fun _ _=>rfl)) (Y.pv 4))))) (Y.pss_nil)) (Y.pss_cons (Y.ps_if (Y.pt_cmpR (Y.op_qeq hr) (Y.pv 6) (Y.pe_int) (nomark _)) (Y.pss_one (Y.ps_set (n:=5) nd rfl (Or.inl rfl) (Y.pe_lst (Y.pa2 (Y.pe_ix Y.ix_q (Y.pv 5) (Y.pe_int) (fun _ _=>rfl)) (Y.pe_own c_take hr (by decide) rfl (Y.pa2 (Y.pv 0) (Y.pv 1))))))) (Y.pss_nil)) (Y.pss_cons (Y.ps_if (Y.pw_pt (Y.pw_or (Y.pw_pt (Y.pw_and (Y.pt_cmpR Y.op_qgt (Y.pv 6) (Y.pe_int) (nomark _)) (Y.pw_and1 (Y.pt_cmpR Y.op_qlt (Y.pv 6) (Y.pe_int) (nomark _))))) (Y.pw_or1 (Y.pt_cmpR (Y.op_qeq hr) (Y.pv 1) (Y.pe_int) (nomark _))))) (Y.pss_one (Y.ps_set (n:=5) nd rfl (Or.inl rfl) (Y.pe_lst (Y.pa1 (Y.pv 4))))) (Y.pss_nil)) (Y.pss_cons (Y.ps_if (Y.pt_cmpR (Y.op_qeq hr) (Y.pv 6) (Y.pe_int) (nomark _)) (Y.pss_one (Y.ps_set (n:=5) nd rfl (Or.inl rfl) (Y.pe_lst (Y.pa1 (Y.pe_ix Y.ix_q (Y.pv 5) (Y.pe_un Y.un_neg (Y.pe_int)) (fun _ _=>rfl)))))) (Y.pss_nil)) (Y.pss_cons (Y.ps_if (Y.pw_pt (Y.pw_or (Y.pt_cmpR (Y.op_qeq hr) (Y.pv 3) (Y.pe_op Y.op_qsub (Y.pv 1) (Y.pe_int)) (nomark _)) (Y.pw_or1 (Y.pw_pt (Y.pw_and (Y.pt_cmpR (Y.op_qeq hr) (Y.pv 6) (Y.pe_int) (nomark _)) (Y.pw_and1 (Y.pt_cmpR (Y.op_qeq hr) (Y.pe_own c_take hr (by decide) rfl (Y.pa2 (Y.pv 0) (Y.pe_int))) (Y.pe_int) (nomark _)))))))) (Y.pss_one (Y.ps_set (n:=5) nd rfl (Or.inl rfl) (Y.pe_lst (Y.pa_nil)))) (Y.pss_nil)) (Y.pss_one (Y.ps_expr (Y.pe_bm PySem.F.plainAttrs_list PySem.F.slot_list_append PySem.F.type_list_append Y.mt_qappend (Y.pv 2) (Y.pa1 (Y.pv 5)))))))))))))) (Y.pss_one (Y.ps_ret (Y.pv 2))))
theorem sc_mended:FnScope ["_law_nexts", "_law_good", "_law_turn", "_law_k", "_law_reached", "_law_one", "_law_order"] ["_law_nexts"] (defScope s_mended):=by walk_at "sc"
theorem cc_mended_0:CompOk ["_law_nexts", "_law_good", "_law_turn", "_law_k", "_law_reached", "_law_one", "_law_order"] (defScope s_mended) ({ kind:=PySem.ScopeKind.function,names:=[ (PySem.Str.ofString ".0", PySem.NameKind.local),(PySem.Str.ofString "_law_one", PySem.NameKind.local),(PySem.Str.ofString "_law_good", PySem.NameKind.free)],isGenerator:=false,isCoroutine:=false,more:=[]:PySem.Scope }) "_law_one" := ⟨rfl,by decide +kernel,by decide +kernel,rfl,by decide +kernel,by decide +kernel,rfl,by decide +kernel⟩
theorem cc_mended_1:CompOk ["_law_nexts", "_law_good", "_law_turn", "_law_k", "_law_reached", "_law_one", "_law_order"] (defScope s_mended) ({ kind:=PySem.ScopeKind.function,names:=[ (PySem.Str.ofString ".0", PySem.NameKind.local),(PySem.Str.ofString "_law_k", PySem.NameKind.local),(PySem.Str.ofString "len", PySem.NameKind.globalImplicit),(PySem.Str.ofString "_law_good", PySem.NameKind.free),(PySem.Str.ofString "_law_nexts", PySem.NameKind.free)],isGenerator:=false,isCoroutine:=false,more:=[]:PySem.Scope }) "_law_k" := ⟨rfl,by decide +kernel,by decide +kernel,rfl,by decide +kernel,by decide +kernel,rfl,by decide +kernel⟩
theorem cc_mended_2:CompOk ["_law_nexts", "_law_good", "_law_turn", "_law_k", "_law_reached", "_law_one", "_law_order"] (defScope s_mended) ({ kind:=PySem.ScopeKind.function,names:=[ (PySem.Str.ofString ".0", PySem.NameKind.local),(PySem.Str.ofString "_law_k", PySem.NameKind.local),(PySem.Str.ofString "_law_nexts", PySem.NameKind.free),(PySem.Str.ofString "_law_order", PySem.NameKind.free)],isGenerator:=false,isCoroutine:=false,more:=[]:PySem.Scope }) "_law_k" := ⟨rfl,by decide +kernel,by decide +kernel,rfl,by decide +kernel,by decide +kernel,rfl,by decide +kernel⟩
theorem cc_mended_3(env:Env):CompOk ["_law_k", "_law_nexts", "_law_good", "_law_turn", "._law_k", "_law_reached", "_law_one", "_law_order"] (relabel ({ kind:=PySem.ScopeKind.function,names:=[ (PySem.Str.ofString ".0", PySem.NameKind.local),(PySem.Str.ofString "_law_k", PySem.NameKind.local),(PySem.Str.ofString "_law_nexts", PySem.NameKind.free),(PySem.Str.ofString "_law_order", PySem.NameKind.free)],isGenerator:=false,isCoroutine:=false,more:=[]:PySem.Scope }) env) ({ kind:=PySem.ScopeKind.function,names:=[ (PySem.Str.ofString ".0", PySem.NameKind.local),(PySem.Str.ofString "_law_one", PySem.NameKind.local),(PySem.Str.ofString "_law_order", PySem.NameKind.free)],isGenerator:=false,isCoroutine:=false,more:=[]:PySem.Scope }) "_law_one" := ⟨rfl,by decide +kernel,by decide +kernel,rfl,fr_nest (by decide +kernel),by decide +kernel,rfl,by decide +kernel⟩
theorem ok_mended{f:Addr}{fd:FuncData}(F:Fun K "_law_mended" "_law_mended" s_mended f fd)(T:Txt K mg c)    : FnOk P w K mg base CX0 1 f fd ["_law_nexts"] (sp_mended K):=by
 refine Y.fun_ok F sc_mended (fun vs H Q E h=>h.1) (fun cdv A outer s H vs Q E hr h=>⟨t_mended K,?_,h.2⟩);have nd:=sc_mended.nd;exact Y.pss_cons (Y.ps_set (n:=1) nd rfl (Or.inr rfl) (Y.pe_dnewK)) (Y.pss_cons (Y.ps_for PassesOwn.never rfl (Y.pi_range1 rfl T.b_range (Y.pa1 (Y.pe_callB Y.call_qlen rfl T.b_len PySem.boot_len (Y.pa1 (Y.pv 0))))) (Y.pg_name (n:=2) nd rfl (Or.inl rfl)) (Y.pss_one (Y.ps_for PassesOwn.never rfl (Y.pi_range1 rfl T.b_range (Y.pa1 (Y.pe_callB Y.call_qlen rfl T.b_len PySem.boot_len (Y.pa1 (Y.pv 0))))) (Y.pg_name (n:=3) nd rfl (Or.inl rfl)) (Y.pss_one (Y.ps_if (Y.pw_pt (Y.pw_or (Y.pt_cmpR (Y.op_qeq hr) (Y.pe_ix Y.ix_q (Y.pv 0) (Y.pv 3) (fun _ _=>rfl)) (Y.pe_lst (Y.pa_nil)) (nomark _)) (Y.pw_or1 (Y.pt_val (Y.pe_callB (Y.call_qany rfl) rfl T.b_any PyProof.Rows.boot_any (Y.pa1 (Y.pe_comp cc_mended_0 rfl (Y.pi_list (Y.pe_ix Y.ix_q (Y.pv 0) (Y.pv 3) (fun _ _=>rfl))) (fun _ _ _ _ _=>Y.pts_nil) (fun _ _ _ _ _=>Y.pe_din hr (Y.pv 0) (Y.pv 2) rfl)))))))) (Y.pss_one (Y.ps_dput hr (Y.pv 1) (Y.pv 3) (Y.pe_bl))) (Y.pss_nil)))))) (Y.pss_cons (Y.ps_set (n:=0) nd rfl (Or.inr rfl) (Y.pe_comp cc_mended_1 rfl (Y.pi_range1 rfl T.b_range (Y.pa1 (Y.pe_callB Y.call_qlen rfl T.b_len PySem.boot_len (Y.pa1 (Y.pv 0))))) (fun _ _ _ _ _=>Y.pts_nil) (fun _ _ _ _ _=>Y.pe_ifExp (Y.pt_din hr (Y.pv 0) (Y.pv 2) rfl) (Y.pe_ix Y.ix_q (Y.pv 1) (Y.pv 0) (fun _ _=>rfl)) (Y.pe_op Y.op_qadd (Y.pe_lst (Y.pa1 (Y.pe_op Y.op_qsub (Y.pe_callB Y.call_qlen rfl T.b_len PySem.boot_len (Y.pa1 (Y.pv 1))) (Y.pe_int)))) (Y.pe_slice Y.sl_q (Y.pe_ix Y.ix_q (Y.pv 1) (Y.pv 0) (fun _ _=>rfl)) (Y.po_some (Y.pe_int)) (Y.po_none)))))) (Y.pss_cons (Y.ps_set (n:=4) nd rfl (Or.inl rfl) (Y.pe_disp (Y.pps_cons (Y.pe_int) (Y.pe_bl) (Y.pps_nil)))) (Y.pss_cons (Y.ps_for PassesOwn.never rfl (Y.pi_range1 rfl T.b_range (Y.pa1 (Y.pe_callB Y.call_qlen rfl T.b_len PySem.boot_len (Y.pa1 (Y.pv 0))))) (Y.pg_name (n:=2) nd rfl (Or.inl rfl)) (Y.pss_one (Y.ps_for PassesOwn.never rfl (Y.pi_range1 rfl T.b_range (Y.pa1 (Y.pe_callB Y.call_qlen rfl T.b_len PySem.boot_len (Y.pa1 (Y.pv 0))))) (Y.pg_name (n:=3) nd rfl (Or.inl rfl)) (Y.pss_one (Y.ps_if (Y.pt_din hr (Y.pv 3) (Y.pv 4) rfl) (Y.pss_one (Y.ps_for PassesOwn.never rfl (Y.pi_list (Y.pe_ix Y.ix_q (Y.pv 0) (Y.pv 3) (fun _ _=>rfl))) (Y.pg_name (n:=5) nd rfl (Or.inl rfl)) (Y.pss_one (Y.ps_dput hr (Y.pv 4) (Y.pv 5) (Y.pe_bl))))) (Y.pss_nil)))))) (Y.pss_cons (Y.ps_set (n:=6) nd rfl (Or.inr rfl) (Y.pe_callB Y.call_qsorted rfl T.b_sorted PyProof.Rows.boot_sorted (Y.pa1 (Y.pe_callTy (Y.call_qlistd rfl) rfl T.b_list PyProof.Rows.boot_list (Y.pa1 (Y.pv 4)))))) (Y.pss_one (Y.ps_ret (Y.pe_comp cc_mended_2 rfl (Y.pi_list (Y.pv 6)) (fun _ _ _ _ _=>Y.pts_nil) (fun _ _ _ _ _=>Y.pe_comp (cc_mended_3 _) rfl (Y.pi_list (Y.pe_ix Y.ix_q (Y.pv 1) (Y.pv 0) (fun _ _=>rfl))) (fun _ _ _ _ _=>Y.pts_nil) (fun _ _ _ _ _=>Y.pe_bm PySem.F.plainAttrs_list PySem.F.slot_list_index PySem.F.type_list_index Y.mt_qindex (Y.pv 8) (Y.pa1 (Y.pv 0))))))))))))
theorem sc_base:FnScope ["_law_bag_here", "_law_size", "_law_letters", "_law_signs"] ["_law_bag_here", "_law_size"] (defScope s_base):=by walk_at "sc"
theorem cc_base_0:CompOk ["_law_bag_here", "_law_size", "_law_letters", "_law_signs"] (defScope s_base) ({ kind:=PySem.ScopeKind.function,names:=[ (PySem.Str.ofString ".0", PySem.NameKind.local),(PySem.Str.ofString "_law_k", PySem.NameKind.local),(PySem.Str.ofString "_law_take", PySem.NameKind.globalImplicit),(PySem.Str.ofString "_law_bag_here", PySem.NameKind.free),(PySem.Str.ofString "_law_signs", PySem.NameKind.free)],isGenerator:=false,isCoroutine:=false,more:=[]:PySem.Scope }) "_law_k" := ⟨rfl,by decide +kernel,by decide +kernel,rfl,by decide +kernel,by decide +kernel,rfl,by decide +kernel⟩
theorem ok_base{f:Addr}{fd:FuncData}(F:Fun K "_law_base" "_law_base" s_base f fd)(T:Txt K mg c)(c_take:Callee P w K mg base 1 "_law_take" ["_law_bag_here", "_law_many"] (sp_take K))   : FnOk P w K mg base CX0 2 f fd ["_law_bag_here", "_law_size"] (sp_base K):=by
 refine Y.fun_ok F sc_base (fun vs H Q E h=>h.1) (fun cdv A outer s H vs Q E hr h=>⟨t_base K,?_,h.2⟩);have nd:=sc_base.nd;exact Y.pss_cons (Y.ps_set (n:=2) nd rfl (Or.inl rfl) (Y.pe_str)) (Y.pss_cons (Y.ps_set (n:=3) nd rfl (Or.inr rfl) (Y.pe_op Y.op_qadd (Y.pv 2) (Y.pe_str))) (Y.pss_one (Y.ps_ret (Y.pe_op Y.op_qadd (Y.pe_lst (Y.pa1 (Y.pe_ix Y.ix_q (Y.pv 2) (Y.pe_own c_take hr (by decide) rfl (Y.pa2 (Y.pv 0) (Y.pe_int))) (fun _ _=>rfl)))) (Y.pe_comp cc_base_0 rfl (Y.pi_range1 rfl T.b_range (Y.pa1 (Y.pe_op Y.op_qsub (Y.pv 1) (Y.pe_int)))) (fun _ _ _ _ _=>Y.pts_nil) (fun _ _ _ _ _=>Y.pe_ix Y.ix_q (Y.pv 4) (Y.pe_own c_take hr (by decide) rfl (Y.pa2 (Y.pv 1) (Y.pe_int))) (fun _ _=>rfl)))))))
theorem sc_names:FnScope ["_law_bag_here", "_law_many", "_law_letters", "_law_size", "_law_bases", "_law_spots", "_law_first", "_law_names_here", "_law_k", "_law_signs", "_law_word"] ["_law_bag_here", "_law_many"] (defScope s_names):=by walk_at "sc"
theorem ok_names{f:Addr}{fd:FuncData}(F:Fun K "_law_names" "_law_names" s_names f fd)(T:Txt K mg c)(c_take:Callee P w K mg base 1 "_law_take" ["_law_bag_here", "_law_many"] (sp_take K))(c_base:Callee P w K mg base 2 "_law_base" ["_law_bag_here", "_law_size"] (sp_base K))   : FnOk P w K mg base CX0 3 f fd ["_law_bag_here", "_law_many"] (sp_names K):=by
 refine Y.fun_ok F sc_names (fun vs H Q E h=>h.1) (fun cdv A outer s H vs Q E hr h=>⟨t_names K,?_,h.2⟩);have nd:=sc_names.nd;exact Y.pss_cons (Y.ps_set (n:=2) nd rfl (Or.inl rfl) (Y.pe_str)) (Y.pss_cons (Y.ps_set (n:=3) nd rfl (Or.inl rfl) (Y.pe_op Y.op_qadd (Y.pe_int) (Y.pe_own c_take hr (by decide) rfl (Y.pa2 (Y.pv 0) (Y.pe_int))))) (Y.pss_cons (Y.ps_set (n:=4) nd rfl (Or.inl rfl) (Y.pe_lst (Y.pa2 (Y.pe_own c_base hr (by decide) rfl (Y.pa2 (Y.pv 0) (Y.pv 3))) (Y.pe_own c_base hr (by decide) rfl (Y.pa2 (Y.pv 0) (Y.pe_op Y.op_qadd (Y.pe_op Y.op_qmod (Y.pv 3) (Y.pe_int)) (Y.pe_int))))))) (Y.pss_cons (Y.ps_set (n:=5) nd rfl (Or.inl rfl) (Y.pe_lst (Y.pa2 (Y.pe_own c_take hr (by decide) rfl (Y.pa2 (Y.pv 0) (Y.pv 3))) (Y.pe_own c_take hr (by decide) rfl (Y.pa2 (Y.pv 0) (Y.pe_op Y.op_qadd (Y.pe_op Y.op_qmod (Y.pv 3) (Y.pe_int)) (Y.pe_int))))))) (Y.pss_cons (Y.ps_set (n:=6) nd rfl (Or.inl rfl) (Y.pe_own c_take hr (by decide) rfl (Y.pa2 (Y.pv 0) (Y.pe_int)))) (Y.pss_cons (Y.ps_set (n:=7) nd rfl (Or.inl rfl) (Y.pe_lst (Y.pa_nil))) (Y.pss_cons (Y.ps_for PassesOwn.never rfl (Y.pi_range1 rfl T.b_range (Y.pa1 (Y.pv 1))) (Y.pg_name (n:=8) nd rfl (Or.inl rfl)) (Y.pss_cons (Y.ps_set (n:=9) nd rfl (Or.inl rfl) (Y.pe_callTy Y.call_qlist rfl T.b_list PyProof.Rows.boot_list (Y.pa1 (Y.pe_ix Y.ix_q (Y.pv 4) (Y.pe_op Y.op_qmod (Y.pv 8) (Y.pe_int)) (fun _ _=>rfl))))) (Y.pss_cons (Y.ps_asg (Y.pe_ix Y.ix_q (Y.pv 2) (Y.pe_op Y.op_qmod (Y.pe_op Y.op_qadd (Y.pv 6) (Y.pe_op Y.op_qdiv (Y.pv 8) (Y.pe_int))) (Y.pe_int)) (fun _ _=>rfl)) (Y.pg_sub (Y.pv 9) (Y.pe_ix Y.ix_q (Y.pv 5) (Y.pe_op Y.op_qmod (Y.pv 8) (Y.pe_int)) (fun _ _=>rfl)) Y.set_q)) (Y.pss_one (Y.ps_expr (Y.pe_bm PySem.F.plainAttrs_list PySem.F.slot_list_append PySem.F.type_list_append Y.mt_qappend (Y.pv 7) (Y.pa1 (Y.pe_bm PySem.F.plainAttrs_str PySem.F.slot_str_join PySem.F.type_str_join Y.mt_qjoin (Y.pe_str) (Y.pa1 (Y.pv 9)))))))))) (Y.pss_cons (Y.ps_set (n:=10) nd rfl (Or.inl rfl) (Y.pe_ix Y.ix_q (Y.pe_lst (Y.pa_cons (Y.pe_str) (Y.pa5 (Y.pe_str) (Y.pe_str) (Y.pe_str) (Y.pe_str) (Y.pe_str)))) (Y.pe_own c_take hr (by decide) rfl (Y.pa2 (Y.pv 0) (Y.pe_int))) (fun _ _=>rfl))) (Y.pss_cons (Y.ps_if (Y.pw_pt (Y.pw_and (Y.pt_cmpR (Y.op_qeq hr) (Y.pe_own c_take hr (by decide) rfl (Y.pa2 (Y.pv 0) (Y.pe_int))) (Y.pe_int) (nomark _)) (Y.pw_and1 (Y.pt_cmpR Y.op_qnotin (Y.pv 10) (Y.pv 7) rfl)))) (Y.pss_one (Y.ps_asg (Y.pv 10) (Y.pg_sub (Y.pv 7) (Y.pe_own c_take hr (by decide) rfl (Y.pa2 (Y.pv 0) (Y.pv 1))) Y.set_q))) (Y.pss_nil)) (Y.pss_one (Y.ps_ret (Y.pv 7)))))))))))
theorem sc_value:FnScope ["_law_bag_here"] ["_law_bag_here"] (defScope s_value):=by walk_at "sc"
theorem ok_value{f:Addr}{fd:FuncData}(F:Fun K "_law_value" "_law_value" s_value f fd)(T:Txt K mg c)(c_take:Callee P w K mg base 1 "_law_take" ["_law_bag_here", "_law_many"] (sp_take K))   : FnOk P w K mg base CX0 2 f fd ["_law_bag_here"] (sp_value K):=by
 refine Y.fun_ok F sc_value (fun vs H Q E h=>h.1) (fun cdv A outer s H vs Q E hr h=>⟨t_value K,?_,h.2⟩);have nd:=sc_value.nd;exact Y.pss_one (Y.ps_ret (Y.pe_ix Y.ix_q (Y.pe_lst (Y.pa5 (Y.pe_int) (Y.pe_int) (Y.pe_int) (Y.pe_int) (Y.pe_own c_take hr (by decide) rfl (Y.pa2 (Y.pv 0) (Y.pe_int))))) (Y.pe_own c_take hr (by decide) rfl (Y.pa2 (Y.pv 0) (Y.pe_int))) (fun _ _=>rfl)))
theorem sc_operand:FnScope ["_law_bag_here", "_law_names_here"] ["_law_bag_here", "_law_names_here"] (defScope s_operand):=by walk_at "sc"
theorem ok_operand{f:Addr}{fd:FuncData}(F:Fun K "_law_operand" "_law_operand" s_operand f fd)(T:Txt K mg c)(c_take:Callee P w K mg base 1 "_law_take" ["_law_bag_here", "_law_many"] (sp_take K))(c_value:Callee P w K mg base 2 "_law_value" ["_law_bag_here"] (sp_value K))   : FnOk P w K mg base CX0 3 f fd ["_law_bag_here", "_law_names_here"] (sp_operand K):=by
 refine Y.fun_ok F sc_operand (fun vs H Q E h=>h.1) (fun cdv A outer s H vs Q E hr h=>⟨t_operand K,?_,h.2⟩);have nd:=sc_operand.nd;exact Y.pss_cons (Y.ps_if (Y.pt_cmpR (Y.op_qeq hr) (Y.pe_own c_take hr (by decide) rfl (Y.pa2 (Y.pv 0) (Y.pe_int))) (Y.pe_int) (nomark _)) (Y.pss_one (Y.ps_ret (Y.pe_own c_value hr (by decide) rfl (Y.pa1 (Y.pv 0))))) (Y.pss_nil)) (Y.pss_one (Y.ps_ret (Y.pe_ix Y.ix_q (Y.pv 1) (Y.pe_own c_take hr (by decide) rfl (Y.pa2 (Y.pv 0) (Y.pe_callB Y.call_qlen rfl T.b_len PySem.boot_len (Y.pa1 (Y.pv 1))))) (fun _ _=>rfl))))
theorem sc_deed:FnScope ["_law_bag_here", "_law_names_here", "_law_kind"] ["_law_bag_here", "_law_names_here"] (defScope s_deed):=by walk_at "sc"
theorem ok_deed{f:Addr}{fd:FuncData}(F:Fun K "_law_deed" "_law_deed" s_deed f fd)(T:Txt K mg c)(c_take:Callee P w K mg base 1 "_law_take" ["_law_bag_here", "_law_many"] (sp_take K))(c_operand:Callee P w K mg base 3 "_law_operand" ["_law_bag_here", "_law_names_here"] (sp_operand K))   : FnOk P w K mg base CX0 4 f fd ["_law_bag_here", "_law_names_here"] (sp_deed K):=by
 refine Y.fun_ok F sc_deed (fun vs H Q E h=>h.1) (fun cdv A outer s H vs Q E hr h=>⟨t_deed K,?_,h.2⟩);have nd:=sc_deed.nd;exact Y.pss_cons (Y.ps_set (n:=2) nd rfl (Or.inl rfl) (Y.pe_ix Y.ix_q (Y.pe_lst (Y.pa5 (Y.pe_str) (Y.pe_str) (Y.pe_str) (Y.pe_str) (Y.pe_str))) (Y.pe_own c_take hr (by decide) rfl (Y.pa2 (Y.pv 0) (Y.pe_int))) (fun _ _=>rfl))) (Y.pss_one (Y.ps_ret (Y.pe_tup (Y.pa3 (Y.pv 2) (Y.pe_own c_operand hr (by decide) rfl (Y.pa2 (Y.pv 0) (Y.pv 1))) (Y.pe_own c_operand hr (by decide) rfl (Y.pa2 (Y.pv 0) (Y.pv 1)))))))
theorem sc_row:FnScope ["_law_bag_here", "_law_names_here", "_law_few", "_law_deeds", "_law_name", "_law_way"] ["_law_bag_here", "_law_names_here", "_law_few", "_law_deeds"] (defScope s_row):=by walk_at "sc"
theorem ok_row{f:Addr}{fd:FuncData}(F:Fun K "_law_row" "_law_row" s_row f fd)(T:Txt K mg c)(c_take:Callee P w K mg base 1 "_law_take" ["_law_bag_here", "_law_many"] (sp_take K))(c_operand:Callee P w K mg base 3 "_law_operand" ["_law_bag_here", "_law_names_here"] (sp_operand K))   : FnOk P w K mg base CX0 4 f fd ["_law_bag_here", "_law_names_here", "_law_few", "_law_deeds"] (sp_row K):=by
 refine Y.fun_ok F sc_row (fun vs H Q E h=>h.1) (fun cdv A outer s H vs Q E hr h=>⟨t_row K,?_,h.2⟩);have nd:=sc_row.nd;exact Y.pss_cons (Y.ps_set (n:=4) nd rfl (Or.inl rfl) (Y.pe_ix Y.ix_q (Y.pv 1) (Y.pe_own c_take hr (by decide) rfl (Y.pa2 (Y.pv 0) (Y.pe_callB Y.call_qlen rfl T.b_len PySem.boot_len (Y.pa1 (Y.pv 1))))) (fun _ _=>rfl))) (Y.pss_cons (Y.ps_if (Y.pt_cmpR Y.op_qgt (Y.pe_own c_take hr (by decide) rfl (Y.pa2 (Y.pv 0) (Y.pe_int))) (Y.pe_int) (nomark _)) (Y.pss_one (Y.ps_set (n:=4) nd rfl (Or.inl rfl) (Y.pe_ix Y.ix_q (Y.pv 1) (Y.pe_op Y.op_qadd (Y.pv 2) (Y.pe_own c_take hr (by decide) rfl (Y.pa2 (Y.pv 0) (Y.pe_op Y.op_qsub (Y.pe_callB Y.call_qlen rfl T.b_len PySem.boot_len (Y.pa1 (Y.pv 1))) (Y.pv 2))))) (fun _ _=>rfl)))) (Y.pss_nil)) (Y.pss_cons (Y.ps_set (n:=5) nd rfl (Or.inl rfl) (Y.pe_own c_take hr (by decide) rfl (Y.pa2 (Y.pv 0) (Y.pe_int)))) (Y.pss_cons (Y.ps_if (Y.pt_cmpR Y.op_qlt (Y.pv 5) (Y.pe_int) (nomark _)) (Y.pss_one (Y.ps_ret (Y.pe_tup (Y.pa3 (Y.pe_str) (Y.pv 4) (Y.pe_ix Y.ix_q (Y.pv 3) (Y.pe_own c_take hr (by decide) rfl (Y.pa2 (Y.pv 0) (Y.pe_callB Y.call_qlen rfl T.b_len PySem.boot_len (Y.pa1 (Y.pv 3))))) (fun _ _=>rfl)))))) (Y.pss_nil)) (Y.pss_cons (Y.ps_if (Y.pt_cmpR (Y.op_qeq hr) (Y.pv 5) (Y.pe_int) (nomark _)) (Y.pss_one (Y.ps_ret (Y.pe_tup (Y.pa3 (Y.pe_str) (Y.pv 4) (Y.pe_own c_operand hr (by decide) rfl (Y.pa2 (Y.pv 0) (Y.pv 1))))))) (Y.pss_nil)) (Y.pss_cons (Y.ps_if (Y.pt_cmpR (Y.op_qeq hr) (Y.pv 5) (Y.pe_int) (nomark _)) (Y.pss_one (Y.ps_ret (Y.pe_ix Y.ix_q (Y.pe_lst (Y.pa2 (Y.pe_tup (Y.pa2 (Y.pe_str) (Y.pv 4))) (Y.pe_tup (Y.pa2 (Y.pe_str) (Y.pe_own c_operand hr (by decide) rfl (Y.pa2 (Y.pv 0) (Y.pv 1))))))) (Y.pe_own c_take hr (by decide) rfl (Y.pa2 (Y.pv 0) (Y.pe_int))) (fun _ _=>rfl)))) (Y.pss_nil)) (Y.pss_one (Y.ps_ret (Y.pe_tup (Y.pa1 (Y.pe_str))))))))))
theorem sc_plan:FnScope ["_law_bag_here", "_law_many", "_law_nexts", "_law_few", "_law_names_here", "_law_deeds", "_law_rows", "_law_after"] ["_law_bag_here"] (defScope s_plan):=by walk_at "sc"
theorem cc_plan_0:CompOk ["_law_bag_here", "_law_many", "_law_nexts", "_law_few", "_law_names_here", "_law_deeds", "_law_rows", "_law_after"] (defScope s_plan) ({ kind:=PySem.ScopeKind.function,names:=[ (PySem.Str.ofString ".0", PySem.NameKind.local),(PySem.Str.ofString "_law_k", PySem.NameKind.local),(PySem.Str.ofString "_law_deed", PySem.NameKind.globalImplicit),(PySem.Str.ofString "_law_bag_here", PySem.NameKind.free),(PySem.Str.ofString "_law_few", PySem.NameKind.free),(PySem.Str.ofString "_law_names_here", PySem.NameKind.free)],isGenerator:=false,isCoroutine:=false,more:=[]:PySem.Scope }) "_law_k" := ⟨rfl,by decide +kernel,by decide +kernel,rfl,by decide +kernel,by decide +kernel,rfl,by decide +kernel⟩
theorem ok_plan{f:Addr}{fd:FuncData}(F:Fun K "_law_plan" "_law_plan" s_plan f fd)(T:Txt K mg c)(c_take:Callee P w K mg base 1 "_law_take" ["_law_bag_here", "_law_many"] (sp_take K))(c_net:Callee P w K mg base 2 "_law_net" ["_law_bag_here", "_law_many"] (sp_net K))(c_mended:Callee P w K mg base 1 "_law_mended" ["_law_nexts"] (sp_mended K))(c_names:Callee P w K mg base 3 "_law_names" ["_law_bag_here", "_law_many"] (sp_names K))(c_deed:Callee P w K mg base 4 "_law_deed" ["_law_bag_here", "_law_names_here"] (sp_deed K))(c_operand:Callee P w K mg base 3 "_law_operand" ["_law_bag_here", "_law_names_here"] (sp_operand K))(c_row:Callee P w K mg base 4 "_law_row" ["_law_bag_here", "_law_names_here", "_law_few", "_law_deeds"] (sp_row K))   : FnOk P w K mg base CX0 5 f fd ["_law_bag_here"] (sp_plan K):=by
 refine Y.fun_ok F sc_plan (fun vs H Q E h=>h.1) (fun cdv A outer s H vs Q E hr h=>⟨t_plan K,?_,h.2⟩);have nd:=sc_plan.nd;exact Y.pss_cons (Y.ps_set (n:=1) nd rfl (Or.inl rfl) (Y.pe_op Y.op_qadd (Y.pe_int) (Y.pe_own c_take hr (by decide) rfl (Y.pa2 (Y.pv 0) (Y.pe_int))))) (Y.pss_cons (Y.ps_if (Y.pt_cmpR (Y.op_qeq hr) (Y.pe_own c_take hr (by decide) rfl (Y.pa2 (Y.pv 0) (Y.pe_int))) (Y.pe_int) (nomark _)) (Y.pss_one (Y.ps_set (n:=1) nd rfl (Or.inl rfl) (Y.pe_op Y.op_qadd (Y.pe_int) (Y.pe_own c_take hr (by decide) rfl (Y.pa2 (Y.pv 0) (Y.pe_int)))))) (Y.pss_nil)) (Y.pss_cons (Y.ps_set (n:=2) nd rfl (Or.inl rfl) (Y.pe_own c_mended hr (by decide) rfl (Y.pa1 (Y.pe_own c_net hr (by decide) rfl (Y.pa2 (Y.pv 0) (Y.pv 1)))))) (Y.pss_cons (Y.ps_set (n:=3) nd rfl (Or.inr rfl) (Y.pe_op Y.op_qadd (Y.pe_int) (Y.pe_own c_take hr (by decide) rfl (Y.pa2 (Y.pv 0) (Y.pe_int))))) (Y.pss_cons (Y.ps_set (n:=4) nd rfl (Or.inr rfl) (Y.pe_own c_names hr (by decide) rfl (Y.pa2 (Y.pv 0) (Y.pe_op Y.op_qadd (Y.pe_op Y.op_qadd (Y.pv 3) (Y.pe_int)) (Y.pe_own c_take hr (by decide) rfl (Y.pa2 (Y.pv 0) (Y.pe_int))))))) (Y.pss_cons (Y.ps_setcomp (n:=5) nd rfl rfl cc_plan_0 rfl (Y.pi_range1 rfl T.b_range (Y.pa1 (Y.pe_op Y.op_qadd (Y.pe_int) (Y.pe_own c_take hr (by decide) rfl (Y.pa2 (Y.pv 0) (Y.pe_int)))))) (fun _ _ _ _ _=>Y.pts_nil) (fun _ _ _ _ _=>Y.pe_own c_deed hr (by decide) rfl (Y.pa2 (Y.pv 1) (Y.pe_slice Y.sl_q (Y.pv 5) (Y.po_none) (Y.po_some (Y.pv 4)))))) (Y.pss_cons (Y.ps_set (n:=6) nd rfl (Or.inl rfl) (Y.pe_lst (Y.pa_nil))) (Y.pss_cons (Y.ps_for PassesOwn.never rfl (Y.pi_list (Y.pv 2)) (Y.pg_name (n:=7) nd rfl (Or.inl rfl)) (Y.pss_one (Y.ps_if (Y.pt_cmpR (Y.op_qeq hr) (Y.pe_callB Y.call_qlen rfl T.b_len PySem.boot_len (Y.pa1 (Y.pv 7))) (Y.pe_int) (nomark _)) (Y.pss_one (Y.ps_expr (Y.pe_bm PySem.F.plainAttrs_list PySem.F.slot_list_append PySem.F.type_list_append Y.mt_qappend (Y.pv 6) (Y.pa1 (Y.pe_tup (Y.pa2 (Y.pe_str) (Y.pe_own c_operand hr (by decide) rfl (Y.pa2 (Y.pv 0) (Y.pv 4))))))))) (Y.pss_one (Y.ps_expr (Y.pe_bm PySem.F.plainAttrs_list PySem.F.slot_list_append PySem.F.type_list_append Y.mt_qappend (Y.pv 6) (Y.pa1 (Y.pe_own c_row hr (by decide) rfl (Y.pa4 (Y.pv 0) (Y.pv 4) (Y.pv 3) (Y.pv 5)))))))))) (Y.pss_one (Y.ps_ret (Y.pe_tup (Y.pa4 (Y.pv 6) (Y.pv 2) (Y.pv 4) (Y.pv 5))))))))))))
theorem sc_second:FnScope ["_law_bag_here", "_law_first", "_law_rows", "_law_nexts", "_law_names_here", "_law_deeds", "_law_spot", "_law_changed"] ["_law_bag_here", "_law_first"] (defScope s_second):=by walk_at "sc"
theorem ok_second{f:Addr}{fd:FuncData}(F:Fun K "_law_second" "_law_second" s_second f fd)(T:Txt K mg c)(c_take:Callee P w K mg base 1 "_law_take" ["_law_bag_here", "_law_many"] (sp_take K))(c_plan:Callee P w K mg base 5 "_law_plan" ["_law_bag_here"] (sp_plan K))(c_row:Callee P w K mg base 4 "_law_row" ["_law_bag_here", "_law_names_here", "_law_few", "_law_deeds"] (sp_row K))   : FnOk P w K mg base CX0 6 f fd ["_law_bag_here", "_law_first"] (sp_second K):=by
 refine Y.fun_ok F sc_second (fun vs H Q E h=>h.1) (fun cdv A outer s H vs Q E hr h=>⟨t_second K,?_,h.2⟩);have nd:=sc_second.nd;exact Y.pss_cons (Y.ps_asg (Y.pv 1) (Y.pg_tup rfl (Y.pgs_cons (Y.pg_name (n:=2) nd rfl (Or.inl rfl)) (Y.pgs_cons (Y.pg_name (n:=3) nd rfl (Or.inl rfl)) (Y.pgs_cons (Y.pg_name (n:=4) nd rfl (Or.inl rfl)) (Y.pgs_cons (Y.pg_name (n:=5) nd rfl (Or.inl rfl)) (Y.pgs_nil))))))) (Y.pss_cons (Y.ps_if (Y.pt_cmpR (Y.op_qeq hr) (Y.pe_own c_take hr (by decide) rfl (Y.pa2 (Y.pv 0) (Y.pe_int))) (Y.pe_int) (nomark _)) (Y.pss_one (Y.ps_ret (Y.pe_own c_plan hr (by decide) rfl (Y.pa1 (Y.pv 0))))) (Y.pss_nil)) (Y.pss_cons (Y.ps_set (n:=6) nd rfl (Or.inl rfl) (Y.pe_own c_take hr (by decide) rfl (Y.pa2 (Y.pv 0) (Y.pe_callB Y.call_qlen rfl T.b_len PySem.boot_len (Y.pa1 (Y.pv 2)))))) (Y.pss_cons (Y.ps_set (n:=7) nd rfl (Or.inl rfl) (Y.pe_callTy Y.call_qlist rfl T.b_list PyProof.Rows.boot_list (Y.pa1 (Y.pv 2)))) (Y.pss_cons (Y.ps_if (Y.pt_cmpR (Y.op_qne hr) (Y.pe_ix Y.ix_q (Y.pe_ix Y.ix_q (Y.pv 2) (Y.pv 6) (fun _ _=>rfl)) (Y.pe_int) (fun _ _=>rfl)) (Y.pe_str) (nomark _)) (Y.pss_one (Y.ps_asg (Y.pe_own c_row hr (by decide) rfl (Y.pa4 (Y.pv 0) (Y.pv 4) (Y.pe_int) (Y.pv 5))) (Y.pg_sub (Y.pv 7) (Y.pv 6) Y.set_q))) (Y.pss_nil)) (Y.pss_one (Y.ps_ret (Y.pe_tup (Y.pa4 (Y.pv 7) (Y.pv 3) (Y.pv 4) (Y.pv 5)))))))))
theorem sc_lists:FnScope ["_law_nexts"] ["_law_nexts"] (defScope s_lists):=by walk_at "sc"
theorem cc_lists_0:CompOk ["_law_nexts"] (defScope s_lists) ({ kind:=PySem.ScopeKind.function,names:=[ (PySem.Str.ofString ".0", PySem.NameKind.local),(PySem.Str.ofString "_law_after", PySem.NameKind.local),(PySem.Str.ofString "list", PySem.NameKind.globalImplicit)],isGenerator:=false,isCoroutine:=false,more:=[]:PySem.Scope }) "_law_after" := ⟨rfl,by decide +kernel,by decide +kernel,rfl,by decide +kernel,by decide +kernel,rfl,by decide +kernel⟩
theorem ok_lists{f:Addr}{fd:FuncData}(F:Fun K "_law_lists" "_law_lists" s_lists f fd)(T:Txt K mg c)    : FnOk P w K mg base CX0 1 f fd ["_law_nexts"] (sp_lists K):=by
 refine Y.fun_ok F sc_lists (fun vs H Q E h=>h.1) (fun cdv A outer s H vs Q E hr h=>⟨t_lists K,?_,h.2⟩);have nd:=sc_lists.nd;exact Y.pss_one (Y.ps_ret (Y.pe_comp cc_lists_0 rfl (Y.pi_list (Y.pv 0)) (fun _ _ _ _ _=>Y.pts_nil) (fun _ _ _ _ _=>Y.pe_callTy Y.call_qlist rfl T.b_list PyProof.Rows.boot_list (Y.pa1 (Y.pv 0)))))
theorem sc_check_length:FnScope ["things", "at", "least"] ["things", "at", "least"] (defScope s_check_length):=by walk_at "sc"
theorem ok_check_length{f:Addr}{fd:FuncData}(F:Fun K "check_length" "check_length" s_check_length f fd)(T:Txt K mg c)    : FnOk P w K mg base CX0 1 f fd ["things", "at", "least"] (sp_check_length K):=by
 refine Y.fun_ok F sc_check_length (fun vs H Q E h=>h.1) (fun cdv A outer s H vs Q E hr h=>⟨t_check_length K,?_,h.2⟩);have nd:=sc_check_length.nd;exact Y.pss_cons (Y.ps_if (Y.pw_pt (Y.pw_or (Y.pt_not (Y.pt_val (Y.pe_callB Y.call_qisi rfl T.b_isinstance PyProof.Rows.boot_isinstance (Y.pa2 (Y.pv 0) (Y.pe_bltn rfl T.b_list PyProof.Rows.boot_list rfl))))) (Y.pw_or1 (Y.pt_cmpR Y.op_qlt (Y.pe_callB Y.call_qlen rfl T.b_len PySem.boot_len (Y.pa1 (Y.pv 0))) (Y.pv 2) (nomark _))))) (Y.pss_one (Y.ps_raise)) (Y.pss_nil)) (Y.pss_one (Y.ps_if (Y.pt_cmpR Y.op_qgt (Y.pe_callB Y.call_qlen rfl T.b_len PySem.boot_len (Y.pa1 (Y.pv 0))) (Y.pe_globT T.g_MOST rfl) (nomark _)) (Y.pss_one (Y.ps_raise)) (Y.pss_nil)))
theorem sc_is_name:FnScope ["thing"] ["thing"] (defScope s_is_name):=by walk_at "sc"
theorem cc_is_name_0:CompOk ["thing"] (defScope s_is_name) ({ kind:=PySem.ScopeKind.function,names:=[ (PySem.Str.ofString ".0", PySem.NameKind.local),(PySem.Str.ofString "sign", PySem.NameKind.local),(PySem.Str.ofString "LETTERS", PySem.NameKind.globalImplicit),(PySem.Str.ofString "FIGURES", PySem.NameKind.globalImplicit)],isGenerator:=false,isCoroutine:=false,more:=[]:PySem.Scope }) "sign" := ⟨rfl,by decide +kernel,by decide +kernel,rfl,by decide +kernel,by decide +kernel,rfl,by decide +kernel⟩
theorem ok_is_name{f:Addr}{fd:FuncData}(F:Fun K "is_name" "is_name" s_is_name f fd)(T:Txt K mg c)    : FnOk P w K mg base CX0 1 f fd ["thing"] (sp_is_name K):=by
 refine Y.fun_ok F sc_is_name (fun vs H Q E h=>h.1) (fun cdv A outer s H vs Q E hr h=>⟨t_is_name K,?_,h.2⟩);have nd:=sc_is_name.nd;exact Y.pss_cons (Y.ps_if (Y.pw_pt (Y.pw_or (Y.pt_not (Y.pt_val (Y.pe_callB Y.call_qisi rfl T.b_isinstance PyProof.Rows.boot_isinstance (Y.pa2 (Y.pv 0) (Y.pe_bltn rfl T.b_str PyProof.Rows.boot_str rfl))))) (Y.pw_or1 (Y.pt_not (Y.pt_chain Y.op_qle Y.op_qle (Y.pe_int) (Y.pe_callB Y.call_qlen rfl T.b_len PySem.boot_len (Y.pa1 (Y.pv 0))) (Y.pe_globT T.g_LONGEST_NAME rfl)))))) (Y.pss_one (Y.ps_ret (Y.pe_bl))) (Y.pss_nil)) (Y.pss_one (Y.ps_ret (Y.pe_and (Y.pe_cmpR Y.op_qin (Y.pe_ix Y.ix_q (Y.pv 0) (Y.pe_int) (fun _ _=>rfl)) (Y.pe_globT T.g_LETTERS rfl) rfl) (Y.pe_one (Y.pe_callB (Y.call_qall rfl) rfl T.b_all PyProof.Rows.boot_all (Y.pa1 (Y.pe_comp cc_is_name_0 rfl (Y.pi_str (Y.pv 0)) (fun _ _ _ _ _=>Y.pts_nil) (fun _ _ _ _ _=>Y.pe_cmpR Y.op_qin (Y.pv 0) (Y.pe_op Y.op_qadd (Y.pe_globT T.g_LETTERS rfl) (Y.pe_globT T.g_FIGURES rfl)) rfl))))))))
theorem sc_is_whole:FnScope ["thing"] ["thing"] (defScope s_is_whole):=by walk_at "sc"
theorem ok_is_whole{f:Addr}{fd:FuncData}(F:Fun K "is_whole" "is_whole" s_is_whole f fd)(T:Txt K mg c)    : FnOk P w K mg base CX0 1 f fd ["thing"] (sp_is_whole K):=by
 refine Y.fun_ok F sc_is_whole (fun vs H Q E h=>h.1) (fun cdv A outer s H vs Q E hr h=>⟨t_is_whole K,?_,h.2⟩);have nd:=sc_is_whole.nd;exact Y.pss_one (Y.ps_ret (Y.pe_and (Y.pe_callB Y.call_qisi rfl T.b_isinstance PyProof.Rows.boot_isinstance (Y.pa2 (Y.pv 0) (Y.pe_bltn rfl T.b_int PyProof.Rows.boot_int rfl))) (Y.pe_one (Y.pe_not (Y.pe_callB Y.call_qisi rfl T.b_isinstance PyProof.Rows.boot_isinstance (Y.pa2 (Y.pv 0) (Y.pe_bltn rfl T.b_bool PyProof.Rows.boot_bool rfl)))))))
theorem sc_is_value:FnScope ["thing"] ["thing"] (defScope s_is_value):=by walk_at "sc"
theorem ok_is_value{f:Addr}{fd:FuncData}(F:Fun K "is_value" "is_value" s_is_value f fd)(T:Txt K mg c)(c_is_whole:Callee P w K mg base 1 "is_whole" ["thing"] (sp_is_whole K))   : FnOk P w K mg base CX0 2 f fd ["thing"] (sp_is_value K):=by
 refine Y.fun_ok F sc_is_value (fun vs H Q E h=>h.1) (fun cdv A outer s H vs Q E hr h=>⟨t_is_value K,?_,h.2⟩);have nd:=sc_is_value.nd;exact Y.pss_one (Y.ps_ret (Y.pe_and (Y.pe_own c_is_whole hr (by decide) rfl (Y.pa1 (Y.pv 0))) (Y.pe_one (Y.pe_chain Y.op_qle Y.op_qlt (Y.pe_int) (Y.pv 0) (Y.pe_globT T.g_BOUND rfl)))))
theorem sc_is_operand:FnScope ["thing"] ["thing"] (defScope s_is_operand):=by walk_at "sc"
theorem ok_is_operand{f:Addr}{fd:FuncData}(F:Fun K "is_operand" "is_operand" s_is_operand f fd)(T:Txt K mg c)(c_is_name:Callee P w K mg base 1 "is_name" ["thing"] (sp_is_name K))(c_is_value:Callee P w K mg base 2 "is_value" ["thing"] (sp_is_value K))   : FnOk P w K mg base CX0 3 f fd ["thing"] (sp_is_operand K):=by
 refine Y.fun_ok F sc_is_operand (fun vs H Q E h=>h.1) (fun cdv A outer s H vs Q E hr h=>⟨t_is_operand K,?_,h.2⟩);have nd:=sc_is_operand.nd;exact Y.pss_one (Y.ps_ret (Y.pe_or (Y.pe_own c_is_name hr (by decide) rfl (Y.pa1 (Y.pv 0))) (Y.pe_one (Y.pe_own c_is_value hr (by decide) rfl (Y.pa1 (Y.pv 0))))))
theorem sc_is_deed:FnScope ["thing"] ["thing"] (defScope s_is_deed):=by walk_at "sc"
theorem ok_is_deed{f:Addr}{fd:FuncData}(F:Fun K "is_deed" "is_deed" s_is_deed f fd)(T:Txt K mg c)(c_is_operand:Callee P w K mg base 3 "is_operand" ["thing"] (sp_is_operand K))   : FnOk P w K mg base CX0 4 f fd ["thing"] (sp_is_deed K c):=by
 refine Y.fun_ok F sc_is_deed (fun vs H Q E h=>h.1) (fun cdv A outer s H vs Q E hr h=>⟨t_is_deed K c,?_,h.2⟩);have nd:=sc_is_deed.nd;exact Y.pss_cons (Y.ps_if (Y.pw_pt (Y.pw_or (Y.pt_not (Y.pt_val (Y.pe_callB Y.call_qisi rfl T.b_isinstance PyProof.Rows.boot_isinstance (Y.pa2 (Y.pv 0) (Y.pe_bltn rfl T.b_tuple PyProof.Rows.boot_tuple rfl))))) (Y.pw_or1 (Y.pt_cmpR (Y.op_qne hr) (Y.pe_callB Y.call_qlen rfl T.b_len PySem.boot_len (Y.pa1 (Y.pv 0))) (Y.pe_int) (nomark _))))) (Y.pss_one (Y.ps_ret (Y.pe_bl))) (Y.pss_nil)) (Y.pss_one (Y.ps_ret (Y.pe_and (Y.pe_cmpR Y.op_qink (Y.pe_ix Y.ix_q (Y.pv 0) (Y.pe_int) (fun _ _=>rfl)) (Y.pe_globT T.g_DEED_KINDS rfl) rfl) (Y.pe_and (Y.pe_own c_is_operand hr (by decide) rfl (Y.pa1 (Y.pe_ix Y.ix_q (Y.pv 0) (Y.pe_int) (fun _ _=>rfl)))) (Y.pe_one (Y.pe_own c_is_operand hr (by decide) rfl (Y.pa1 (Y.pe_ix Y.ix_q (Y.pv 0) (Y.pe_int) (fun _ _=>rfl)))))))))
theorem sc_is_row:FnScope ["thing", "kind", "rest"] ["thing"] (defScope s_is_row):=by walk_at "sc"
theorem ok_is_row{f:Addr}{fd:FuncData}(F:Fun K "is_row" "is_row" s_is_row f fd)(T:Txt K mg c)(c_is_name:Callee P w K mg base 1 "is_name" ["thing"] (sp_is_name K))(c_is_deed:Callee P w K mg base 4 "is_deed" ["thing"] (sp_is_deed K c))(c_is_operand:Callee P w K mg base 3 "is_operand" ["thing"] (sp_is_operand K))   : FnOk P w K mg base CX0 5 f fd ["thing"] (sp_is_row K c):=by
 refine Y.fun_ok F sc_is_row (fun vs H Q E h=>h.1) (fun cdv A outer s H vs Q E hr h=>⟨t_is_row K c,?_,h.2⟩);have nd:=sc_is_row.nd;exact Y.pss_cons (Y.ps_if (Y.pw_pt (Y.pw_or (Y.pt_not (Y.pt_val (Y.pe_callB Y.call_qisi rfl T.b_isinstance PyProof.Rows.boot_isinstance (Y.pa2 (Y.pv 0) (Y.pe_bltn rfl T.b_tuple PyProof.Rows.boot_tuple rfl))))) (Y.pw_or1 (Y.pt_cmpR (Y.op_qeq hr) (Y.pe_callB Y.call_qlen rfl T.b_len PySem.boot_len (Y.pa1 (Y.pv 0))) (Y.pe_int) (nomark _))))) (Y.pss_one (Y.ps_ret (Y.pe_bl))) (Y.pss_nil)) (Y.pss_cons (Y.ps_set (n:=1) nd rfl (Or.inl rfl) (Y.pe_ix Y.ix_q (Y.pv 0) (Y.pe_int) (fun _ _=>rfl))) (Y.pss_cons (Y.ps_set (n:=2) nd rfl (Or.inl rfl) (Y.pe_slice Y.sl_q (Y.pv 0) (Y.po_some (Y.pe_int)) (Y.po_none))) (Y.pss_cons (Y.ps_if (Y.pt_cmpR (Y.op_qeq hr) (Y.pv 1) (Y.pe_str) (nomark _)) (Y.pss_one (Y.ps_ret (Y.pe_and (Y.pe_cmpR (Y.op_qeq hr) (Y.pe_callB Y.call_qlen rfl T.b_len PySem.boot_len (Y.pa1 (Y.pv 2))) (Y.pe_int) (nomark _)) (Y.pe_and (Y.pe_own c_is_name hr (by decide) rfl (Y.pa1 (Y.pe_ix Y.ix_q (Y.pv 2) (Y.pe_int) (fun _ _=>rfl)))) (Y.pe_one (Y.pe_own c_is_deed hr (by decide) rfl (Y.pa1 (Y.pe_ix Y.ix_q (Y.pv 2) (Y.pe_int) (fun _ _=>rfl))))))))) (Y.pss_nil)) (Y.pss_cons (Y.ps_if (Y.pt_cmpR (Y.op_qeq hr) (Y.pv 1) (Y.pe_str) (nomark _)) (Y.pss_one (Y.ps_ret (Y.pe_and (Y.pe_cmpR (Y.op_qeq hr) (Y.pe_callB Y.call_qlen rfl T.b_len PySem.boot_len (Y.pa1 (Y.pv 2))) (Y.pe_int) (nomark _)) (Y.pe_and (Y.pe_own c_is_name hr (by decide) rfl (Y.pa1 (Y.pe_ix Y.ix_q (Y.pv 2) (Y.pe_int) (fun _ _=>rfl)))) (Y.pe_one (Y.pe_own c_is_operand hr (by decide) rfl (Y.pa1 (Y.pe_ix Y.ix_q (Y.pv 2) (Y.pe_int) (fun _ _=>rfl))))))))) (Y.pss_nil)) (Y.pss_cons (Y.ps_if (Y.pt_cmpR (Y.op_qeq hr) (Y.pv 1) (Y.pe_str) (nomark _)) (Y.pss_one (Y.ps_ret (Y.pe_and (Y.pe_cmpR (Y.op_qeq hr) (Y.pe_callB Y.call_qlen rfl T.b_len PySem.boot_len (Y.pa1 (Y.pv 2))) (Y.pe_int) (nomark _)) (Y.pe_one (Y.pe_own c_is_name hr (by decide) rfl (Y.pa1 (Y.pe_ix Y.ix_q (Y.pv 2) (Y.pe_int) (fun _ _=>rfl)))))))) (Y.pss_nil)) (Y.pss_cons (Y.ps_if (Y.pt_cmpR Y.op_qin (Y.pv 1) (Y.pe_tup (Y.pa2 (Y.pe_str) (Y.pe_str))) rfl) (Y.pss_one (Y.ps_ret (Y.pe_and (Y.pe_cmpR (Y.op_qeq hr) (Y.pe_callB Y.call_qlen rfl T.b_len PySem.boot_len (Y.pa1 (Y.pv 2))) (Y.pe_int) (nomark _)) (Y.pe_one (Y.pe_own c_is_operand hr (by decide) rfl (Y.pa1 (Y.pe_ix Y.ix_q (Y.pv 2) (Y.pe_int) (fun _ _=>rfl)))))))) (Y.pss_nil)) (Y.pss_one (Y.ps_ret (Y.pe_and (Y.pe_cmpR (Y.op_qeq hr) (Y.pv 1) (Y.pe_str) (nomark _)) (Y.pe_one (Y.pe_cmpR (Y.op_qeq hr) (Y.pe_callB Y.call_qlen rfl T.b_len PySem.boot_len (Y.pa1 (Y.pv 2))) (Y.pe_int) (nomark _))))))))))))
theorem sc_check_each:FnScope ["rights", "k", "right"] ["rights"] (defScope s_check_each):=by walk_at "sc"
theorem ok_check_each{f:Addr}{fd:FuncData}(F:Fun K "check_each" "check_each" s_check_each f fd)(T:Txt K mg c)    : FnOk P w K mg base CX0 1 f fd ["rights"] (sp_check_each K):=by
 refine Y.fun_ok F sc_check_each (fun vs H Q E h=>h.1) (fun cdv A outer s H vs Q E hr h=>⟨t_check_each K,?_,h.2⟩);have nd:=sc_check_each.nd;exact Y.pss_one (Y.ps_for PassesOwn.never rfl (Y.pi_enum rfl T.b_enumerate (Y.pa1 (Y.pv 0))) (Y.pg_tup rfl (Y.pgs_cons (Y.pg_name (n:=1) nd rfl (Or.inl rfl)) (Y.pgs_cons (Y.pg_name (n:=2) nd rfl (Or.inl rfl)) (Y.pgs_nil)))) (Y.pss_one (Y.ps_if (Y.pt_not (Y.pt_val (Y.pv 2))) (Y.pss_one (Y.ps_raise)) (Y.pss_nil))))
theorem sc_is_below:FnScope ["thing", "many"] ["thing", "many"] (defScope s_is_below):=by walk_at "sc"
theorem ok_is_below{f:Addr}{fd:FuncData}(F:Fun K "is_below" "is_below" s_is_below f fd)(T:Txt K mg c)(c_is_whole:Callee P w K mg base 1 "is_whole" ["thing"] (sp_is_whole K))   : FnOk P w K mg base CX0 2 f fd ["thing", "many"] (sp_is_below K):=by
 refine Y.fun_ok F sc_is_below (fun vs H Q E h=>h.1) (fun cdv A outer s H vs Q E hr h=>⟨t_is_below K,?_,h.2⟩);have nd:=sc_is_below.nd;exact Y.pss_one (Y.ps_ret (Y.pe_and (Y.pe_own c_is_whole hr (by decide) rfl (Y.pa1 (Y.pv 0))) (Y.pe_one (Y.pe_chain Y.op_qle Y.op_qlt (Y.pe_int) (Y.pv 0) (Y.pv 1)))))
theorem sc_are_nexts:FnScope ["row", "following", "many", "wanted"] ["row", "following", "many"] (defScope s_are_nexts):=by walk_at "sc"
theorem cc_are_nexts_0:CompOk ["row", "following", "many", "wanted"] (defScope s_are_nexts) ({ kind:=PySem.ScopeKind.function,names:=[ (PySem.Str.ofString ".0", PySem.NameKind.local),(PySem.Str.ofString "place", PySem.NameKind.local),(PySem.Str.ofString "is_below", PySem.NameKind.globalImplicit),(PySem.Str.ofString "many", PySem.NameKind.free)],isGenerator:=false,isCoroutine:=false,more:=[]:PySem.Scope }) "place" := ⟨rfl,by decide +kernel,by decide +kernel,rfl,by decide +kernel,by decide +kernel,rfl,by decide +kernel⟩
theorem ok_are_nexts{f:Addr}{fd:FuncData}(F:Fun K "are_nexts" "are_nexts" s_are_nexts f fd)(T:Txt K mg c)(c_is_below:Callee P w K mg base 2 "is_below" ["thing", "many"] (sp_is_below K))   : FnOk P w K mg base CX0 3 f fd ["row", "following", "many"] (sp_are_nexts K):=by
 refine Y.fun_ok F sc_are_nexts (fun vs H Q E h=>h.1) (fun cdv A outer s H vs Q E hr h=>⟨t_are_nexts K,?_,h.2⟩);have nd:=sc_are_nexts.nd;exact Y.pss_cons (Y.ps_if (Y.pt_not (Y.pt_val (Y.pe_callB Y.call_qisi rfl T.b_isinstance PyProof.Rows.boot_isinstance (Y.pa2 (Y.pv 1) (Y.pe_bltn rfl T.b_list PyProof.Rows.boot_list rfl))))) (Y.pss_one (Y.ps_ret (Y.pe_bl))) (Y.pss_nil)) (Y.pss_cons (Y.ps_set (n:=3) nd rfl (Or.inl rfl) (Y.pe_ifExp (Y.pt_cmpR (Y.op_qeq hr) (Y.pe_ix Y.ix_q (Y.pv 0) (Y.pe_int) (fun _ _=>rfl)) (Y.pe_str) (nomark _)) (Y.pe_tup (Y.pa1 (Y.pe_int))) (Y.pe_tup (Y.pa2 (Y.pe_int) (Y.pe_int))))) (Y.pss_one (Y.ps_ret (Y.pe_and (Y.pe_cmpR Y.op_qin (Y.pe_callB Y.call_qlen rfl T.b_len PySem.boot_len (Y.pa1 (Y.pv 1))) (Y.pv 3) rfl) (Y.pe_one (Y.pe_callB (Y.call_qall rfl) rfl T.b_all PyProof.Rows.boot_all (Y.pa1 (Y.pe_comp cc_are_nexts_0 rfl (Y.pi_list (Y.pv 1)) (fun _ _ _ _ _=>Y.pts_nil) (fun _ _ _ _ _=>Y.pe_own c_is_below hr (by decide) rfl (Y.pa2 (Y.pv 0) (Y.pv 3)))))))))))
theorem sc_check_nexts:FnScope ["rows", "nexts"] ["rows", "nexts"] (defScope s_check_nexts):=by walk_at "sc"
theorem cc_check_nexts_0:CompOkP ["rows", "nexts"] (defScope s_check_nexts) ({ kind:=PySem.ScopeKind.function,names:=[ (PySem.Str.ofString ".0", PySem.NameKind.local),(PySem.Str.ofString "row", PySem.NameKind.local),(PySem.Str.ofString "following", PySem.NameKind.local),(PySem.Str.ofString "are_nexts", PySem.NameKind.globalImplicit),(PySem.Str.ofString "len", PySem.NameKind.globalImplicit),(PySem.Str.ofString "rows", PySem.NameKind.free)],isGenerator:=false,isCoroutine:=false,more:=[]:PySem.Scope }) "row" "following" := ⟨rfl,by decide +kernel,by decide +kernel,rfl,rfl,by decide +kernel,by decide +kernel,rfl,rfl,by decide +kernel⟩
theorem ok_check_nexts{f:Addr}{fd:FuncData}(F:Fun K "check_nexts" "check_nexts" s_check_nexts f fd)(T:Txt K mg c)(c_are_nexts:Callee P w K mg base 3 "are_nexts" ["row", "following", "many"] (sp_are_nexts K))(c_check_each:Callee P w K mg base 1 "check_each" ["rights"] (sp_check_each K))   : FnOk P w K mg base CX0 4 f fd ["rows", "nexts"] (sp_check_nexts K):=by
 refine Y.fun_ok F sc_check_nexts (fun vs H Q E h=>h.1) (fun cdv A outer s H vs Q E hr h=>⟨t_check_nexts K,?_,h.2⟩);have nd:=sc_check_nexts.nd;exact Y.pss_cons (Y.ps_if (Y.pw_pt (Y.pw_or (Y.pt_not (Y.pt_val (Y.pe_callB Y.call_qisi rfl T.b_isinstance PyProof.Rows.boot_isinstance (Y.pa2 (Y.pv 1) (Y.pe_bltn rfl T.b_list PyProof.Rows.boot_list rfl))))) (Y.pw_or1 (Y.pt_cmpR (Y.op_qne hr) (Y.pe_callB Y.call_qlen rfl T.b_len PySem.boot_len (Y.pa1 (Y.pv 1))) (Y.pe_callB Y.call_qlen rfl T.b_len PySem.boot_len (Y.pa1 (Y.pv 0))) (nomark _))))) (Y.pss_one (Y.ps_raise)) (Y.pss_nil)) (Y.pss_one (Y.ps_expr (Y.pe_own c_check_each hr (by decide) rfl (Y.pa1 (Y.pe_compP cc_check_nexts_0 rfl (Y.pi_zip rfl T.b_zip (Y.pa2 (Y.pv 0) (Y.pv 1))) (fun _ _ _ _ _=>Y.pts_nil) (fun _ _ _ _ _=>Y.pe_own c_are_nexts hr (by decide) rfl (Y.pa3 (Y.pv 0) (Y.pv 1) (Y.pe_callB Y.call_qlen rfl T.b_len PySem.boot_len (Y.pa1 (Y.pv 2))))))))))
theorem sc_reached:FnScope ["begins", "leads", "seen", "waiting", "place"] ["begins", "leads"] (defScope s_reached):=by walk_at "sc"
theorem ok_reached{f:Addr}{fd:FuncData}(F:Fun K "reached" "reached" s_reached f fd)(T:Txt K mg c)    : FnOk P w K mg base CX0 1 f fd ["begins", "leads"] (sp_reached K):=by
 refine Y.fun_ok F sc_reached (fun vs H Q E h=>h.1) (fun cdv A outer s H vs Q E hr h=>⟨t_reached K,?_,h.2⟩);have nd:=sc_reached.nd;exact Y.pss_cons (Y.ps_set (n:=2) nd rfl (Or.inl rfl) (Y.pe_dnewK)) (Y.pss_cons (Y.ps_set (n:=3) nd rfl (Or.inl rfl) (Y.pe_callTy Y.call_qlist rfl T.b_list PyProof.Rows.boot_list (Y.pa1 (Y.pv 0)))) (Y.pss_cons (Y.ps_while PassesOwn.never (Y.pt_cmpR Y.op_qgt (Y.pe_callB Y.call_qlen rfl T.b_len PySem.boot_len (Y.pa1 (Y.pv 3))) (Y.pe_int) (nomark _)) (Y.pss_cons (Y.ps_set (n:=4) nd rfl (Or.inl rfl) (Y.pe_bm0 PySem.F.plainAttrs_list PySem.F.slot_list_pop PySem.F.type_list_pop Y.mt_qpop (Y.pv 3))) (Y.pss_one (Y.ps_if (Y.pt_dnotin hr (Y.pv 4) (Y.pv 2) rfl) (Y.pss_cons (Y.ps_dput hr (Y.pv 2) (Y.pv 4) (Y.pe_bl)) (Y.pss_one (Y.ps_expr (Y.pe_bm PySem.F.plainAttrs_list PySem.F.slot_list_extend PySem.F.type_list_extend Y.mt_qextend (Y.pv 3) (Y.pa1 (Y.pe_ix Y.ix_q (Y.pv 1) (Y.pv 4) (fun _ _=>rfl))))))) (Y.pss_nil))))) (Y.pss_one (Y.ps_ret (Y.pv 2)))))
theorem sc_turned:FnScope ["nexts", "sources", "place", "following", "target"] ["nexts"] (defScope s_turned):=by walk_at "sc"
theorem cc_turned_0:CompOk ["nexts", "sources", "place", "following", "target"] (defScope s_turned) ({ kind:=PySem.ScopeKind.function,names:=[(PySem.Str.ofString ".0", PySem.NameKind.local),(PySem.Str.ofString "following", PySem.NameKind.local)],isGenerator:=false,isCoroutine:=false,more:=[]:PySem.Scope }) "following" := ⟨rfl,by decide +kernel,by decide +kernel,rfl,by decide +kernel,by decide +kernel,rfl,by decide +kernel⟩
theorem ok_turned{f:Addr}{fd:FuncData}(F:Fun K "turned" "turned" s_turned f fd)(T:Txt K mg c)    : FnOk P w K mg base CX0 1 f fd ["nexts"] (sp_turned K):=by
 refine Y.fun_ok F sc_turned (fun vs H Q E h=>h.1) (fun cdv A outer s H vs Q E hr h=>⟨t_turned K,?_,h.2⟩);have nd:=sc_turned.nd;exact Y.pss_cons (Y.ps_setcomp (n:=1) nd rfl rfl cc_turned_0 rfl (Y.pi_list (Y.pv 0)) (fun _ _ _ _ _=>Y.pts_nil) (fun _ _ _ _ _=>Y.pe_lst (Y.pa_nil))) (Y.pss_cons (Y.ps_for PassesOwn.never rfl (Y.pi_enum rfl T.b_enumerate (Y.pa1 (Y.pv 0))) (Y.pg_tup rfl (Y.pgs_cons (Y.pg_name (n:=2) nd rfl (Or.inl rfl)) (Y.pgs_cons (Y.pg_name (n:=3) nd rfl (Or.inl rfl)) (Y.pgs_nil)))) (Y.pss_one (Y.ps_for PassesOwn.never rfl (Y.pi_list (Y.pv 3)) (Y.pg_name (n:=4) nd rfl (Or.inl rfl)) (Y.pss_one (Y.ps_expr (Y.pe_bm PySem.F.plainAttrs_list PySem.F.slot_list_append PySem.F.type_list_append Y.mt_qappend (Y.pe_ix Y.ix_q (Y.pv 1) (Y.pv 4) (fun _ _=>rfl)) (Y.pa1 (Y.pv 2)))))))) (Y.pss_one (Y.ps_ret (Y.pv 1))))
theorem sc_stops_of:FnScope ["nexts"] ["nexts"] (defScope s_stops_of):=by walk_at "sc"
theorem cc_stops_of_0:CompOkP ["nexts"] (defScope s_stops_of) ({ kind:=PySem.ScopeKind.function,names:=[ (PySem.Str.ofString ".0", PySem.NameKind.local),(PySem.Str.ofString "place", PySem.NameKind.local),(PySem.Str.ofString "following", PySem.NameKind.local),(PySem.Str.ofString "len", PySem.NameKind.globalImplicit)],isGenerator:=false,isCoroutine:=false,more:=[]:PySem.Scope }) "place" "following" := ⟨rfl,by decide +kernel,by decide +kernel,rfl,rfl,by decide +kernel,by decide +kernel,rfl,rfl,by decide +kernel⟩
theorem ok_stops_of{f:Addr}{fd:FuncData}(F:Fun K "stops_of" "stops_of" s_stops_of f fd)(T:Txt K mg c)    : FnOk P w K mg base CX0 1 f fd ["nexts"] (sp_stops_of K):=by
 refine Y.fun_ok F sc_stops_of (fun vs H Q E h=>h.1) (fun cdv A outer s H vs Q E hr h=>⟨t_stops_of K,?_,h.2⟩);have nd:=sc_stops_of.nd;exact Y.pss_one (Y.ps_ret (Y.pe_compP cc_stops_of_0 rfl (Y.pi_enum rfl T.b_enumerate (Y.pa1 (Y.pv 0))) (fun _ _ _ _ _=>Y.pts_one (Y.pt_cmpR (Y.op_qeq hr) (Y.pe_callB Y.call_qlen rfl T.b_len PySem.boot_len (Y.pa1 (Y.pv 1))) (Y.pe_int) (nomark _))) (fun _ _ _ _ _=>Y.pv 0)))
theorem sc_check_ways:FnScope ["nexts", "begun", "ending", "place"] ["nexts"] (defScope s_check_ways):=by walk_at "sc"
theorem ok_check_ways{f:Addr}{fd:FuncData}(F:Fun K "check_ways" "check_ways" s_check_ways f fd)(T:Txt K mg c)(c_reached:Callee P w K mg base 1 "reached" ["begins", "leads"] (sp_reached K))(c_turned:Callee P w K mg base 1 "turned" ["nexts"] (sp_turned K))(c_stops_of:Callee P w K mg base 1 "stops_of" ["nexts"] (sp_stops_of K))   : FnOk P w K mg base CX0 2 f fd ["nexts"] (sp_check_ways K):=by
 refine Y.fun_ok F sc_check_ways (fun vs H Q E h=>h.1) (fun cdv A outer s H vs Q E hr h=>⟨t_check_ways K,?_,h.2⟩);have nd:=sc_check_ways.nd;exact Y.pss_cons (Y.ps_set (n:=1) nd rfl (Or.inl rfl) (Y.pe_own c_reached hr (by decide) rfl (Y.pa2 (Y.pe_lst (Y.pa1 (Y.pe_int))) (Y.pv 0)))) (Y.pss_cons (Y.ps_set (n:=2) nd rfl (Or.inl rfl) (Y.pe_own c_reached hr (by decide) rfl (Y.pa2 (Y.pe_own c_stops_of hr (by decide) rfl (Y.pa1 (Y.pv 0))) (Y.pe_own c_turned hr (by decide) rfl (Y.pa1 (Y.pv 0)))))) (Y.pss_one (Y.ps_for PassesOwn.never rfl (Y.pi_range1 rfl T.b_range (Y.pa1 (Y.pe_callB Y.call_qlen rfl T.b_len PySem.boot_len (Y.pa1 (Y.pv 0))))) (Y.pg_name (n:=3) nd rfl (Or.inl rfl)) (Y.pss_one (Y.ps_if (Y.pw_pt (Y.pw_or (Y.pt_dnotin hr (Y.pv 3) (Y.pv 1) rfl) (Y.pw_or1 (Y.pt_dnotin hr (Y.pv 3) (Y.pv 2) rfl)))) (Y.pss_one (Y.ps_raise)) (Y.pss_nil))))))
theorem sc_steps_of:FnScope ["nexts", "steps", "place", "following"] ["nexts"] (defScope s_steps_of):=by walk_at "sc"
theorem cc_steps_of_0:CompOk ["nexts", "steps", "place", "following"] (defScope s_steps_of) ({ kind:=PySem.ScopeKind.function,names:=[ (PySem.Str.ofString ".0", PySem.NameKind.local),(PySem.Str.ofString "at", PySem.NameKind.local),(PySem.Str.ofString "place", PySem.NameKind.free)],isGenerator:=false,isCoroutine:=false,more:=[]:PySem.Scope }) "at" := ⟨rfl,by decide +kernel,by decide +kernel,rfl,by decide +kernel,by decide +kernel,rfl,by decide +kernel⟩
theorem ok_steps_of{f:Addr}{fd:FuncData}(F:Fun K "steps_of" "steps_of" s_steps_of f fd)(T:Txt K mg c)    : FnOk P w K mg base CX0 1 f fd ["nexts"] (sp_steps_of K c):=by
 refine Y.fun_ok F sc_steps_of (fun vs H Q E h=>h.1) (fun cdv A outer s H vs Q E hr h=>⟨t_steps_of K c,?_,h.2⟩);have nd:=sc_steps_of.nd;exact Y.pss_cons (Y.ps_set (n:=1) nd rfl (Or.inl rfl) (Y.pe_lst (Y.pa1 (Y.pe_globT T.g_FIRST_STEP rfl)))) (Y.pss_cons (Y.ps_for PassesOwn.never rfl (Y.pi_enum rfl T.b_enumerate (Y.pa1 (Y.pv 0))) (Y.pg_tup rfl (Y.pgs_cons (Y.pg_name (n:=2) nd rfl (Or.inr rfl)) (Y.pgs_cons (Y.pg_name (n:=3) nd rfl (Or.inl rfl)) (Y.pgs_nil)))) (Y.pss_one (Y.ps_expr (Y.pe_bm PySem.F.plainAttrs_list PySem.F.slot_list_extend PySem.F.type_list_extend Y.mt_qextend (Y.pv 1) (Y.pa1 (Y.pe_comp cc_steps_of_0 rfl (Y.pi_range1 rfl T.b_range (Y.pa1 (Y.pe_callB Y.call_qlen rfl T.b_len PySem.boot_len (Y.pa1 (Y.pv 3))))) (fun _ _ _ _ _=>Y.pts_nil) (fun _ _ _ _ _=>Y.pe_tup (Y.pa2 (Y.pv 3) (Y.pv 0))))))))) (Y.pss_one (Y.ps_ret (Y.pv 1))))
theorem sc_Plan_leads_to:FnScope ["self", "step"] ["self", "step"] (defScope s_Plan_leads_to):=by walk_at "sc"
theorem ok_Plan_leads_to{f:Addr}{fd:FuncData}(F:Fun K "leads_to" "Plan.leads_to" s_Plan_leads_to f fd)(T:Txt K mg c)    : FnOk P w K mg base CX0 1 f fd ["self", "step"] (sp_Plan_leads_to K c):=by
 refine Y.fun_ok F sc_Plan_leads_to (fun vs H Q E h=>h.1) (fun cdv A outer s H vs Q E hr h=>⟨t_Plan_leads_to K c,?_,h.2⟩);have nd:=sc_Plan_leads_to.nd;exact Y.pss_cons (Y.ps_if (Y.pt_cmpR (Y.op_qeqk hr) (Y.pv 1) (Y.pe_globT T.g_FIRST_STEP rfl) (nomark _)) (Y.pss_one (Y.ps_ret (Y.pe_int))) (Y.pss_nil)) (Y.pss_one (Y.ps_ret (Y.pe_ix Y.ix_q (Y.pe_ix Y.ix_q (Y.pe_fld (Y.pv 0)) (Y.pe_ix Y.ix_q (Y.pv 1) (Y.pe_int) (fun _ _=>rfl)) (fun _ _=>rfl)) (Y.pe_ix Y.ix_q (Y.pv 1) (Y.pe_int) (fun _ _=>rfl)) (fun _ _=>rfl))))
theorem sc_Plan_init:FnScope ["self", "rows", "nexts", "step"] ["self", "rows", "nexts"] (defScope s_Plan_init):=by walk_at "sc"
theorem cc_Plan_init_0:CompOk ["self", "rows", "nexts", "step"] (defScope s_Plan_init) ({ kind:=PySem.ScopeKind.function,names:=[ (PySem.Str.ofString ".0", PySem.NameKind.local),(PySem.Str.ofString "row", PySem.NameKind.local),(PySem.Str.ofString "is_row", PySem.NameKind.globalImplicit)],isGenerator:=false,isCoroutine:=false,more:=[]:PySem.Scope }) "row" := ⟨rfl,by decide +kernel,by decide +kernel,rfl,by decide +kernel,by decide +kernel,rfl,by decide +kernel⟩
theorem cc_Plan_init_1:CompOk ["self", "rows", "nexts", "step"] (defScope s_Plan_init) ({ kind:=PySem.ScopeKind.function,names:=[ (PySem.Str.ofString ".0", PySem.NameKind.local),(PySem.Str.ofString "following", PySem.NameKind.local),(PySem.Str.ofString "list", PySem.NameKind.globalImplicit)],isGenerator:=false,isCoroutine:=false,more:=[]:PySem.Scope }) "following" := ⟨rfl,by decide +kernel,by decide +kernel,rfl,by decide +kernel,by decide +kernel,rfl,by decide +kernel⟩
theorem cc_Plan_init_2:CompOk ["self", "rows", "nexts", "step"] (defScope s_Plan_init) ({ kind:=PySem.ScopeKind.function,names:=[(PySem.Str.ofString ".0", PySem.NameKind.local),(PySem.Str.ofString "row", PySem.NameKind.local)],isGenerator:=false,isCoroutine:=false,more:=[]:PySem.Scope }) "row" := ⟨rfl,by decide +kernel,by decide +kernel,rfl,by decide +kernel,by decide +kernel,rfl,by decide +kernel⟩
theorem ok_Plan_init{f:Addr}{fd:FuncData}(F:Fun K "__init__" "Plan.__init__" s_Plan_init f fd)(T:Txt K mg c)(c_check_length:Callee P w K mg base 1 "check_length" ["things", "at", "least"] (sp_check_length K))(c_is_row:Callee P w K mg base 5 "is_row" ["thing"] (sp_is_row K c))(c_check_each:Callee P w K mg base 1 "check_each" ["rights"] (sp_check_each K))(c_check_nexts:Callee P w K mg base 4 "check_nexts" ["rows", "nexts"] (sp_check_nexts K))(c_check_ways:Callee P w K mg base 2 "check_ways" ["nexts"] (sp_check_ways K))(c_steps_of:Callee P w K mg base 1 "steps_of" ["nexts"] (sp_steps_of K c)) (c_Plan_leads_to:MCallee P w K mg base 1 "leads_to" c.C_Plan ["self", "step"] (sp_Plan_leads_to K c)):FnOk P w K mg base CX0 6 f fd ["self", "rows", "nexts"] (sp_Plan_init K c):=by
 refine Y.fun_ok F sc_Plan_init (fun vs H Q E h=>h.1) (fun cdv A outer s H vs Q E hr h=>⟨t_Plan_init K c,?_,h.2⟩);have nd:=sc_Plan_init.nd;exact Y.pss_cons (Y.ps_expr (Y.pe_own c_check_length hr (by decide) rfl (Y.pa3 (Y.pv 1) (Y.pe_int) (Y.pe_int)))) (Y.pss_cons (Y.ps_expr (Y.pe_own c_check_each hr (by decide) rfl (Y.pa1 (Y.pe_comp cc_Plan_init_0 rfl (Y.pi_list (Y.pv 1)) (fun _ _ _ _ _=>Y.pts_nil) (fun _ _ _ _ _=>Y.pe_own c_is_row hr (by decide) rfl (Y.pa1 (Y.pv 0))))))) (Y.pss_cons (Y.ps_expr (Y.pe_own c_check_nexts hr (by decide) rfl (Y.pa2 (Y.pv 1) (Y.pv 2)))) (Y.pss_cons (Y.ps_expr (Y.pe_own c_check_ways hr (by decide) rfl (Y.pa1 (Y.pv 2)))) (Y.pss_cons (Y.ps_fld (Y.pv 0) (Y.pe_callTy Y.call_qlist rfl T.b_list PyProof.Rows.boot_list (Y.pa1 (Y.pv 1)))) (Y.pss_cons (Y.ps_fld (Y.pv 0) (Y.pe_comp cc_Plan_init_1 rfl (Y.pi_list (Y.pv 2)) (fun _ _ _ _ _=>Y.pts_nil) (fun _ _ _ _ _=>Y.pe_callTy Y.call_qlist rfl T.b_list PyProof.Rows.boot_list (Y.pa1 (Y.pv 0))))) (Y.pss_cons (Y.ps_fld (Y.pv 0) (Y.pe_comp cc_Plan_init_2 rfl (Y.pi_list (Y.pv 1)) (fun _ _ _ _ _=>Y.pts_nil) (fun _ _ _ _ _=>Y.pe_lst (Y.pa_nil)))) (Y.pss_one (Y.ps_for PassesOwn.never rfl (Y.pi_list (Y.pe_own c_steps_of hr (by decide) rfl (Y.pa1 (Y.pe_fld (Y.pv 0))))) (Y.pg_name (n:=3) nd rfl (Or.inl rfl)) (Y.pss_one (Y.ps_expr (Y.pe_bm PySem.F.plainAttrs_list PySem.F.slot_list_append PySem.F.type_list_append Y.mt_qappend (Y.pe_ix Y.ix_q (Y.pe_fld (Y.pv 0)) (Y.pe_mth c_Plan_leads_to hr (by decide) (Y.pv 0) (Y.pa1 (Y.pv 3))) (fun _ _=>rfl)) (Y.pa1 (Y.pv 3)))))))))))))
theorem sc_made:FnScope ["_law_rows", "_law_nexts", "_law_handed", "_law_plan_here", "_law_after"] ["_law_rows", "_law_nexts"] (defScope s_made):=by walk_at "sc"
theorem ok_made{f:Addr}{fd:FuncData}(F:Fun K "_law_made" "_law_made" s_made f fd)(T:Txt K mg c)(c_lists:Callee P w K mg base 1 "_law_lists" ["_law_nexts"] (sp_lists K))(m_Plan:Maker P w K mg base 6 "Plan" c.C_Plan ["self", "rows", "nexts"] (sp_Plan_init K c))  : FnOk P w K mg base CX0 8 f fd ["_law_rows", "_law_nexts"] (sp_made K c):=by
 refine Y.fun_ok F sc_made (fun vs H Q E h=>h.1) (fun cdv A outer s H vs Q E hr h=>⟨t_made K c,?_,h.2⟩);have nd:=sc_made.nd;exact Y.pss_cons (Y.ps_set (n:=2) nd rfl (Or.inl rfl) (Y.pe_lst (Y.pa2 (Y.pe_callTy Y.call_qlist rfl T.b_list PyProof.Rows.boot_list (Y.pa1 (Y.pv 0))) (Y.pe_own c_lists hr (by decide) rfl (Y.pa1 (Y.pv 1)))))) (Y.pss_cons (Y.ps_set (n:=3) nd rfl (Or.inl rfl) (Y.pe_mk m_Plan hr (by decide) rfl (Y.pa2 (Y.pe_ix Y.ix_q (Y.pv 2) (Y.pe_int) (fun _ _=>rfl)) (Y.pe_ix Y.ix_q (Y.pv 2) (Y.pe_int) (fun _ _=>rfl))))) (Y.pss_cons (Y.ps_expr (Y.pe_bm0 PySem.F.plainAttrs_list PySem.F.slot_list_clear PySem.F.type_list_clear Y.mt_qclear (Y.pe_ix Y.ix_q (Y.pv 2) (Y.pe_int) (fun _ _=>rfl)))) (Y.pss_cons (Y.ps_for PassesOwn.never rfl (Y.pi_list (Y.pe_ix Y.ix_q (Y.pv 2) (Y.pe_int) (fun _ _=>rfl))) (Y.pg_name (n:=4) nd rfl (Or.inl rfl)) (Y.pss_one (Y.ps_expr (Y.pe_bm0 PySem.F.plainAttrs_list PySem.F.slot_list_clear PySem.F.type_list_clear Y.mt_qclear (Y.pv 4))))) (Y.pss_one (Y.ps_ret (Y.pv 3))))))
theorem sc_Ready_ready_at:FnScope ["self", "place"] ["self", "place"] (defScope s_Ready_ready_at):=by walk_at "sc"
theorem ok_Ready_ready_at{f:Addr}{fd:FuncData}(F:Fun K "ready_at" "Ready.ready_at" s_Ready_ready_at f fd)(T:Txt K mg c)    : FnOk P w K mg base CX0 1 f fd ["self", "place"] (sp_Ready_ready_at K):=by
 refine Y.fun_ok F sc_Ready_ready_at (fun vs H Q E h=>h.1) (fun cdv A outer s H vs Q E hr h=>⟨t_Ready_ready_at K,?_,h.2⟩);have nd:=sc_Ready_ready_at.nd;exact Y.pss_one (Y.ps_ret (Y.pe_dnotin hr (Y.pv 1) (Y.pe_fld (Y.pv 0)) rfl))
theorem sc_set_by:FnScope ["row"] ["row"] (defScope s_set_by):=by walk_at "sc"
theorem ok_set_by{f:Addr}{fd:FuncData}(F:Fun K "set_by" "set_by" s_set_by f fd)(T:Txt K mg c)    : FnOk P w K mg base CX0 1 f fd ["row"] (sp_set_by K):=by
 refine Y.fun_ok F sc_set_by (fun vs H Q E h=>h.1) (fun cdv A outer s H vs Q E hr h=>⟨t_set_by K,?_,h.2⟩);have nd:=sc_set_by.nd;exact Y.pss_one (Y.ps_ret (Y.pe_ifExp (Y.pt_cmpR Y.op_qin (Y.pe_ix Y.ix_q (Y.pv 0) (Y.pe_int) (fun _ _=>rfl)) (Y.pe_tup (Y.pa3 (Y.pe_str) (Y.pe_str) (Y.pe_str))) rfl) (Y.pe_ix Y.ix_q (Y.pv 0) (Y.pe_int) (fun _ _=>rfl)) (Y.pe_non)))
theorem sc_spoils:FnScope ["row", "deed"] ["row", "deed"] (defScope s_spoils):=by walk_at "sc"
theorem ok_spoils{f:Addr}{fd:FuncData}(F:Fun K "spoils" "spoils" s_spoils f fd)(T:Txt K mg c)(c_set_by:Callee P w K mg base 1 "set_by" ["row"] (sp_set_by K))   : FnOk P w K mg base CX0 2 f fd ["row", "deed"] (sp_spoils K):=by
 refine Y.fun_ok F sc_spoils (fun vs H Q E h=>h.1) (fun cdv A outer s H vs Q E hr h=>⟨t_spoils K,?_,h.2⟩);have nd:=sc_spoils.nd;exact Y.pss_one (Y.ps_ret (Y.pe_cmpR Y.op_qin (Y.pe_own c_set_by hr (by decide) rfl (Y.pa1 (Y.pv 0))) (Y.pe_slice Y.sl_q (Y.pv 1) (Y.po_some (Y.pe_int)) (Y.po_none)) rfl))
theorem sc_deed_of:FnScope ["row"] ["row"] (defScope s_deed_of):=by walk_at "sc"
theorem ok_deed_of{f:Addr}{fd:FuncData}(F:Fun K "deed_of" "deed_of" s_deed_of f fd)(T:Txt K mg c)    : FnOk P w K mg base CX0 1 f fd ["row"] (sp_deed_of K):=by
 refine Y.fun_ok F sc_deed_of (fun vs H Q E h=>h.1) (fun cdv A outer s H vs Q E hr h=>⟨t_deed_of K,?_,h.2⟩);have nd:=sc_deed_of.nd;exact Y.pss_one (Y.ps_ret (Y.pe_ifExp (Y.pt_cmpR (Y.op_qeq hr) (Y.pe_ix Y.ix_q (Y.pv 0) (Y.pe_int) (fun _ _=>rfl)) (Y.pe_str) (nomark _)) (Y.pe_ix Y.ix_q (Y.pv 0) (Y.pe_int) (fun _ _=>rfl)) (Y.pe_non)))
theorem sc_does:FnScope ["row", "deed"] ["row", "deed"] (defScope s_does):=by walk_at "sc"
theorem ok_does{f:Addr}{fd:FuncData}(F:Fun K "does" "does" s_does f fd)(T:Txt K mg c)(c_deed_of:Callee P w K mg base 1 "deed_of" ["row"] (sp_deed_of K))   : FnOk P w K mg base CX0 2 f fd ["row", "deed"] (sp_does K):=by
 refine Y.fun_ok F sc_does (fun vs H Q E h=>h.1) (fun cdv A outer s H vs Q E hr h=>⟨t_does K,?_,h.2⟩);have nd:=sc_does.nd;exact Y.pss_one (Y.ps_ret (Y.pe_cmpR (Y.op_qeq hr) (Y.pe_own c_deed_of hr (by decide) rfl (Y.pa1 (Y.pv 0))) (Y.pv 1) (nomark _)))
theorem sc_Ready_ready_behind:FnScope ["self", "place", "row"] ["self", "place"] (defScope s_Ready_ready_behind):=by walk_at "sc"
theorem ok_Ready_ready_behind{f:Addr}{fd:FuncData}(F:Fun K "ready_behind" "Ready.ready_behind" s_Ready_ready_behind f fd)(T:Txt K mg c)(c_spoils:Callee P w K mg base 2 "spoils" ["row", "deed"] (sp_spoils K))(c_does:Callee P w K mg base 2 "does" ["row", "deed"] (sp_does K)) (c_Ready_ready_at:MCallee P w K mg base 1 "ready_at" c.C_Ready ["self", "place"] (sp_Ready_ready_at K)):FnOk P w K mg base CX0 3 f fd ["self", "place"] (sp_Ready_ready_behind K c):=by
 refine Y.fun_ok F sc_Ready_ready_behind (fun vs H Q E h=>h.1) (fun cdv A outer s H vs Q E hr h=>⟨t_Ready_ready_behind K c,?_,h.2⟩);have nd:=sc_Ready_ready_behind.nd;exact Y.pss_cons (Y.ps_set (n:=2) nd rfl (Or.inl rfl) (Y.pe_ix Y.ix_q (Y.pe_fld (Y.pe_fld (Y.pv 0))) (Y.pv 1) (fun _ _=>rfl))) (Y.pss_cons (Y.ps_if (Y.pt_val (Y.pe_own c_spoils hr (by decide) rfl (Y.pa2 (Y.pv 2) (Y.pe_fld (Y.pv 0))))) (Y.pss_one (Y.ps_ret (Y.pe_bl))) (Y.pss_nil)) (Y.pss_one (Y.ps_ret (Y.pe_or (Y.pe_own c_does hr (by decide) rfl (Y.pa2 (Y.pv 2) (Y.pe_fld (Y.pv 0)))) (Y.pe_one (Y.pe_mth c_Ready_ready_at hr (by decide) (Y.pv 0) (Y.pa1 (Y.pv 1))))))))
theorem sc_Ready_ready_on:FnScope ["self", "step"] ["self", "step"] (defScope s_Ready_ready_on):=by walk_at "sc"
theorem ok_Ready_ready_on{f:Addr}{fd:FuncData}(F:Fun K "ready_on" "Ready.ready_on" s_Ready_ready_on f fd)(T:Txt K mg c)  (c_Ready_ready_behind:MCallee P w K mg base 3 "ready_behind" c.C_Ready ["self", "place"] (sp_Ready_ready_behind K c)):FnOk P w K mg base CX0 4 f fd ["self", "step"] (sp_Ready_ready_on K c):=by
 refine Y.fun_ok F sc_Ready_ready_on (fun vs H Q E h=>h.1) (fun cdv A outer s H vs Q E hr h=>⟨t_Ready_ready_on K c,?_,h.2⟩);have nd:=sc_Ready_ready_on.nd;exact Y.pss_one (Y.ps_ret (Y.pe_and (Y.pe_cmpR (Y.op_qnek hr) (Y.pv 1) (Y.pe_globT T.g_FIRST_STEP rfl) (nomark _)) (Y.pe_one (Y.pe_mth c_Ready_ready_behind hr (by decide) (Y.pv 0) (Y.pa1 (Y.pe_ix Y.ix_q (Y.pv 1) (Y.pe_int) (fun _ _=>rfl)))))))
theorem sc_traced:FnScope ["come_by", "place", "way"] ["come_by", "place"] (defScope s_traced):=by walk_at "sc"
theorem ok_traced{f:Addr}{fd:FuncData}(F:Fun K "traced" "traced" s_traced f fd)(T:Txt K mg c)    : FnOk P w K mg base CX0 1 f fd ["come_by", "place"] (sp_traced K c):=by
 refine Y.fun_ok F sc_traced (fun vs H Q E h=>h.1) (fun cdv A outer s H vs Q E hr h=>⟨t_traced K c,?_,h.2⟩);have nd:=sc_traced.nd;exact Y.pss_cons (Y.ps_set (n:=2) nd rfl (Or.inl rfl) (Y.pe_lst (Y.pa1 (Y.pe_dget hr (Y.pv 0) (Y.pv 1) (fun _ _=>rfl))))) (Y.pss_cons (Y.ps_while PassesOwn.never (Y.pt_cmpR (Y.op_qnek hr) (Y.pe_ix Y.ix_q (Y.pv 2) (Y.pe_un Y.un_neg (Y.pe_int)) (fun _ _=>rfl)) (Y.pe_globT T.g_FIRST_STEP rfl) (nomark _)) (Y.pss_one (Y.ps_expr (Y.pe_bm PySem.F.plainAttrs_list PySem.F.slot_list_append PySem.F.type_list_append Y.mt_qappend (Y.pv 2) (Y.pa1 (Y.pe_dget hr (Y.pv 0) (Y.pe_ix Y.ix_q (Y.pe_ix Y.ix_q (Y.pv 2) (Y.pe_un Y.un_neg (Y.pe_int)) (fun _ _=>rfl)) (Y.pe_int) (fun _ _=>rfl)) (fun _ _=>rfl))))))) (Y.pss_cons (Y.ps_expr (Y.pe_bm0 PySem.F.plainAttrs_list PySem.F.slot_list_reverse PySem.F.type_list_reverse Y.mt_qreverse (Y.pv 2))) (Y.pss_one (Y.ps_ret (Y.pv 2)))))
theorem sc_way_to:FnScope ["plan", "place", "come_by", "order", "done", "here", "at", "target"] ["plan", "place"] (defScope s_way_to):=by walk_at "sc"
theorem ok_way_to{f:Addr}{fd:FuncData}(F:Fun K "way_to" "way_to" s_way_to f fd)(T:Txt K mg c)(c_traced:Callee P w K mg base 1 "traced" ["come_by", "place"] (sp_traced K c))   : FnOk P w K mg base CX0 2 f fd ["plan", "place"] (sp_way_to K c):=by
 refine Y.fun_ok F sc_way_to (fun vs H Q E h=>h.1) (fun cdv A outer s H vs Q E hr h=>⟨t_way_to K c,?_,h.2⟩);have nd:=sc_way_to.nd;exact Y.pss_cons (Y.ps_set (n:=2) nd rfl (Or.inl rfl) (Y.pe_disp (Y.pps_cons (Y.pe_int) (Y.pe_globT T.g_FIRST_STEP rfl) (Y.pps_nil)))) (Y.pss_cons (Y.ps_set (n:=3) nd rfl (Or.inl rfl) (Y.pe_lst (Y.pa1 (Y.pe_int)))) (Y.pss_cons (Y.ps_set (n:=4) nd rfl (Or.inl rfl) (Y.pe_int)) (Y.pss_cons (Y.ps_while PassesOwn.never (Y.pt_dnotin hr (Y.pv 1) (Y.pv 2) rfl) (Y.pss_cons (Y.ps_set (n:=5) nd rfl (Or.inl rfl) (Y.pe_ix Y.ix_q (Y.pv 3) (Y.pv 4) (fun _ _=>rfl))) (Y.pss_cons (Y.ps_aug (n:=4) nd rfl (Or.inl rfl) (Y.pe_int) Y.ip_add) (Y.pss_one (Y.ps_for PassesOwn.never rfl (Y.pi_enum rfl T.b_enumerate (Y.pa1 (Y.pe_ix Y.ix_q (Y.pe_fld (Y.pv 0)) (Y.pv 5) (fun _ _=>rfl)))) (Y.pg_tup rfl (Y.pgs_cons (Y.pg_name (n:=6) nd rfl (Or.inl rfl)) (Y.pgs_cons (Y.pg_name (n:=7) nd rfl (Or.inl rfl)) (Y.pgs_nil)))) (Y.pss_one (Y.ps_if (Y.pt_dnotin hr (Y.pv 7) (Y.pv 2) rfl) (Y.pss_cons (Y.ps_dput hr (Y.pv 2) (Y.pv 7) (Y.pe_tup (Y.pa2 (Y.pv 5) (Y.pv 6)))) (Y.pss_one (Y.ps_expr (Y.pe_bm PySem.F.plainAttrs_list PySem.F.slot_list_append PySem.F.type_list_append Y.mt_qappend (Y.pv 3) (Y.pa1 (Y.pv 7)))))) (Y.pss_nil)))))))) (Y.pss_one (Y.ps_ret (Y.pe_own c_traced hr (by decide) rfl (Y.pa2 (Y.pv 2) (Y.pv 1))))))))
theorem sc_Ready_begins_unready:FnScope ["self", "step"] ["self", "step"] (defScope s_Ready_begins_unready):=by walk_at "sc"
theorem ok_Ready_begins_unready{f:Addr}{fd:FuncData}(F:Fun K "begins_unready" "Ready.begins_unready" s_Ready_begins_unready f fd)(T:Txt K mg c)(c_spoils:Callee P w K mg base 2 "spoils" ["row", "deed"] (sp_spoils K))   : FnOk P w K mg base CX0 3 f fd ["self", "step"] (sp_Ready_begins_unready K c):=by
 refine Y.fun_ok F sc_Ready_begins_unready (fun vs H Q E h=>h.1) (fun cdv A outer s H vs Q E hr h=>⟨t_Ready_begins_unready K c,?_,h.2⟩);have nd:=sc_Ready_begins_unready.nd;exact Y.pss_one (Y.ps_ret (Y.pe_or (Y.pe_cmpR (Y.op_qeqk hr) (Y.pv 1) (Y.pe_globT T.g_FIRST_STEP rfl) (nomark _)) (Y.pe_one (Y.pe_own c_spoils hr (by decide) rfl (Y.pa2 (Y.pe_ix Y.ix_q (Y.pe_fld (Y.pe_fld (Y.pv 0))) (Y.pe_ix Y.ix_q (Y.pv 1) (Y.pe_int) (fun _ _=>rfl)) (fun _ _=>rfl)) (Y.pe_fld (Y.pv 0)))))))
theorem sc_Ready_way_unready:FnScope ["self", "place", "way"] ["self", "place"] (defScope s_Ready_way_unready):=by walk_at "sc"
theorem ok_Ready_way_unready{f:Addr}{fd:FuncData}(F:Fun K "way_unready" "Ready.way_unready" s_Ready_way_unready f fd)(T:Txt K mg c)(c_way_to:Callee P w K mg base 2 "way_to" ["plan", "place"] (sp_way_to K c)) (c_Ready_ready_at:MCallee P w K mg base 1 "ready_at" c.C_Ready ["self", "place"] (sp_Ready_ready_at K))(c_Ready_begins_unready:MCallee P w K mg base 3 "begins_unready" c.C_Ready ["self", "step"] (sp_Ready_begins_unready K c)):FnOk P w K mg base CX0 4 f fd ["self", "place"] (sp_Ready_way_unready K c):=by
 refine Y.fun_ok F sc_Ready_way_unready (fun vs H Q E h=>h.1) (fun cdv A outer s H vs Q E hr h=>⟨t_Ready_way_unready K c,?_,h.2⟩);have nd:=sc_Ready_way_unready.nd;exact Y.pss_cons (Y.ps_if (Y.pt_val (Y.pe_mth c_Ready_ready_at hr (by decide) (Y.pv 0) (Y.pa1 (Y.pv 1)))) (Y.pss_one (Y.ps_ret (Y.pe_non))) (Y.pss_nil)) (Y.pss_cons (Y.ps_set (n:=2) nd rfl (Or.inl rfl) (Y.pe_lst (Y.pa1 (Y.pe_dget hr (Y.pe_fld (Y.pv 0)) (Y.pv 1) (fun _ _=>rfl))))) (Y.pss_cons (Y.ps_while PassesOwn.never (Y.pt_not (Y.pt_val (Y.pe_mth c_Ready_begins_unready hr (by decide) (Y.pv 0) (Y.pa1 (Y.pe_ix Y.ix_q (Y.pv 2) (Y.pe_un Y.un_neg (Y.pe_int)) (fun _ _=>rfl)))))) (Y.pss_one (Y.ps_expr (Y.pe_bm PySem.F.plainAttrs_list PySem.F.slot_list_append PySem.F.type_list_append Y.mt_qappend (Y.pv 2) (Y.pa1 (Y.pe_dget hr (Y.pe_fld (Y.pv 0)) (Y.pe_ix Y.ix_q (Y.pe_ix Y.ix_q (Y.pv 2) (Y.pe_un Y.un_neg (Y.pe_int)) (fun _ _=>rfl)) (Y.pe_int) (fun _ _=>rfl)) (fun _ _=>rfl))))))) (Y.pss_cons (Y.ps_expr (Y.pe_bm0 PySem.F.plainAttrs_list PySem.F.slot_list_reverse PySem.F.type_list_reverse Y.mt_qreverse (Y.pv 2))) (Y.pss_cons (Y.ps_if (Y.pt_cmpR (Y.op_qeqk hr) (Y.pe_ix Y.ix_q (Y.pv 2) (Y.pe_int) (fun _ _=>rfl)) (Y.pe_globT T.g_FIRST_STEP rfl) (nomark _)) (Y.pss_one (Y.ps_ret (Y.pv 2))) (Y.pss_nil)) (Y.pss_one (Y.ps_ret (Y.pe_op Y.op_qadd (Y.pe_own c_way_to hr (by decide) rfl (Y.pa2 (Y.pe_fld (Y.pv 0)) (Y.pe_ix Y.ix_q (Y.pe_ix Y.ix_q (Y.pv 2) (Y.pe_int) (fun _ _=>rfl)) (Y.pe_int) (fun _ _=>rfl)))) (Y.pv 2))))))))
theorem sc_Wanted_wanted_at:FnScope ["self", "place"] ["self", "place"] (defScope s_Wanted_wanted_at):=by walk_at "sc"
theorem ok_Wanted_wanted_at{f:Addr}{fd:FuncData}(F:Fun K "wanted_at" "Wanted.wanted_at" s_Wanted_wanted_at f fd)(T:Txt K mg c)    : FnOk P w K mg base CX0 1 f fd ["self", "place"] (sp_Wanted_wanted_at K):=by
 refine Y.fun_ok F sc_Wanted_wanted_at (fun vs H Q E h=>h.1) (fun cdv A outer s H vs Q E hr h=>⟨t_Wanted_wanted_at K,?_,h.2⟩);have nd:=sc_Wanted_wanted_at.nd;exact Y.pss_one (Y.ps_ret (Y.pe_dnotin hr (Y.pv 1) (Y.pe_fld (Y.pv 0)) rfl))
theorem sc_Wanted_wanted_behind:FnScope ["self", "place", "following"] ["self", "place"] (defScope s_Wanted_wanted_behind):=by walk_at "sc"
theorem cc_Wanted_wanted_behind_0:CompOk ["self", "place", "following"] (defScope s_Wanted_wanted_behind) ({ kind:=PySem.ScopeKind.function,names:=[ (PySem.Str.ofString ".0", PySem.NameKind.local),(PySem.Str.ofString "target", PySem.NameKind.local),(PySem.Str.ofString "self", PySem.NameKind.free)],isGenerator:=false,isCoroutine:=false,more:=[]:PySem.Scope }) "target" := ⟨rfl,by decide +kernel,by decide +kernel,rfl,by decide +kernel,by decide +kernel,rfl,by decide +kernel⟩
theorem ok_Wanted_wanted_behind{f:Addr}{fd:FuncData}(F:Fun K "wanted_behind" "Wanted.wanted_behind" s_Wanted_wanted_behind f fd)(T:Txt K mg c)  (c_Wanted_wanted_at:MCallee P w K mg base 1 "wanted_at" c.C_Wanted ["self", "place"] (sp_Wanted_wanted_at K)):FnOk P w K mg base CX0 2 f fd ["self", "place"] (sp_Wanted_wanted_behind K c):=by
 refine Y.fun_ok F sc_Wanted_wanted_behind (fun vs H Q E h=>h.1) (fun cdv A outer s H vs Q E hr h=>⟨t_Wanted_wanted_behind K c,?_,h.2⟩);have nd:=sc_Wanted_wanted_behind.nd;exact Y.pss_cons (Y.ps_set (n:=2) nd rfl (Or.inl rfl) (Y.pe_ix Y.ix_q (Y.pe_fld (Y.pe_fld (Y.pv 0))) (Y.pv 1) (fun _ _=>rfl))) (Y.pss_one (Y.ps_ret (Y.pe_and (Y.pe_cmpR Y.op_qgt (Y.pe_callB Y.call_qlen rfl T.b_len PySem.boot_len (Y.pa1 (Y.pv 2))) (Y.pe_int) (nomark _)) (Y.pe_one (Y.pe_callB (Y.call_qall rfl) rfl T.b_all PyProof.Rows.boot_all (Y.pa1 (Y.pe_comp cc_Wanted_wanted_behind_0 rfl (Y.pi_list (Y.pv 2)) (fun _ _ _ _ _=>Y.pts_nil) (fun _ _ _ _ _=>Y.pe_mth c_Wanted_wanted_at hr (by decide) (Y.pv 1) (Y.pa1 (Y.pv 0))))))))))
theorem sc_Wanted_wanted_on:FnScope ["self", "step"] ["self", "step"] (defScope s_Wanted_wanted_on):=by walk_at "sc"
theorem ok_Wanted_wanted_on{f:Addr}{fd:FuncData}(F:Fun K "wanted_on" "Wanted.wanted_on" s_Wanted_wanted_on f fd)(T:Txt K mg c)  (c_Plan_leads_to:MCallee P w K mg base 1 "leads_to" c.C_Plan ["self", "step"] (sp_Plan_leads_to K c))(c_Wanted_wanted_at:MCallee P w K mg base 1 "wanted_at" c.C_Wanted ["self", "place"] (sp_Wanted_wanted_at K)):FnOk P w K mg base CX0 2 f fd ["self", "step"] (sp_Wanted_wanted_on K c):=by
 refine Y.fun_ok F sc_Wanted_wanted_on (fun vs H Q E h=>h.1) (fun cdv A outer s H vs Q E hr h=>⟨t_Wanted_wanted_on K c,?_,h.2⟩);have nd:=sc_Wanted_wanted_on.nd;exact Y.pss_one (Y.ps_ret (Y.pe_mth c_Wanted_wanted_at hr (by decide) (Y.pv 0) (Y.pa1 (Y.pe_mth c_Plan_leads_to hr (by decide) (Y.pe_fld (Y.pv 0)) (Y.pa1 (Y.pv 1))))))
theorem sc_followed:FnScope ["plan", "goes_by", "place", "way", "step"] ["plan", "goes_by", "place"] (defScope s_followed):=by walk_at "sc"
theorem ok_followed{f:Addr}{fd:FuncData}(F:Fun K "followed" "followed" s_followed f fd)(T:Txt K mg c)  (c_Plan_leads_to:MCallee P w K mg base 1 "leads_to" c.C_Plan ["self", "step"] (sp_Plan_leads_to K c)):FnOk P w K mg base CX0 2 f fd ["plan", "goes_by", "place"] (sp_followed K c):=by
 refine Y.fun_ok F sc_followed (fun vs H Q E h=>h.1) (fun cdv A outer s H vs Q E hr h=>⟨t_followed K c,?_,h.2⟩);have nd:=sc_followed.nd;exact Y.pss_cons (Y.ps_set (n:=3) nd rfl (Or.inl rfl) (Y.pe_lst (Y.pa_nil))) (Y.pss_cons (Y.ps_set (n:=4) nd rfl (Or.inl rfl) (Y.pe_dget hr (Y.pv 1) (Y.pv 2) (fun _ _=>rfl))) (Y.pss_cons (Y.ps_while PassesOwn.never (Y.pt_cmpR Y.op_qisnot (Y.pv 4) (Y.pe_non) (nomark _)) (Y.pss_cons (Y.ps_expr (Y.pe_bm PySem.F.plainAttrs_list PySem.F.slot_list_append PySem.F.type_list_append Y.mt_qappend (Y.pv 3) (Y.pa1 (Y.pv 4)))) (Y.pss_one (Y.ps_set (n:=4) nd rfl (Or.inl rfl) (Y.pe_dget hr (Y.pv 1) (Y.pe_mth c_Plan_leads_to hr (by decide) (Y.pv 0) (Y.pa1 (Y.pv 4))) (fun _ _=>rfl)))))) (Y.pss_one (Y.ps_ret (Y.pv 3)))))
theorem sc_Plan_stops:FnScope ["self"] ["self"] (defScope s_Plan_stops):=by walk_at "sc"
theorem ok_Plan_stops{f:Addr}{fd:FuncData}(F:Fun K "stops" "Plan.stops" s_Plan_stops f fd)(T:Txt K mg c)(c_stops_of:Callee P w K mg base 1 "stops_of" ["nexts"] (sp_stops_of K))   : FnOk P w K mg base CX0 2 f fd ["self"] (sp_Plan_stops K):=by
 refine Y.fun_ok F sc_Plan_stops (fun vs H Q E h=>h.1) (fun cdv A outer s H vs Q E hr h=>⟨t_Plan_stops K,?_,h.2⟩);have nd:=sc_Plan_stops.nd;exact Y.pss_one (Y.ps_ret (Y.pe_own c_stops_of hr (by decide) rfl (Y.pa1 (Y.pe_fld (Y.pv 0)))))
theorem sc_Plan_steps_into:FnScope ["self", "place"] ["self", "place"] (defScope s_Plan_steps_into):=by walk_at "sc"
theorem ok_Plan_steps_into{f:Addr}{fd:FuncData}(F:Fun K "steps_into" "Plan.steps_into" s_Plan_steps_into f fd)(T:Txt K mg c)    : FnOk P w K mg base CX0 1 f fd ["self", "place"] (sp_Plan_steps_into K):=by
 refine Y.fun_ok F sc_Plan_steps_into (fun vs H Q E h=>h.1) (fun cdv A outer s H vs Q E hr h=>⟨t_Plan_steps_into K,?_,h.2⟩);have nd:=sc_Plan_steps_into.nd;exact Y.pss_one (Y.ps_ret (Y.pe_callTy Y.call_qlist rfl T.b_list PyProof.Rows.boot_list (Y.pa1 (Y.pe_ix Y.ix_q (Y.pe_fld (Y.pv 0)) (Y.pv 1) (fun _ _=>rfl)))))
theorem sc_way_on:FnScope ["plan", "place", "goes_by", "order", "done", "here", "step"] ["plan", "place"] (defScope s_way_on):=by walk_at "sc"
theorem cc_way_on_0:CompOk ["plan", "place", "goes_by", "order", "done", "here", "step"] (defScope s_way_on) ({ kind:=PySem.ScopeKind.function,names:=[(PySem.Str.ofString ".0", PySem.NameKind.local),(PySem.Str.ofString "stop", PySem.NameKind.local)],isGenerator:=false,isCoroutine:=false,more:=[]:PySem.Scope }) "stop" := ⟨rfl,by decide +kernel,by decide +kernel,rfl,by decide +kernel,by decide +kernel,rfl,by decide +kernel⟩
theorem ok_way_on{f:Addr}{fd:FuncData}(F:Fun K "way_on" "way_on" s_way_on f fd)(T:Txt K mg c)(c_followed:Callee P w K mg base 2 "followed" ["plan", "goes_by", "place"] (sp_followed K c)) (c_Plan_stops:MCallee P w K mg base 2 "stops" c.C_Plan ["self"] (sp_Plan_stops K))(c_Plan_steps_into:MCallee P w K mg base 1 "steps_into" c.C_Plan ["self", "place"] (sp_Plan_steps_into K)):FnOk P w K mg base CX0 3 f fd ["plan", "place"] (sp_way_on K c):=by
 refine Y.fun_ok F sc_way_on (fun vs H Q E h=>h.1) (fun cdv A outer s H vs Q E hr h=>⟨t_way_on K c,?_,h.2⟩);have nd:=sc_way_on.nd;exact Y.pss_cons (Y.ps_set (n:=2) nd rfl (Or.inl rfl) (Y.pe_callTy (Y.call_qdictl rfl) rfl T.b_dict PyProof.Rows.boot_dict (Y.pa1 (Y.pe_comp cc_way_on_0 rfl (Y.pi_list (Y.pe_mth0 c_Plan_stops hr (by decide) (Y.pv 0))) (fun _ _ _ _ _=>Y.pts_nil) (fun _ _ _ _ _=>Y.pe_tup (Y.pa2 (Y.pv 0) (Y.pe_non))))))) (Y.pss_cons (Y.ps_set (n:=3) nd rfl (Or.inl rfl) (Y.pe_mth0 c_Plan_stops hr (by decide) (Y.pv 0))) (Y.pss_cons (Y.ps_set (n:=4) nd rfl (Or.inl rfl) (Y.pe_int)) (Y.pss_cons (Y.ps_while PassesOwn.never (Y.pt_dnotin hr (Y.pv 1) (Y.pv 2) rfl) (Y.pss_cons (Y.ps_set (n:=5) nd rfl (Or.inl rfl) (Y.pe_ix Y.ix_q (Y.pv 3) (Y.pv 4) (fun _ _=>rfl))) (Y.pss_cons (Y.ps_aug (n:=4) nd rfl (Or.inl rfl) (Y.pe_int) Y.ip_add) (Y.pss_one (Y.ps_for PassesOwn.never rfl (Y.pi_list (Y.pe_mth c_Plan_steps_into hr (by decide) (Y.pv 0) (Y.pa1 (Y.pv 5)))) (Y.pg_name (n:=6) nd rfl (Or.inl rfl)) (Y.pss_one (Y.ps_if (Y.pw_pt (Y.pw_and (Y.pt_cmpR (Y.op_qnek hr) (Y.pv 6) (Y.pe_globT T.g_FIRST_STEP rfl) (nomark _)) (Y.pw_and1 (Y.pt_dnotin hr (Y.pe_ix Y.ix_q (Y.pv 6) (Y.pe_int) (fun _ _=>rfl)) (Y.pv 2) rfl)))) (Y.pss_cons (Y.ps_dput hr (Y.pv 2) (Y.pe_ix Y.ix_q (Y.pv 6) (Y.pe_int) (fun _ _=>rfl)) (Y.pv 6)) (Y.pss_one (Y.ps_expr (Y.pe_bm PySem.F.plainAttrs_list PySem.F.slot_list_append PySem.F.type_list_append Y.mt_qappend (Y.pv 3) (Y.pa1 (Y.pe_ix Y.ix_q (Y.pv 6) (Y.pe_int) (fun _ _=>rfl))))))) (Y.pss_nil)))))))) (Y.pss_one (Y.ps_ret (Y.pe_own c_followed hr (by decide) rfl (Y.pa3 (Y.pv 0) (Y.pv 2) (Y.pv 1))))))))
theorem sc_Wanted_way_unwanted:FnScope ["self", "place", "way", "last"] ["self", "place"] (defScope s_Wanted_way_unwanted):=by walk_at "sc"
theorem ok_Wanted_way_unwanted{f:Addr}{fd:FuncData}(F:Fun K "way_unwanted" "Wanted.way_unwanted" s_Wanted_way_unwanted f fd)(T:Txt K mg c)(c_followed:Callee P w K mg base 2 "followed" ["plan", "goes_by", "place"] (sp_followed K c))(c_way_on:Callee P w K mg base 3 "way_on" ["plan", "place"] (sp_way_on K c)) (c_Wanted_wanted_at:MCallee P w K mg base 1 "wanted_at" c.C_Wanted ["self", "place"] (sp_Wanted_wanted_at K))(c_Plan_leads_to:MCallee P w K mg base 1 "leads_to" c.C_Plan ["self", "step"] (sp_Plan_leads_to K c)):FnOk P w K mg base CX0 4 f fd ["self", "place"] (sp_Wanted_way_unwanted K c):=by
 refine Y.fun_ok F sc_Wanted_way_unwanted (fun vs H Q E h=>h.1) (fun cdv A outer s H vs Q E hr h=>⟨t_Wanted_way_unwanted K c,?_,h.2⟩);have nd:=sc_Wanted_way_unwanted.nd;exact Y.pss_cons (Y.ps_if (Y.pt_val (Y.pe_mth c_Wanted_wanted_at hr (by decide) (Y.pv 0) (Y.pa1 (Y.pv 1)))) (Y.pss_one (Y.ps_ret (Y.pe_non))) (Y.pss_nil)) (Y.pss_cons (Y.ps_set (n:=2) nd rfl (Or.inl rfl) (Y.pe_own c_followed hr (by decide) rfl (Y.pa3 (Y.pe_fld (Y.pv 0)) (Y.pe_fld (Y.pv 0)) (Y.pv 1)))) (Y.pss_cons (Y.ps_set (n:=3) nd rfl (Or.inl rfl) (Y.pe_ifExp (Y.pt_cmpR Y.op_qgt (Y.pe_callB Y.call_qlen rfl T.b_len PySem.boot_len (Y.pa1 (Y.pv 2))) (Y.pe_int) (nomark _)) (Y.pe_mth c_Plan_leads_to hr (by decide) (Y.pe_fld (Y.pv 0)) (Y.pa1 (Y.pe_ix Y.ix_q (Y.pv 2) (Y.pe_un Y.un_neg (Y.pe_int)) (fun _ _=>rfl)))) (Y.pv 1))) (Y.pss_one (Y.ps_ret (Y.pe_op Y.op_qadd (Y.pv 2) (Y.pe_own c_way_on hr (by decide) rfl (Y.pa2 (Y.pe_fld (Y.pv 0)) (Y.pv 3))))))))
theorem sc_told:FnScope ["_law_ready", "_law_wanted", "_law_ask", "_law_spot", "_law_step"] ["_law_ready", "_law_wanted", "_law_ask", "_law_spot", "_law_step"] (defScope s_told):=by walk_at "sc"
theorem ok_told{f:Addr}{fd:FuncData}(F:Fun K "_law_told" "_law_told" s_told f fd)(T:Txt K mg c)  (c_Ready_ready_at:MCallee P w K mg base 1 "ready_at" c.C_Ready ["self", "place"] (sp_Ready_ready_at K))(c_Ready_ready_behind:MCallee P w K mg base 3 "ready_behind" c.C_Ready ["self", "place"] (sp_Ready_ready_behind K c))(c_Ready_ready_on:MCallee P w K mg base 4 "ready_on" c.C_Ready ["self", "step"] (sp_Ready_ready_on K c))(c_Ready_way_unready:MCallee P w K mg base 4 "way_unready" c.C_Ready ["self", "place"] (sp_Ready_way_unready K c))(c_Wanted_wanted_at:MCallee P w K mg base 1 "wanted_at" c.C_Wanted ["self", "place"] (sp_Wanted_wanted_at K))(c_Wanted_wanted_behind:MCallee P w K mg base 2 "wanted_behind" c.C_Wanted ["self", "place"] (sp_Wanted_wanted_behind K c))(c_Wanted_wanted_on:MCallee P w K mg base 2 "wanted_on" c.C_Wanted ["self", "step"] (sp_Wanted_wanted_on K c))(c_Wanted_way_unwanted:MCallee P w K mg base 4 "way_unwanted" c.C_Wanted ["self", "place"] (sp_Wanted_way_unwanted K c)):FnOk P w K mg base CX0 5 f fd ["_law_ready", "_law_wanted", "_law_ask", "_law_spot", "_law_step"] (sp_told K c):=by
 refine Y.fun_ok F sc_told (fun vs H Q E h=>h.1) (fun cdv A outer s H vs Q E hr h=>⟨t_told K c,?_,h.2⟩);have nd:=sc_told.nd;exact Y.pss_cons (Y.ps_if (Y.pt_cmpR (Y.op_qeq hr) (Y.pv 2) (Y.pe_int) (nomark _)) (Y.pss_one (Y.ps_ret (Y.pe_mth c_Ready_ready_at hr (by decide) (Y.pv 0) (Y.pa1 (Y.pv 3))))) (Y.pss_nil)) (Y.pss_cons (Y.ps_if (Y.pt_cmpR (Y.op_qeq hr) (Y.pv 2) (Y.pe_int) (nomark _)) (Y.pss_one (Y.ps_ret (Y.pe_mth c_Ready_ready_behind hr (by decide) (Y.pv 0) (Y.pa1 (Y.pv 3))))) (Y.pss_nil)) (Y.pss_cons (Y.ps_if (Y.pt_cmpR (Y.op_qeq hr) (Y.pv 2) (Y.pe_int) (nomark _)) (Y.pss_one (Y.ps_ret (Y.pe_mth c_Ready_ready_on hr (by decide) (Y.pv 0) (Y.pa1 (Y.pv 4))))) (Y.pss_nil)) (Y.pss_cons (Y.ps_if (Y.pt_cmpR (Y.op_qeq hr) (Y.pv 2) (Y.pe_int) (nomark _)) (Y.pss_one (Y.ps_ret (Y.pe_cmpR Y.op_qis (Y.pe_mth c_Ready_way_unready hr (by decide) (Y.pv 0) (Y.pa1 (Y.pv 3))) (Y.pe_non) (nomark _)))) (Y.pss_nil)) (Y.pss_cons (Y.ps_if (Y.pt_cmpR (Y.op_qeq hr) (Y.pv 2) (Y.pe_int) (nomark _)) (Y.pss_one (Y.ps_ret (Y.pe_mth c_Wanted_wanted_at hr (by decide) (Y.pv 1) (Y.pa1 (Y.pv 3))))) (Y.pss_nil)) (Y.pss_cons (Y.ps_if (Y.pt_cmpR (Y.op_qeq hr) (Y.pv 2) (Y.pe_int) (nomark _)) (Y.pss_one (Y.ps_ret (Y.pe_mth c_Wanted_wanted_behind hr (by decide) (Y.pv 1) (Y.pa1 (Y.pv 3))))) (Y.pss_nil)) (Y.pss_cons (Y.ps_if (Y.pt_cmpR (Y.op_qeq hr) (Y.pv 2) (Y.pe_int) (nomark _)) (Y.pss_one (Y.ps_ret (Y.pe_mth c_Wanted_wanted_on hr (by decide) (Y.pv 1) (Y.pa1 (Y.pv 4))))) (Y.pss_nil)) (Y.pss_one (Y.ps_ret (Y.pe_cmpR Y.op_qis (Y.pe_mth c_Wanted_way_unwanted hr (by decide) (Y.pv 1) (Y.pa1 (Y.pv 3))) (Y.pe_non) (nomark _))))))))))
theorem sc_unwanted_ends:FnScope ["plan", "deed", "ends", "place", "row"] ["plan", "deed"] (defScope s_unwanted_ends):=by walk_at "sc"
theorem ok_unwanted_ends{f:Addr}{fd:FuncData}(F:Fun K "unwanted_ends" "unwanted_ends" s_unwanted_ends f fd)(T:Txt K mg c)(c_does:Callee P w K mg base 2 "does" ["row", "deed"] (sp_does K))(c_spoils:Callee P w K mg base 2 "spoils" ["row", "deed"] (sp_spoils K))   : FnOk P w K mg base CX0 3 f fd ["plan", "deed"] (sp_unwanted_ends K):=by
 refine Y.fun_ok F sc_unwanted_ends (fun vs H Q E h=>h.1) (fun cdv A outer s H vs Q E hr h=>⟨t_unwanted_ends K,?_,h.2⟩);have nd:=sc_unwanted_ends.nd;exact Y.pss_cons (Y.ps_set (n:=2) nd rfl (Or.inl rfl) (Y.pe_lst (Y.pa_nil))) (Y.pss_cons (Y.ps_for PassesOwn.never rfl (Y.pi_enum rfl T.b_enumerate (Y.pa1 (Y.pe_fld (Y.pv 0)))) (Y.pg_tup rfl (Y.pgs_cons (Y.pg_name (n:=3) nd rfl (Or.inl rfl)) (Y.pgs_cons (Y.pg_name (n:=4) nd rfl (Or.inl rfl)) (Y.pgs_nil)))) (Y.pss_one (Y.ps_if (Y.pw_pt (Y.pw_and (Y.pt_not (Y.pt_val (Y.pe_own c_does hr (by decide) rfl (Y.pa2 (Y.pv 4) (Y.pv 1))))) (Y.pw_and1 (Y.pw_pt (Y.pw_or (Y.pt_val (Y.pe_own c_spoils hr (by decide) rfl (Y.pa2 (Y.pv 4) (Y.pv 1)))) (Y.pw_or1 (Y.pt_cmpR (Y.op_qeq hr) (Y.pe_callB Y.call_qlen rfl T.b_len PySem.boot_len (Y.pa1 (Y.pe_ix Y.ix_q (Y.pe_fld (Y.pv 0)) (Y.pv 3) (fun _ _=>rfl)))) (Y.pe_int) (nomark _)))))))) (Y.pss_one (Y.ps_expr (Y.pe_bm PySem.F.plainAttrs_list PySem.F.slot_list_append PySem.F.type_list_append Y.mt_qappend (Y.pv 2) (Y.pa1 (Y.pv 3))))) (Y.pss_nil)))) (Y.pss_one (Y.ps_ret (Y.pv 2))))
theorem sc_unwanted_steps:FnScope ["plan", "deed", "order", "goes_by", "done", "here", "step"] ["plan", "deed"] (defScope s_unwanted_steps):=by walk_at "sc"
theorem cc_unwanted_steps_0:CompOk ["plan", "deed", "order", "goes_by", "done", "here", "step"] (defScope s_unwanted_steps) ({ kind:=PySem.ScopeKind.function,names:=[(PySem.Str.ofString ".0", PySem.NameKind.local),(PySem.Str.ofString "place", PySem.NameKind.local)],isGenerator:=false,isCoroutine:=false,more:=[]:PySem.Scope }) "place" := ⟨rfl,by decide +kernel,by decide +kernel,rfl,by decide +kernel,by decide +kernel,rfl,by decide +kernel⟩
theorem ok_unwanted_steps{f:Addr}{fd:FuncData}(F:Fun K "unwanted_steps" "unwanted_steps" s_unwanted_steps f fd)(T:Txt K mg c)(c_unwanted_ends:Callee P w K mg base 3 "unwanted_ends" ["plan", "deed"] (sp_unwanted_ends K))(c_does:Callee P w K mg base 2 "does" ["row", "deed"] (sp_does K)) (c_Plan_steps_into:MCallee P w K mg base 1 "steps_into" c.C_Plan ["self", "place"] (sp_Plan_steps_into K)):FnOk P w K mg base CX0 4 f fd ["plan", "deed"] (sp_unwanted_steps K c):=by
 refine Y.fun_ok F sc_unwanted_steps (fun vs H Q E h=>h.1) (fun cdv A outer s H vs Q E hr h=>⟨t_unwanted_steps K c,?_,h.2⟩);have nd:=sc_unwanted_steps.nd;exact Y.pss_cons (Y.ps_set (n:=2) nd rfl (Or.inl rfl) (Y.pe_own c_unwanted_ends hr (by decide) rfl (Y.pa2 (Y.pv 0) (Y.pv 1)))) (Y.pss_cons (Y.ps_set (n:=3) nd rfl (Or.inl rfl) (Y.pe_callTy (Y.call_qdictl rfl) rfl T.b_dict PyProof.Rows.boot_dict (Y.pa1 (Y.pe_comp cc_unwanted_steps_0 rfl (Y.pi_list (Y.pv 2)) (fun _ _ _ _ _=>Y.pts_nil) (fun _ _ _ _ _=>Y.pe_tup (Y.pa2 (Y.pv 0) (Y.pe_non))))))) (Y.pss_cons (Y.ps_set (n:=4) nd rfl (Or.inl rfl) (Y.pe_int)) (Y.pss_cons (Y.ps_while PassesOwn.never (Y.pt_cmpR Y.op_qlt (Y.pv 4) (Y.pe_callB Y.call_qlen rfl T.b_len PySem.boot_len (Y.pa1 (Y.pv 2))) (nomark _)) (Y.pss_cons (Y.ps_set (n:=5) nd rfl (Or.inl rfl) (Y.pe_ix Y.ix_q (Y.pv 2) (Y.pv 4) (fun _ _=>rfl))) (Y.pss_cons (Y.ps_aug (n:=4) nd rfl (Or.inl rfl) (Y.pe_int) Y.ip_add) (Y.pss_one (Y.ps_for PassesOwn.never rfl (Y.pi_list (Y.pe_mth c_Plan_steps_into hr (by decide) (Y.pv 0) (Y.pa1 (Y.pv 5)))) (Y.pg_name (n:=6) nd rfl (Or.inl rfl)) (Y.pss_one (Y.ps_if (Y.pw_pt (Y.pw_and (Y.pt_cmpR (Y.op_qnek hr) (Y.pv 6) (Y.pe_globT T.g_FIRST_STEP rfl) (nomark _)) (Y.pw_and (Y.pt_dnotin hr (Y.pe_ix Y.ix_q (Y.pv 6) (Y.pe_int) (fun _ _=>rfl)) (Y.pv 3) rfl) (Y.pw_and1 (Y.pt_not (Y.pt_val (Y.pe_own c_does hr (by decide) rfl (Y.pa2 (Y.pe_ix Y.ix_q (Y.pe_fld (Y.pv 0)) (Y.pe_ix Y.ix_q (Y.pv 6) (Y.pe_int) (fun _ _=>rfl)) (fun _ _=>rfl)) (Y.pv 1))))))))) (Y.pss_cons (Y.ps_dput hr (Y.pv 3) (Y.pe_ix Y.ix_q (Y.pv 6) (Y.pe_int) (fun _ _=>rfl)) (Y.pv 6)) (Y.pss_one (Y.ps_expr (Y.pe_bm PySem.F.plainAttrs_list PySem.F.slot_list_append PySem.F.type_list_append Y.mt_qappend (Y.pv 2) (Y.pa1 (Y.pe_ix Y.ix_q (Y.pv 6) (Y.pe_int) (fun _ _=>rfl))))))) (Y.pss_nil)))))))) (Y.pss_one (Y.ps_ret (Y.pv 3))))))
theorem sc_Wanted_init:FnScope ["self", "plan", "deed"] ["self", "plan", "deed"] (defScope s_Wanted_init):=by walk_at "sc"
theorem ok_Wanted_init{f:Addr}{fd:FuncData}(F:Fun K "__init__" "Wanted.__init__" s_Wanted_init f fd)(T:Txt K mg c)(c_unwanted_steps:Callee P w K mg base 4 "unwanted_steps" ["plan", "deed"] (sp_unwanted_steps K c))   : FnOk P w K mg base CX0 5 f fd ["self", "plan", "deed"] (sp_Wanted_init K c):=by
 refine Y.fun_ok F sc_Wanted_init (fun vs H Q E h=>h.1) (fun cdv A outer s H vs Q E hr h=>⟨t_Wanted_init K c,?_,h.2⟩);have nd:=sc_Wanted_init.nd;exact Y.pss_cons (Y.ps_fld (Y.pv 0) (Y.pv 1)) (Y.pss_one (Y.ps_fld (Y.pv 0) (Y.pe_own c_unwanted_steps hr (by decide) rfl (Y.pa2 (Y.pv 1) (Y.pv 2)))))
theorem sc_pass_on:FnScope ["plan", "place", "come_by", "order", "at", "target"] ["plan", "place", "come_by", "order"] (defScope s_pass_on):=by walk_at "sc"
theorem ok_pass_on{f:Addr}{fd:FuncData}(F:Fun K "pass_on" "pass_on" s_pass_on f fd)(T:Txt K mg c)    : FnOk P w K mg base CX0 1 f fd ["plan", "place", "come_by", "order"] (sp_pass_on K):=by
 refine Y.fun_ok F sc_pass_on (fun vs H Q E h=>h.1) (fun cdv A outer s H vs Q E hr h=>⟨t_pass_on K,?_,h.2⟩);have nd:=sc_pass_on.nd;exact Y.pss_one (Y.ps_for PassesOwn.never rfl (Y.pi_enum rfl T.b_enumerate (Y.pa1 (Y.pe_ix Y.ix_q (Y.pe_fld (Y.pv 0)) (Y.pv 1) (fun _ _=>rfl)))) (Y.pg_tup rfl (Y.pgs_cons (Y.pg_name (n:=4) nd rfl (Or.inl rfl)) (Y.pgs_cons (Y.pg_name (n:=5) nd rfl (Or.inl rfl)) (Y.pgs_nil)))) (Y.pss_one (Y.ps_if (Y.pt_dnotin hr (Y.pv 5) (Y.pv 2) rfl) (Y.pss_cons (Y.ps_dput hr (Y.pv 2) (Y.pv 5) (Y.pe_tup (Y.pa2 (Y.pv 1) (Y.pv 4)))) (Y.pss_one (Y.ps_expr (Y.pe_bm PySem.F.plainAttrs_list PySem.F.slot_list_append PySem.F.type_list_append Y.mt_qappend (Y.pv 3) (Y.pa1 (Y.pv 5)))))) (Y.pss_nil))))
theorem sc_unready_steps:FnScope ["plan", "made", "broken", "come_by", "order", "place", "done"] ["plan", "made", "broken"] (defScope s_unready_steps):=by walk_at "sc"
theorem ok_unready_steps{f:Addr}{fd:FuncData}(F:Fun K "unready_steps" "unready_steps" s_unready_steps f fd)(T:Txt K mg c)(c_pass_on:Callee P w K mg base 1 "pass_on" ["plan", "place", "come_by", "order"] (sp_pass_on K))   : FnOk P w K mg base CX0 2 f fd ["plan", "made", "broken"] (sp_unready_steps K c):=by
 refine Y.fun_ok F sc_unready_steps (fun vs H Q E h=>h.1) (fun cdv A outer s H vs Q E hr h=>⟨t_unready_steps K c,?_,h.2⟩);have nd:=sc_unready_steps.nd;exact Y.pss_cons (Y.ps_set (n:=3) nd rfl (Or.inl rfl) (Y.pe_disp (Y.pps_cons (Y.pe_int) (Y.pe_globT T.g_FIRST_STEP rfl) (Y.pps_nil)))) (Y.pss_cons (Y.ps_set (n:=4) nd rfl (Or.inl rfl) (Y.pe_lst (Y.pa1 (Y.pe_int)))) (Y.pss_cons (Y.ps_for PassesOwn.never rfl (Y.pi_range1 rfl T.b_range (Y.pa1 (Y.pe_callB Y.call_qlen rfl T.b_len PySem.boot_len (Y.pa1 (Y.pe_fld (Y.pv 0)))))) (Y.pg_name (n:=5) nd rfl (Or.inl rfl)) (Y.pss_one (Y.ps_if (Y.pt_val (Y.pe_ix Y.ix_q (Y.pv 2) (Y.pv 5) (fun _ _=>rfl))) (Y.pss_one (Y.ps_expr (Y.pe_own c_pass_on hr (by decide) rfl (Y.pa4 (Y.pv 0) (Y.pv 5) (Y.pv 3) (Y.pv 4))))) (Y.pss_nil)))) (Y.pss_cons (Y.ps_set (n:=6) nd rfl (Or.inl rfl) (Y.pe_int)) (Y.pss_cons (Y.ps_while PassesOwn.never (Y.pt_cmpR Y.op_qlt (Y.pv 6) (Y.pe_callB Y.call_qlen rfl T.b_len PySem.boot_len (Y.pa1 (Y.pv 4))) (nomark _)) (Y.pss_cons (Y.ps_set (n:=5) nd rfl (Or.inl rfl) (Y.pe_ix Y.ix_q (Y.pv 4) (Y.pv 6) (fun _ _=>rfl))) (Y.pss_cons (Y.ps_aug (n:=6) nd rfl (Or.inl rfl) (Y.pe_int) Y.ip_add) (Y.pss_one (Y.ps_if (Y.pt_not (Y.pt_val (Y.pe_ix Y.ix_q (Y.pv 1) (Y.pv 5) (fun _ _=>rfl)))) (Y.pss_one (Y.ps_expr (Y.pe_own c_pass_on hr (by decide) rfl (Y.pa4 (Y.pv 0) (Y.pv 5) (Y.pv 3) (Y.pv 4))))) (Y.pss_nil)))))) (Y.pss_one (Y.ps_ret (Y.pv 3)))))))
theorem sc_Ready_init:FnScope ["self", "plan", "deed", "made"] ["self", "plan", "deed"] (defScope s_Ready_init):=by walk_at "sc"
theorem cc_Ready_init_0:CompOk ["self", "plan", "deed", "made"] (defScope s_Ready_init) ({ kind:=PySem.ScopeKind.function,names:=[ (PySem.Str.ofString ".0", PySem.NameKind.local),(PySem.Str.ofString "row", PySem.NameKind.local),(PySem.Str.ofString "does", PySem.NameKind.globalImplicit),(PySem.Str.ofString "deed", PySem.NameKind.free)],isGenerator:=false,isCoroutine:=false,more:=[]:PySem.Scope }) "row" := ⟨rfl,by decide +kernel,by decide +kernel,rfl,by decide +kernel,by decide +kernel,rfl,by decide +kernel⟩
theorem cc_Ready_init_1:CompOk ["self", "plan", "deed", "made"] (defScope s_Ready_init) ({ kind:=PySem.ScopeKind.function,names:=[ (PySem.Str.ofString ".0", PySem.NameKind.local),(PySem.Str.ofString "row", PySem.NameKind.local),(PySem.Str.ofString "spoils", PySem.NameKind.globalImplicit),(PySem.Str.ofString "deed", PySem.NameKind.free)],isGenerator:=false,isCoroutine:=false,more:=[]:PySem.Scope }) "row" := ⟨rfl,by decide +kernel,by decide +kernel,rfl,by decide +kernel,by decide +kernel,rfl,by decide +kernel⟩
theorem ok_Ready_init{f:Addr}{fd:FuncData}(F:Fun K "__init__" "Ready.__init__" s_Ready_init f fd)(T:Txt K mg c)(c_does:Callee P w K mg base 2 "does" ["row", "deed"] (sp_does K))(c_spoils:Callee P w K mg base 2 "spoils" ["row", "deed"] (sp_spoils K))(c_unready_steps:Callee P w K mg base 2 "unready_steps" ["plan", "made", "broken"] (sp_unready_steps K c))   : FnOk P w K mg base CX0 3 f fd ["self", "plan", "deed"] (sp_Ready_init K c):=by
 refine Y.fun_ok F sc_Ready_init (fun vs H Q E h=>h.1) (fun cdv A outer s H vs Q E hr h=>⟨t_Ready_init K c,?_,h.2⟩);have nd:=sc_Ready_init.nd;exact Y.pss_cons (Y.ps_fld (Y.pv 0) (Y.pv 1)) (Y.pss_cons (Y.ps_fld (Y.pv 0) (Y.pv 2)) (Y.pss_cons (Y.ps_setcomp (n:=3) nd rfl rfl cc_Ready_init_0 rfl (Y.pi_list (Y.pe_fld (Y.pv 1))) (fun _ _ _ _ _=>Y.pts_nil) (fun _ _ _ _ _=>Y.pe_own c_does hr (by decide) rfl (Y.pa2 (Y.pv 0) (Y.pv 3)))) (Y.pss_one (Y.ps_fld (Y.pv 0) (Y.pe_own c_unready_steps hr (by decide) rfl (Y.pa3 (Y.pv 1) (Y.pv 3) (Y.pe_comp cc_Ready_init_1 rfl (Y.pi_list (Y.pe_fld (Y.pv 1))) (fun _ _ _ _ _=>Y.pts_nil) (fun _ _ _ _ _=>Y.pe_own c_spoils hr (by decide) rfl (Y.pa2 (Y.pv 0) (Y.pv 3))))))))))
theorem sc_law:FnScope ["_law_script", "_law_bag_here", "_law_one", "_law_other", "_law_deeds", "_law_pairs", "_law_rows", "_law_nexts", "_law_names_here", "_law_some", "_law_plan_here", "_law_deed_here", "_law_turn", "_law_ready", "_law_wanted", "_law_spot", "_law_step", "_law_ask", "_law_fresh", "_law_due", "_law_again", "_law_found"] ["_law_script"] (defScope s_law):=by walk_at "sc"
theorem ok_law{f:Addr}{fd:FuncData}(F:Fun K "law" "law" s_law f fd)(T:Txt K mg c)(ck:CnOk K c)(c_bag:Callee P w K mg base 1 "_law_bag" ["_law_script"] (sp_bag K))(c_plan:Callee P w K mg base 5 "_law_plan" ["_law_bag_here"] (sp_plan K))(c_second:Callee P w K mg base 6 "_law_second" ["_law_bag_here", "_law_first"] (sp_second K))(c_deed:Callee P w K mg base 4 "_law_deed" ["_law_bag_here", "_law_names_here"] (sp_deed K))(c_made:Callee P w K mg base 8 "_law_made" ["_law_rows", "_law_nexts"] (sp_made K c))(c_take:Callee P w K mg base 1 "_law_take" ["_law_bag_here", "_law_many"] (sp_take K))(c_told:Callee P w K mg base 5 "_law_told" ["_law_ready", "_law_wanted", "_law_ask", "_law_spot", "_law_step"] (sp_told K c))(m_Wanted:Maker P w K mg base 5 "Wanted" c.C_Wanted ["self", "plan", "deed"] (sp_Wanted_init K c))(m_Ready:Maker P w K mg base 3 "Ready" c.C_Ready ["self", "plan", "deed"] (sp_Ready_init K c))  : FnOk P w K mg base CX0 9 f fd ["_law_script"] (sp_law K):=by
 refine Y.fun_ok F sc_law (fun vs H Q E h=>h.1) (fun cdv A outer s H vs Q E hr h=>⟨t_law K c,?_,h.2 c ck⟩);have nd:=sc_law.nd;exact Y.pss_cons (Y.ps_set (n:=1) nd rfl (Or.inl rfl) (Y.pe_own c_bag hr (by decide) rfl (Y.pa1 (Y.pv 0)))) (Y.pss_cons (Y.ps_set (n:=2) nd rfl (Or.inl rfl) (Y.pe_own c_plan hr (by decide) rfl (Y.pa1 (Y.pv 1)))) (Y.pss_cons (Y.ps_set (n:=3) nd rfl (Or.inl rfl) (Y.pe_own c_second hr (by decide) rfl (Y.pa2 (Y.pv 1) (Y.pv 2)))) (Y.pss_cons (Y.ps_set (n:=4) nd rfl (Or.inl rfl) (Y.pe_lst (Y.pa3 (Y.pe_ix Y.ix_q (Y.pe_ix Y.ix_q (Y.pv 2) (Y.pe_int) (fun _ _=>rfl)) (Y.pe_int) (fun _ _=>rfl)) (Y.pe_ix Y.ix_q (Y.pe_ix Y.ix_q (Y.pv 3) (Y.pe_int) (fun _ _=>rfl)) (Y.pe_un Y.un_neg (Y.pe_int)) (fun _ _=>rfl)) (Y.pe_own c_deed hr (by decide) rfl (Y.pa2 (Y.pv 1) (Y.pe_ix Y.ix_q (Y.pv 2) (Y.pe_int) (fun _ _=>rfl))))))) (Y.pss_cons (Y.ps_set (n:=5) nd rfl (Or.inl rfl) (Y.pe_lst (Y.pa_nil))) (Y.pss_cons (Y.ps_for PassesOwn.never rfl (Y.pi_list (Y.pe_lst (Y.pa2 (Y.pv 2) (Y.pv 3)))) (Y.pg_tup rfl (Y.pgs_cons (Y.pg_name (n:=6) nd rfl (Or.inl rfl)) (Y.pgs_cons (Y.pg_name (n:=7) nd rfl (Or.inl rfl)) (Y.pgs_cons (Y.pg_name (n:=8) nd rfl (Or.inl rfl)) (Y.pgs_cons (Y.pg_name (n:=9) nd rfl (Or.inl rfl)) (Y.pgs_nil)))))) (Y.pss_cons (Y.ps_set (n:=10) nd rfl (Or.inl rfl) (Y.pe_own c_made hr (by decide) rfl (Y.pa2 (Y.pv 6) (Y.pv 7)))) (Y.pss_one (Y.ps_for PassesOwn.never rfl (Y.pi_list (Y.pv 4)) (Y.pg_name (n:=11) nd rfl (Or.inl rfl)) (Y.pss_one (Y.ps_expr (Y.pe_bm PySem.F.plainAttrs_list PySem.F.slot_list_append PySem.F.type_list_append Y.mt_qappend (Y.pv 5) (Y.pa1 (Y.pe_tup (Y.pa5 (Y.pe_mk m_Ready hr (by decide) rfl (Y.pa2 (Y.pv 10) (Y.pv 11))) (Y.pe_mk m_Wanted hr (by decide) rfl (Y.pa2 (Y.pv 10) (Y.pv 11))) (Y.pv 6) (Y.pv 7) (Y.pv 11))))))))))) (Y.pss_cons (Y.ps_for PassesOwn.never rfl (Y.pi_range1 rfl T.b_range (Y.pa1 (Y.pe_op Y.op_qadd (Y.pe_int) (Y.pe_own c_take hr (by decide) rfl (Y.pa2 (Y.pv 1) (Y.pe_int)))))) (Y.pg_name (n:=12) nd rfl (Or.inl rfl)) (Y.pss_cons (Y.ps_asg (Y.pe_ix Y.ix_q (Y.pv 5) (Y.pe_own c_take hr (by decide) rfl (Y.pa2 (Y.pv 1) (Y.pe_int))) (fun _ _=>rfl)) (Y.pg_tup rfl (Y.pgs_cons (Y.pg_name (n:=13) nd rfl (Or.inl rfl)) (Y.pgs_cons (Y.pg_name (n:=14) nd rfl (Or.inl rfl)) (Y.pgs_cons (Y.pg_name (n:=6) nd rfl (Or.inl rfl)) (Y.pgs_cons (Y.pg_name (n:=7) nd rfl (Or.inl rfl)) (Y.pgs_cons (Y.pg_name (n:=11) nd rfl (Or.inl rfl)) (Y.pgs_nil)))))))) (Y.pss_cons (Y.ps_set (n:=15) nd rfl (Or.inl rfl) (Y.pe_own c_take hr (by decide) rfl (Y.pa2 (Y.pv 1) (Y.pe_callB Y.call_qlen rfl T.b_len PySem.boot_len (Y.pa1 (Y.pv 6)))))) (Y.pss_cons (Y.ps_set (n:=16) nd rfl (Or.inl rfl) (Y.pe_tup (Y.pa2 (Y.pe_un Y.un_neg (Y.pe_int)) (Y.pe_int)))) (Y.pss_cons (Y.ps_if (Y.pw_pt (Y.pw_and (Y.pt_cmpR (Y.op_qne hr) (Y.pe_ix Y.ix_q (Y.pv 7) (Y.pv 15) (fun _ _=>rfl)) (Y.pe_lst (Y.pa_nil)) (nomark _)) (Y.pw_and1 (Y.pt_cmpR Y.op_qgt (Y.pe_own c_take hr (by decide) rfl (Y.pa2 (Y.pv 1) (Y.pe_int))) (Y.pe_int) (nomark _))))) (Y.pss_one (Y.ps_set (n:=16) nd rfl (Or.inl rfl) (Y.pe_tup (Y.pa2 (Y.pv 15) (Y.pe_own c_take hr (by decide) rfl (Y.pa2 (Y.pv 1) (Y.pe_callB Y.call_qlen rfl T.b_len PySem.boot_len (Y.pa1 (Y.pe_ix Y.ix_q (Y.pv 7) (Y.pv 15) (fun _ _=>rfl)))))))))) (Y.pss_nil)) (Y.pss_cons (Y.ps_set (n:=17) nd rfl (Or.inl rfl) (Y.pe_own c_take hr (by decide) rfl (Y.pa2 (Y.pv 1) (Y.pe_int)))) (Y.pss_cons (Y.ps_set (n:=18) nd rfl (Or.inl rfl) (Y.pe_own c_made hr (by decide) rfl (Y.pa2 (Y.pv 6) (Y.pv 7)))) (Y.pss_cons (Y.ps_set (n:=19) nd rfl (Or.inl rfl) (Y.pe_own c_told hr (by decide) rfl (Y.pa5 (Y.pe_mk m_Ready hr (by decide) rfl (Y.pa2 (Y.pv 18) (Y.pv 11))) (Y.pe_mk m_Wanted hr (by decide) rfl (Y.pa2 (Y.pv 18) (Y.pv 11))) (Y.pv 17) (Y.pv 15) (Y.pv 16)))) (Y.pss_one (Y.ps_for PassesOwn.never rfl (Y.pi_range1 rfl T.b_range (Y.pa1 (Y.pe_int))) (Y.pg_name (n:=20) nd rfl (Or.inl rfl)) (Y.pss_cons (Y.ps_set (n:=21) nd rfl (Or.inl rfl) (Y.pe_own c_told hr (by decide) rfl (Y.pa5 (Y.pv 13) (Y.pv 14) (Y.pv 17) (Y.pv 15) (Y.pv 16)))) (Y.pss_one (Y.ps_if (Y.pw_pt (Y.pw_or (Y.pt_not (Y.pt_val (Y.pe_callB Y.call_qisi rfl T.b_isinstance PyProof.Rows.boot_isinstance (Y.pa2 (Y.pv 21) (Y.pe_bltn rfl T.b_bool PyProof.Rows.boot_bool rfl))))) (Y.pw_or1 (Y.pt_cmpR (Y.op_qne hr) (Y.pv 21) (Y.pv 19) (nomark _))))) (Y.pss_one (Y.ps_ret (Y.pe_bl))) (Y.pss_nil)))))))))))))) (Y.pss_one (Y.ps_ret (Y.pe_bl)))))))))
end
end
abbrev fdM(x q:Str)(st:Stmt)(pm cd:Value):FuncData:=PySem.W.fnOf x q (defArgs st) (defBody st) (defScope st) .none .none .none pm none cd .none
structure FnI(K:PySem.W.Frag)(x q:Str)(st:Stmt)(f:Addr)(pm cd:Value):Prop where
 l:K.lookup f=some ⟨.type "function", none,.func (fdM x q st pm cd),#[]⟩
 c:PySem.W.codeIn K cd q=true
 k:PySem.W.keepIn K (.ref f)=true
structure FnG(K:PySem.W.Frag)(x:Str)(st:Stmt)(f:Addr)(pm cd:Value):Prop where
 i:FnI K x x st f pm cd
 a:PySem.W.nsIn K mainGlobals x=some (some (.ref f))
structure FnM(K:PySem.W.Frag)(C:Addr)(x q:Str)(st:Stmt)(f:Addr)(pm cd:Value):Prop where
 i:FnI K x q st f pm cd
 a:PySem.W.findIn K (.ref C) x=some (some (.ref f))
 n:PySem.W.isFn K (.ref f)=true
theorem FnI.F{K:PySem.W.Frag}{x q:Str}{st:Stmt}{f:Addr}{pm cd:Value}(h:FnI K x q st f pm cd):Fun K x q st f (fdM x q st pm cd):=fun_mk h.l h.c h.k
abbrev pm0:Value:=(.str "law_oncedone_k45_two_deeds_by_turns" 787)
abbrev pm1:Value:=(.str "oncedone.checks" 405)
abbrev pm2:Value:=(.str "oncedone.words" 194)
abbrev pm3:Value:=(.str "oncedone.plans" 435)
abbrev pm4:Value:=(.str "oncedone.ready" 607)
abbrev pm5:Value:=(.str "oncedone.deeds" 253)
abbrev pm6:Value:=(.str "oncedone.ways" 565)
abbrev pm7:Value:=(.str "oncedone.wanted" 705)
theorem all_mk{l:PySem.W.OpenLaw}{w:World}{K:PySem.W.Frag}{h:Heap}{mg:Str->Option Value}{fa:Addr}(X:K.In h)(G:h.Ns mainGlobals mg)(hfa:mg "law" = some (.ref fa))
  (y_Plan:PySem.W.nsIn K mainGlobals "Plan" = some (some (.ref 297))) (pg_Plan:PySem.W.plainGet K 297 Str.empty=true) (hd_Plan:PySem.W.hasDictIn K 297=true) (po_Plan:PySem.W.plainOver K 297=true) (sa_Plan:PySem.W.findIn K (.ref 297) "__setattr__" = some (some (.builtin "object.__setattr__"))) (mk_Plan:PySem.W.makesIn K 297=true) (kc_Plan:PySem.W.keepIn K (.ref 297)=true)
  (na_Plan_come_by:PySem.W.findIn K (.ref 297) "come_by" = some none)
  (na_Plan_deed:PySem.W.findIn K (.ref 297) "deed" = some none)
  (na_Plan_entries:PySem.W.findIn K (.ref 297) "entries" = some none)
  (na_Plan_goes_by:PySem.W.findIn K (.ref 297) "goes_by" = some none)
  (na_Plan_nexts:PySem.W.findIn K (.ref 297) "nexts" = some none)
  (na_Plan_plan:PySem.W.findIn K (.ref 297) "plan" = some none)
  (na_Plan_rows:PySem.W.findIn K (.ref 297) "rows" = some none)
  (y_Ready:PySem.W.nsIn K mainGlobals "Ready" = some (some (.ref 391))) (pg_Ready:PySem.W.plainGet K 391 Str.empty=true) (hd_Ready:PySem.W.hasDictIn K 391=true) (po_Ready:PySem.W.plainOver K 391=true) (sa_Ready:PySem.W.findIn K (.ref 391) "__setattr__" = some (some (.builtin "object.__setattr__"))) (mk_Ready:PySem.W.makesIn K 391=true) (kc_Ready:PySem.W.keepIn K (.ref 391)=true)
  (na_Ready_come_by:PySem.W.findIn K (.ref 391) "come_by" = some none)
  (na_Ready_deed:PySem.W.findIn K (.ref 391) "deed" = some none)
  (na_Ready_entries:PySem.W.findIn K (.ref 391) "entries" = some none)
  (na_Ready_goes_by:PySem.W.findIn K (.ref 391) "goes_by" = some none)
  (na_Ready_nexts:PySem.W.findIn K (.ref 391) "nexts" = some none)
  (na_Ready_plan:PySem.W.findIn K (.ref 391) "plan" = some none)
  (na_Ready_rows:PySem.W.findIn K (.ref 391) "rows" = some none)
  (y_Wanted:PySem.W.nsIn K mainGlobals "Wanted" = some (some (.ref 450))) (pg_Wanted:PySem.W.plainGet K 450 Str.empty=true) (hd_Wanted:PySem.W.hasDictIn K 450=true) (po_Wanted:PySem.W.plainOver K 450=true) (sa_Wanted:PySem.W.findIn K (.ref 450) "__setattr__" = some (some (.builtin "object.__setattr__"))) (mk_Wanted:PySem.W.makesIn K 450=true) (kc_Wanted:PySem.W.keepIn K (.ref 450)=true)
  (na_Wanted_come_by:PySem.W.findIn K (.ref 450) "come_by" = some none)
  (na_Wanted_deed:PySem.W.findIn K (.ref 450) "deed" = some none)
  (na_Wanted_entries:PySem.W.findIn K (.ref 450) "entries" = some none)
  (na_Wanted_goes_by:PySem.W.findIn K (.ref 450) "goes_by" = some none)
  (na_Wanted_nexts:PySem.W.findIn K (.ref 450) "nexts" = some none)
  (na_Wanted_plan:PySem.W.findIn K (.ref 450) "plan" = some none)
  (na_Wanted_rows:PySem.W.findIn K (.ref 450) "rows" = some none)
  (y_DEED_KINDS:PySem.W.nsIn K mainGlobals "DEED_KINDS" = some (some (.ref 22))) (l_DEED_KINDS:K.lookup 22=some ⟨.type "tuple", none,.seq (([(.str "plus" 204),(.str "minus" 205),(.str "times" 206),(.str "less" 207),(.str "same" 208)]:List Value).toArray) 0,#[]⟩)
  (y_FIRST_STEP:PySem.W.nsIn K mainGlobals "FIRST_STEP" = some (some (.ref 201))) (l_FIRST_STEP:K.lookup 201=some ⟨.type "tuple", none,.seq (([(.int (-1) 438),(.int (0) 439)]:List Value).toArray) 0,#[]⟩)
  (x0:FnG K "_law_bag" s_bag 459 pm0 (.ref 458))
  (x1:FnG K "_law_take" s_take 466 pm0 (.ref 465))
  (x2:FnG K "_law_net" s_net 473 pm0 (.ref 472))
  (x3:FnG K "_law_mended" s_mended 478 pm0 (.ref 477))
  (x4:FnG K "_law_base" s_base 483 pm0 (.ref 482))
  (x5:FnG K "_law_names" s_names 490 pm0 (.ref 489))
  (x6:FnG K "_law_value" s_value 497 pm0 (.ref 496))
  (x7:FnG K "_law_operand" s_operand 504 pm0 (.ref 503))
  (x8:FnG K "_law_deed" s_deed 511 pm0 (.ref 510))
  (x9:FnG K "_law_row" s_row 518 pm0 (.ref 517))
  (x10:FnG K "_law_plan" s_plan 523 pm0 (.ref 522))
  (x11:FnG K "_law_second" s_second 549 pm0 (.ref 548))
  (x12:FnG K "_law_lists" s_lists 528 pm0 (.ref 527))
  (x13:FnG K "check_length" s_check_length 193 pm1 (.ref 192))
  (x14:FnG K "is_name" s_is_name 41 pm2 (.ref 40))
  (x15:FnG K "is_whole" s_is_whole 29 pm2 (.ref 28))
  (x16:FnG K "is_value" s_is_value 36 pm2 (.ref 35))
  (x17:FnG K "is_operand" s_is_operand 48 pm2 (.ref 47))
  (x18:FnG K "is_deed" s_is_deed 55 pm2 (.ref 54))
  (x19:FnG K "is_row" s_is_row 62 pm2 (.ref 61))
  (x20:FnG K "check_each" s_check_each 200 pm1 (.ref 199))
  (x21:FnG K "is_below" s_is_below 186 pm1 (.ref 185))
  (x22:FnG K "are_nexts" s_are_nexts 206 pm3 (.ref 205))
  (x23:FnG K "check_nexts" s_check_nexts 211 pm3 (.ref 210))
  (x24:FnG K "reached" s_reached 228 pm3 (.ref 227))
  (x25:FnG K "turned" s_turned 221 pm3 (.ref 220))
  (x26:FnG K "stops_of" s_stops_of 216 pm3 (.ref 215))
  (x27:FnG K "check_ways" s_check_ways 235 pm3 (.ref 234))
  (x28:FnG K "steps_of" s_steps_of 240 pm3 (.ref 239))
  (x29:FnM K 297 "leads_to" "Plan.leads_to" s_Plan_leads_to 266 pm3 (.ref 265))
  (x30:FnM K 297 "__init__" "Plan.__init__" s_Plan_init 252 pm3 (.ref 251))
  (x31:FnG K "_law_made" s_made 535 pm0 (.ref 534))
  (x32:FnM K 391 "ready_at" "Ready.ready_at" s_Ready_ready_at 360 pm4 (.ref 359))
  (x33:FnG K "set_by" s_set_by 76 pm5 (.ref 75))
  (x34:FnG K "spoils" s_spoils 90 pm5 (.ref 89))
  (x35:FnG K "deed_of" s_deed_of 69 pm5 (.ref 68))
  (x36:FnG K "does" s_does 83 pm5 (.ref 82))
  (x37:FnM K 391 "ready_behind" "Ready.ready_behind" s_Ready_ready_behind 367 pm4 (.ref 366))
  (x38:FnM K 391 "ready_on" "Ready.ready_on" s_Ready_ready_on 374 pm4 (.ref 373))
  (x39:FnG K "traced" s_traced 315 pm6 (.ref 314))
  (x40:FnG K "way_to" s_way_to 308 pm6 (.ref 307))
  (x41:FnM K 391 "begins_unready" "Ready.begins_unready" s_Ready_begins_unready 381 pm4 (.ref 380))
  (x42:FnM K 391 "way_unready" "Ready.way_unready" s_Ready_way_unready 388 pm4 (.ref 387))
  (x43:FnM K 450 "wanted_at" "Wanted.wanted_at" s_Wanted_wanted_at 428 pm7 (.ref 427))
  (x44:FnM K 450 "wanted_behind" "Wanted.wanted_behind" s_Wanted_wanted_behind 433 pm7 (.ref 432))
  (x45:FnM K 450 "wanted_on" "Wanted.wanted_on" s_Wanted_wanted_on 440 pm7 (.ref 439))
  (x46:FnG K "followed" s_followed 327 pm6 (.ref 326))
  (x47:FnM K 297 "stops" "Plan.stops" s_Plan_stops 280 pm3 (.ref 279))
  (x48:FnM K 297 "steps_into" "Plan.steps_into" s_Plan_steps_into 273 pm3 (.ref 272))
  (x49:FnG K "way_on" s_way_on 320 pm6 (.ref 319))
  (x50:FnM K 450 "way_unwanted" "Wanted.way_unwanted" s_Wanted_way_unwanted 447 pm7 (.ref 446))
  (x51:FnG K "_law_told" s_told 542 pm0 (.ref 541))
  (x52:FnG K "unwanted_ends" s_unwanted_ends 402 pm7 (.ref 401))
  (x53:FnG K "unwanted_steps" s_unwanted_steps 407 pm7 (.ref 406))
  (x54:FnM K 450 "__init__" "Wanted.__init__" s_Wanted_init 421 pm7 (.ref 420))
  (x55:FnG K "pass_on" s_pass_on 334 pm4 (.ref 333))
  (x56:FnG K "unready_steps" s_unready_steps 341 pm4 (.ref 340))
  (x57:FnM K 391 "__init__" "Ready.__init__" s_Ready_init 353 pm4 (.ref 352))
  (x58:FnG K "law" s_law 556 pm0 (.ref 555))
  (z_abs:PySem.W.nsIn K mainGlobals "abs" = some none)
  (z_all:PySem.W.nsIn K mainGlobals "all" = some none)
  (z_any:PySem.W.nsIn K mainGlobals "any" = some none)
  (z_bool:PySem.W.nsIn K mainGlobals "bool" = some none)
  (z_dict:PySem.W.nsIn K mainGlobals "dict" = some none)
  (z_enumerate:PySem.W.nsIn K mainGlobals "enumerate" = some none)
  (z_int:PySem.W.nsIn K mainGlobals "int" = some none)
  (z_isinstance:PySem.W.nsIn K mainGlobals "isinstance" = some none)
  (z_len:PySem.W.nsIn K mainGlobals "len" = some none)
  (z_list:PySem.W.nsIn K mainGlobals "list" = some none)
  (z_min:PySem.W.nsIn K mainGlobals "min" = some none)
  (z_range:PySem.W.nsIn K mainGlobals "range" = some none)
  (z_sorted:PySem.W.nsIn K mainGlobals "sorted" = some none)
  (z_str:PySem.W.nsIn K mainGlobals "str" = some none)
  (z_tuple:PySem.W.nsIn K mainGlobals "tuple" = some none)
  (z_zip:PySem.W.nsIn K mainGlobals "zip" = some none)
  (y_BOUND:PySem.W.nsIn K mainGlobals "BOUND" = some (some (.int (1000000000000) 196)))
  (y_FIGURES:PySem.W.nsIn K mainGlobals "FIGURES" = some (some (.str "0123456789" 200)))
  (y_LETTERS:PySem.W.nsIn K mainGlobals "LETTERS" = some (some (.str "abcdefghijklmnopqrstuvwxyz" 198)))
  (y_LONGEST_NAME:PySem.W.nsIn K mainGlobals "LONGEST_NAME" = some (some (.int (8) 202)))
  (y_MOST:PySem.W.nsIn K mainGlobals "MOST" = some (some (.int (400) 407)))
  : ∃fd:FuncData,(∀(s:Shared) (v:Value),BindsTo s fd ⟨[v],[]⟩ [("_law_script", v)])/\∀base:Heap,K.In base->base.Ns mainGlobals mg->FnOk l.prog w K mg base CX0 9 fa fd ["_law_script"] (sp_law K):=by
 have e:=hfa.symm.trans (PySem.W.mg_of X G x58.a);cases e
 let c:Cn:=⟨297,391,450,22,201⟩
 have ck:CnOk K c:=⟨⟨pg_Plan,hd_Plan,po_Plan,sa_Plan⟩,na_Plan_come_by,na_Plan_deed,na_Plan_entries,na_Plan_goes_by,na_Plan_nexts,na_Plan_plan,na_Plan_rows,⟨pg_Ready,hd_Ready,po_Ready,sa_Ready⟩,na_Ready_come_by,na_Ready_deed,na_Ready_entries,na_Ready_goes_by,na_Ready_nexts,na_Ready_plan,na_Ready_rows,⟨pg_Wanted,hd_Wanted,po_Wanted,sa_Wanted⟩,na_Wanted_come_by,na_Wanted_deed,na_Wanted_entries,na_Wanted_goes_by,na_Wanted_nexts,na_Wanted_plan,na_Wanted_rows,fun H=>.inr ⟨_,([(.str "plus" 204),(.str "minus" 205),(.str "times" 206),(.str "less" 207),(.str "same" 208)]:List Value).toArray,0,l_DEED_KINDS,rfl,rfl,by decide,.cons ⟨_,rfl⟩ ( .cons ⟨_,rfl⟩ ( .cons ⟨_,rfl⟩ ( .cons ⟨_,rfl⟩ ( .cons ⟨_,rfl⟩ ( .nil)))))⟩,fun H=>.inr ⟨_,([(.int (-1) 438),(.int (0) 439)]:List Value).toArray,0,l_FIRST_STEP,rfl,rfl,by decide,.cons ⟨_,rfl⟩ ( .cons ⟨_,rfl⟩ ( .nil))⟩⟩;have T:Txt K mg c:=⟨PySem.W.mg_none_of X G z_abs,PySem.W.mg_none_of X G z_all,PySem.W.mg_none_of X G z_any,PySem.W.mg_none_of X G z_bool,PySem.W.mg_none_of X G z_dict,PySem.W.mg_none_of X G z_enumerate,PySem.W.mg_none_of X G z_int,PySem.W.mg_none_of X G z_isinstance,PySem.W.mg_none_of X G z_len,PySem.W.mg_none_of X G z_list,PySem.W.mg_none_of X G z_min,PySem.W.mg_none_of X G z_range,PySem.W.mg_none_of X G z_sorted,PySem.W.mg_none_of X G z_str,PySem.W.mg_none_of X G z_tuple,PySem.W.mg_none_of X G z_zip,⟨_,PySem.W.mg_of X G y_BOUND,⟨_,rfl⟩⟩,⟨_,PySem.W.mg_of X G y_DEED_KINDS,rfl⟩,⟨_,PySem.W.mg_of X G y_FIGURES,⟨_,rfl⟩⟩,⟨_,PySem.W.mg_of X G y_FIRST_STEP,rfl⟩,⟨_,PySem.W.mg_of X G y_LETTERS,⟨_,rfl⟩⟩,⟨_,PySem.W.mg_of X G y_LONGEST_NAME,⟨_,rfl⟩⟩,⟨_,PySem.W.mg_of X G y_MOST,⟨_,rfl⟩⟩⟩;have F0:=x0.i.F;have F1:=x1.i.F;have F2:=x2.i.F;have F3:=x3.i.F;have F4:=x4.i.F;have F5:=x5.i.F;have F6:=x6.i.F;have F7:=x7.i.F;have F8:=x8.i.F;have F9:=x9.i.F;have F10:=x10.i.F;have F11:=x11.i.F;have F12:=x12.i.F;have F13:=x13.i.F;have F14:=x14.i.F;have F15:=x15.i.F;have F16:=x16.i.F;have F17:=x17.i.F;have F18:=x18.i.F;have F19:=x19.i.F;have F20:=x20.i.F;have F21:=x21.i.F;have F22:=x22.i.F;have F23:=x23.i.F;have F24:=x24.i.F;have F25:=x25.i.F;have F26:=x26.i.F;have F27:=x27.i.F;have F28:=x28.i.F;have F29:=x29.i.F;have F30:=x30.i.F;have F31:=x31.i.F;have F32:=x32.i.F;have F33:=x33.i.F;have F34:=x34.i.F;have F35:=x35.i.F;have F36:=x36.i.F;have F37:=x37.i.F;have F38:=x38.i.F;have F39:=x39.i.F;have F40:=x40.i.F;have F41:=x41.i.F;have F42:=x42.i.F;have F43:=x43.i.F;have F44:=x44.i.F;have F45:=x45.i.F;have F46:=x46.i.F;have F47:=x47.i.F;have F48:=x48.i.F;have F49:=x49.i.F;have F50:=x50.i.F;have F51:=x51.i.F;have F52:=x52.i.F;have F53:=x53.i.F;have F54:=x54.i.F;have F55:=x55.i.F;have F56:=x56.i.F;have F57:=x57.i.F;have F58:=x58.i.F;have b0:=F0.binds (ps:=["_law_script"]) fun _ _ _ _ _ _ us hl=>match us,hl with | [_],_=>rfl
 have b1:=F1.binds (ps:=["_law_bag_here", "_law_many"]) fun _ _ _ _ _ _ us hl=>match us,hl with | [_,_],_=>rfl
 have b2:=F2.binds (ps:=["_law_bag_here", "_law_many"]) fun _ _ _ _ _ _ us hl=>match us,hl with | [_,_],_=>rfl
 have b3:=F3.binds (ps:=["_law_nexts"]) fun _ _ _ _ _ _ us hl=>match us,hl with | [_],_=>rfl
 have b4:=F4.binds (ps:=["_law_bag_here", "_law_size"]) fun _ _ _ _ _ _ us hl=>match us,hl with | [_,_],_=>rfl
 have b5:=F5.binds (ps:=["_law_bag_here", "_law_many"]) fun _ _ _ _ _ _ us hl=>match us,hl with | [_,_],_=>rfl
 have b6:=F6.binds (ps:=["_law_bag_here"]) fun _ _ _ _ _ _ us hl=>match us,hl with | [_],_=>rfl
 have b7:=F7.binds (ps:=["_law_bag_here", "_law_names_here"]) fun _ _ _ _ _ _ us hl=>match us,hl with | [_,_],_=>rfl
 have b8:=F8.binds (ps:=["_law_bag_here", "_law_names_here"]) fun _ _ _ _ _ _ us hl=>match us,hl with | [_,_],_=>rfl
 have b9:=F9.binds (ps:=["_law_bag_here", "_law_names_here", "_law_few", "_law_deeds"]) fun _ _ _ _ _ _ us hl=>match us,hl with | [_,_,_,_],_=>rfl
 have b10:=F10.binds (ps:=["_law_bag_here"]) fun _ _ _ _ _ _ us hl=>match us,hl with | [_],_=>rfl
 have b11:=F11.binds (ps:=["_law_bag_here", "_law_first"]) fun _ _ _ _ _ _ us hl=>match us,hl with | [_,_],_=>rfl
 have b12:=F12.binds (ps:=["_law_nexts"]) fun _ _ _ _ _ _ us hl=>match us,hl with | [_],_=>rfl
 have b13:=F13.binds (ps:=["things", "at", "least"]) fun _ _ _ _ _ _ us hl=>match us,hl with | [_,_,_],_=>rfl
 have b14:=F14.binds (ps:=["thing"]) fun _ _ _ _ _ _ us hl=>match us,hl with | [_],_=>rfl
 have b15:=F15.binds (ps:=["thing"]) fun _ _ _ _ _ _ us hl=>match us,hl with | [_],_=>rfl
 have b16:=F16.binds (ps:=["thing"]) fun _ _ _ _ _ _ us hl=>match us,hl with | [_],_=>rfl
 have b17:=F17.binds (ps:=["thing"]) fun _ _ _ _ _ _ us hl=>match us,hl with | [_],_=>rfl
 have b18:=F18.binds (ps:=["thing"]) fun _ _ _ _ _ _ us hl=>match us,hl with | [_],_=>rfl
 have b19:=F19.binds (ps:=["thing"]) fun _ _ _ _ _ _ us hl=>match us,hl with | [_],_=>rfl
 have b20:=F20.binds (ps:=["rights"]) fun _ _ _ _ _ _ us hl=>match us,hl with | [_],_=>rfl
 have b21:=F21.binds (ps:=["thing", "many"]) fun _ _ _ _ _ _ us hl=>match us,hl with | [_,_],_=>rfl
 have b22:=F22.binds (ps:=["row", "following", "many"]) fun _ _ _ _ _ _ us hl=>match us,hl with | [_,_,_],_=>rfl
 have b23:=F23.binds (ps:=["rows", "nexts"]) fun _ _ _ _ _ _ us hl=>match us,hl with | [_,_],_=>rfl
 have b24:=F24.binds (ps:=["begins", "leads"]) fun _ _ _ _ _ _ us hl=>match us,hl with | [_,_],_=>rfl
 have b25:=F25.binds (ps:=["nexts"]) fun _ _ _ _ _ _ us hl=>match us,hl with | [_],_=>rfl
 have b26:=F26.binds (ps:=["nexts"]) fun _ _ _ _ _ _ us hl=>match us,hl with | [_],_=>rfl
 have b27:=F27.binds (ps:=["nexts"]) fun _ _ _ _ _ _ us hl=>match us,hl with | [_],_=>rfl
 have b28:=F28.binds (ps:=["nexts"]) fun _ _ _ _ _ _ us hl=>match us,hl with | [_],_=>rfl
 have b29:=F29.binds (ps:=["self", "step"]) fun _ _ _ _ _ _ us hl=>match us,hl with | [_,_],_=>rfl
 have b30:=F30.binds (ps:=["self", "rows", "nexts"]) fun _ _ _ _ _ _ us hl=>match us,hl with | [_,_,_],_=>rfl
 have b31:=F31.binds (ps:=["_law_rows", "_law_nexts"]) fun _ _ _ _ _ _ us hl=>match us,hl with | [_,_],_=>rfl
 have b32:=F32.binds (ps:=["self", "place"]) fun _ _ _ _ _ _ us hl=>match us,hl with | [_,_],_=>rfl
 have b33:=F33.binds (ps:=["row"]) fun _ _ _ _ _ _ us hl=>match us,hl with | [_],_=>rfl
 have b34:=F34.binds (ps:=["row", "deed"]) fun _ _ _ _ _ _ us hl=>match us,hl with | [_,_],_=>rfl
 have b35:=F35.binds (ps:=["row"]) fun _ _ _ _ _ _ us hl=>match us,hl with | [_],_=>rfl
 have b36:=F36.binds (ps:=["row", "deed"]) fun _ _ _ _ _ _ us hl=>match us,hl with | [_,_],_=>rfl
 have b37:=F37.binds (ps:=["self", "place"]) fun _ _ _ _ _ _ us hl=>match us,hl with | [_,_],_=>rfl
 have b38:=F38.binds (ps:=["self", "step"]) fun _ _ _ _ _ _ us hl=>match us,hl with | [_,_],_=>rfl
 have b39:=F39.binds (ps:=["come_by", "place"]) fun _ _ _ _ _ _ us hl=>match us,hl with | [_,_],_=>rfl
 have b40:=F40.binds (ps:=["plan", "place"]) fun _ _ _ _ _ _ us hl=>match us,hl with | [_,_],_=>rfl
 have b41:=F41.binds (ps:=["self", "step"]) fun _ _ _ _ _ _ us hl=>match us,hl with | [_,_],_=>rfl
 have b42:=F42.binds (ps:=["self", "place"]) fun _ _ _ _ _ _ us hl=>match us,hl with | [_,_],_=>rfl
 have b43:=F43.binds (ps:=["self", "place"]) fun _ _ _ _ _ _ us hl=>match us,hl with | [_,_],_=>rfl
 have b44:=F44.binds (ps:=["self", "place"]) fun _ _ _ _ _ _ us hl=>match us,hl with | [_,_],_=>rfl
 have b45:=F45.binds (ps:=["self", "step"]) fun _ _ _ _ _ _ us hl=>match us,hl with | [_,_],_=>rfl
 have b46:=F46.binds (ps:=["plan", "goes_by", "place"]) fun _ _ _ _ _ _ us hl=>match us,hl with | [_,_,_],_=>rfl
 have b47:=F47.binds (ps:=["self"]) fun _ _ _ _ _ _ us hl=>match us,hl with | [_],_=>rfl
 have b48:=F48.binds (ps:=["self", "place"]) fun _ _ _ _ _ _ us hl=>match us,hl with | [_,_],_=>rfl
 have b49:=F49.binds (ps:=["plan", "place"]) fun _ _ _ _ _ _ us hl=>match us,hl with | [_,_],_=>rfl
 have b50:=F50.binds (ps:=["self", "place"]) fun _ _ _ _ _ _ us hl=>match us,hl with | [_,_],_=>rfl
 have b51:=F51.binds (ps:=["_law_ready", "_law_wanted", "_law_ask", "_law_spot", "_law_step"]) fun _ _ _ _ _ _ us hl=>match us,hl with | [_,_,_,_,_],_=>rfl
 have b52:=F52.binds (ps:=["plan", "deed"]) fun _ _ _ _ _ _ us hl=>match us,hl with | [_,_],_=>rfl
 have b53:=F53.binds (ps:=["plan", "deed"]) fun _ _ _ _ _ _ us hl=>match us,hl with | [_,_],_=>rfl
 have b54:=F54.binds (ps:=["self", "plan", "deed"]) fun _ _ _ _ _ _ us hl=>match us,hl with | [_,_,_],_=>rfl
 have b55:=F55.binds (ps:=["plan", "place", "come_by", "order"]) fun _ _ _ _ _ _ us hl=>match us,hl with | [_,_,_,_],_=>rfl
 have b56:=F56.binds (ps:=["plan", "made", "broken"]) fun _ _ _ _ _ _ us hl=>match us,hl with | [_,_,_],_=>rfl
 have b57:=F57.binds (ps:=["self", "plan", "deed"]) fun _ _ _ _ _ _ us hl=>match us,hl with | [_,_,_],_=>rfl
 refine⟨fdM "law" "law" s_law pm0 (.ref 555),fun s v=>.of_eq rfl,fun base _ _=>?_⟩;have c_bag:=callee_of F0 (@ok_bag l.prog w K mg base c _ _ F0 T ) (PySem.W.mg_of X G x0.a) b0;have c_take:=callee_of F1 (@ok_take l.prog w K mg base c _ _ F1 T ) (PySem.W.mg_of X G x1.a) b1;have c_net:=callee_of F2 (@ok_net l.prog w K mg base c _ _ F2 T c_take) (PySem.W.mg_of X G x2.a) b2;have c_mended:=callee_of F3 (@ok_mended l.prog w K mg base c _ _ F3 T ) (PySem.W.mg_of X G x3.a) b3;have c_base:=callee_of F4 (@ok_base l.prog w K mg base c _ _ F4 T c_take) (PySem.W.mg_of X G x4.a) b4;have c_names:=callee_of F5 (@ok_names l.prog w K mg base c _ _ F5 T c_take c_base) (PySem.W.mg_of X G x5.a) b5;have c_value:=callee_of F6 (@ok_value l.prog w K mg base c _ _ F6 T c_take) (PySem.W.mg_of X G x6.a) b6;have c_operand:=callee_of F7 (@ok_operand l.prog w K mg base c _ _ F7 T c_take c_value) (PySem.W.mg_of X G x7.a) b7;have c_deed:=callee_of F8 (@ok_deed l.prog w K mg base c _ _ F8 T c_take c_operand) (PySem.W.mg_of X G x8.a) b8;have c_row:=callee_of F9 (@ok_row l.prog w K mg base c _ _ F9 T c_take c_operand) (PySem.W.mg_of X G x9.a) b9;have c_plan:=callee_of F10 (@ok_plan l.prog w K mg base c _ _ F10 T c_take c_net c_mended c_names c_deed c_operand c_row) (PySem.W.mg_of X G x10.a) b10;have c_second:=callee_of F11 (@ok_second l.prog w K mg base c _ _ F11 T c_take c_plan c_row) (PySem.W.mg_of X G x11.a) b11;have c_lists:=callee_of F12 (@ok_lists l.prog w K mg base c _ _ F12 T ) (PySem.W.mg_of X G x12.a) b12;have c_check_length:=callee_of F13 (@ok_check_length l.prog w K mg base c _ _ F13 T ) (PySem.W.mg_of X G x13.a) b13;have c_is_name:=callee_of F14 (@ok_is_name l.prog w K mg base c _ _ F14 T ) (PySem.W.mg_of X G x14.a) b14;have c_is_whole:=callee_of F15 (@ok_is_whole l.prog w K mg base c _ _ F15 T ) (PySem.W.mg_of X G x15.a) b15;have c_is_value:=callee_of F16 (@ok_is_value l.prog w K mg base c _ _ F16 T c_is_whole) (PySem.W.mg_of X G x16.a) b16;have c_is_operand:=callee_of F17 (@ok_is_operand l.prog w K mg base c _ _ F17 T c_is_name c_is_value) (PySem.W.mg_of X G x17.a) b17;have c_is_deed:=callee_of F18 (@ok_is_deed l.prog w K mg base c _ _ F18 T c_is_operand) (PySem.W.mg_of X G x18.a) b18;have c_is_row:=callee_of F19 (@ok_is_row l.prog w K mg base c _ _ F19 T c_is_name c_is_deed c_is_operand) (PySem.W.mg_of X G x19.a) b19;have c_check_each:=callee_of F20 (@ok_check_each l.prog w K mg base c _ _ F20 T ) (PySem.W.mg_of X G x20.a) b20;have c_is_below:=callee_of F21 (@ok_is_below l.prog w K mg base c _ _ F21 T c_is_whole) (PySem.W.mg_of X G x21.a) b21;have c_are_nexts:=callee_of F22 (@ok_are_nexts l.prog w K mg base c _ _ F22 T c_is_below) (PySem.W.mg_of X G x22.a) b22;have c_check_nexts:=callee_of F23 (@ok_check_nexts l.prog w K mg base c _ _ F23 T c_are_nexts c_check_each) (PySem.W.mg_of X G x23.a) b23;have c_reached:=callee_of F24 (@ok_reached l.prog w K mg base c _ _ F24 T ) (PySem.W.mg_of X G x24.a) b24;have c_turned:=callee_of F25 (@ok_turned l.prog w K mg base c _ _ F25 T ) (PySem.W.mg_of X G x25.a) b25;have c_stops_of:=callee_of F26 (@ok_stops_of l.prog w K mg base c _ _ F26 T ) (PySem.W.mg_of X G x26.a) b26;have c_check_ways:=callee_of F27 (@ok_check_ways l.prog w K mg base c _ _ F27 T c_reached c_turned c_stops_of) (PySem.W.mg_of X G x27.a) b27;have c_steps_of:=callee_of F28 (@ok_steps_of l.prog w K mg base c _ _ F28 T ) (PySem.W.mg_of X G x28.a) b28;have c_Plan_leads_to:MCallee l.prog w K mg base 1 "leads_to" c.C_Plan ["self", "step"] (sp_Plan_leads_to K c):=⟨_,_,(@ok_Plan_leads_to l.prog w K mg base c _ _ F29 T ),ck.cls_Plan,⟨x29.a,x29.n,x29.i.k⟩,b29⟩;have m_Plan:Maker l.prog w K mg base 6 "Plan" c.C_Plan ["self", "rows", "nexts"] (sp_Plan_init K c):=⟨_,_,(@ok_Plan_init l.prog w K mg base c _ _ F30 T c_check_length c_is_row c_check_each c_check_nexts c_check_ways c_steps_of c_Plan_leads_to),PySem.W.mg_of X G y_Plan,⟨mk_Plan,x30.a,x30.n,kc_Plan⟩,b30⟩;have c_made:=callee_of F31 (@ok_made l.prog w K mg base c _ _ F31 T c_lists m_Plan) (PySem.W.mg_of X G x31.a) b31;have c_Ready_ready_at:MCallee l.prog w K mg base 1 "ready_at" c.C_Ready ["self", "place"] (sp_Ready_ready_at K):=⟨_,_,(@ok_Ready_ready_at l.prog w K mg base c _ _ F32 T ),ck.cls_Ready,⟨x32.a,x32.n,x32.i.k⟩,b32⟩;have c_set_by:=callee_of F33 (@ok_set_by l.prog w K mg base c _ _ F33 T ) (PySem.W.mg_of X G x33.a) b33;have c_spoils:=callee_of F34 (@ok_spoils l.prog w K mg base c _ _ F34 T c_set_by) (PySem.W.mg_of X G x34.a) b34;have c_deed_of:=callee_of F35 (@ok_deed_of l.prog w K mg base c _ _ F35 T ) (PySem.W.mg_of X G x35.a) b35;have c_does:=callee_of F36 (@ok_does l.prog w K mg base c _ _ F36 T c_deed_of) (PySem.W.mg_of X G x36.a) b36;have c_Ready_ready_behind:MCallee l.prog w K mg base 3 "ready_behind" c.C_Ready ["self", "place"] (sp_Ready_ready_behind K c):=⟨_,_,(@ok_Ready_ready_behind l.prog w K mg base c _ _ F37 T c_spoils c_does c_Ready_ready_at),ck.cls_Ready,⟨x37.a,x37.n,x37.i.k⟩,b37⟩;have c_Ready_ready_on:MCallee l.prog w K mg base 4 "ready_on" c.C_Ready ["self", "step"] (sp_Ready_ready_on K c):=⟨_,_,(@ok_Ready_ready_on l.prog w K mg base c _ _ F38 T c_Ready_ready_behind),ck.cls_Ready,⟨x38.a,x38.n,x38.i.k⟩,b38⟩;have c_traced:=callee_of F39 (@ok_traced l.prog w K mg base c _ _ F39 T ) (PySem.W.mg_of X G x39.a) b39;have c_way_to:=callee_of F40 (@ok_way_to l.prog w K mg base c _ _ F40 T c_traced) (PySem.W.mg_of X G x40.a) b40;have c_Ready_begins_unready:MCallee l.prog w K mg base 3 "begins_unready" c.C_Ready ["self", "step"] (sp_Ready_begins_unready K c):=⟨_,_,(@ok_Ready_begins_unready l.prog w K mg base c _ _ F41 T c_spoils),ck.cls_Ready,⟨x41.a,x41.n,x41.i.k⟩,b41⟩;have c_Ready_way_unready:MCallee l.prog w K mg base 4 "way_unready" c.C_Ready ["self", "place"] (sp_Ready_way_unready K c):=⟨_,_,(@ok_Ready_way_unready l.prog w K mg base c _ _ F42 T c_way_to c_Ready_ready_at c_Ready_begins_unready),ck.cls_Ready,⟨x42.a,x42.n,x42.i.k⟩,b42⟩;have c_Wanted_wanted_at:MCallee l.prog w K mg base 1 "wanted_at" c.C_Wanted ["self", "place"] (sp_Wanted_wanted_at K):=⟨_,_,(@ok_Wanted_wanted_at l.prog w K mg base c _ _ F43 T ),ck.cls_Wanted,⟨x43.a,x43.n,x43.i.k⟩,b43⟩;have c_Wanted_wanted_behind:MCallee l.prog w K mg base 2 "wanted_behind" c.C_Wanted ["self", "place"] (sp_Wanted_wanted_behind K c):=⟨_,_,(@ok_Wanted_wanted_behind l.prog w K mg base c _ _ F44 T c_Wanted_wanted_at),ck.cls_Wanted,⟨x44.a,x44.n,x44.i.k⟩,b44⟩;have c_Wanted_wanted_on:MCallee l.prog w K mg base 2 "wanted_on" c.C_Wanted ["self", "step"] (sp_Wanted_wanted_on K c):=⟨_,_,(@ok_Wanted_wanted_on l.prog w K mg base c _ _ F45 T c_Plan_leads_to c_Wanted_wanted_at),ck.cls_Wanted,⟨x45.a,x45.n,x45.i.k⟩,b45⟩;have c_followed:=callee_of F46 (@ok_followed l.prog w K mg base c _ _ F46 T c_Plan_leads_to) (PySem.W.mg_of X G x46.a) b46;have c_Plan_stops:MCallee l.prog w K mg base 2 "stops" c.C_Plan ["self"] (sp_Plan_stops K):=⟨_,_,(@ok_Plan_stops l.prog w K mg base c _ _ F47 T c_stops_of),ck.cls_Plan,⟨x47.a,x47.n,x47.i.k⟩,b47⟩;have c_Plan_steps_into:MCallee l.prog w K mg base 1 "steps_into" c.C_Plan ["self", "place"] (sp_Plan_steps_into K):=⟨_,_,(@ok_Plan_steps_into l.prog w K mg base c _ _ F48 T ),ck.cls_Plan,⟨x48.a,x48.n,x48.i.k⟩,b48⟩;have c_way_on:=callee_of F49 (@ok_way_on l.prog w K mg base c _ _ F49 T c_followed c_Plan_stops c_Plan_steps_into) (PySem.W.mg_of X G x49.a) b49;have c_Wanted_way_unwanted:MCallee l.prog w K mg base 4 "way_unwanted" c.C_Wanted ["self", "place"] (sp_Wanted_way_unwanted K c):=⟨_,_,(@ok_Wanted_way_unwanted l.prog w K mg base c _ _ F50 T c_followed c_way_on c_Wanted_wanted_at c_Plan_leads_to),ck.cls_Wanted,⟨x50.a,x50.n,x50.i.k⟩,b50⟩;have c_told:=callee_of F51 (@ok_told l.prog w K mg base c _ _ F51 T c_Ready_ready_at c_Ready_ready_behind c_Ready_ready_on c_Ready_way_unready c_Wanted_wanted_at c_Wanted_wanted_behind c_Wanted_wanted_on c_Wanted_way_unwanted) (PySem.W.mg_of X G x51.a) b51;have c_unwanted_ends:=callee_of F52 (@ok_unwanted_ends l.prog w K mg base c _ _ F52 T c_does c_spoils) (PySem.W.mg_of X G x52.a) b52;have c_unwanted_steps:=callee_of F53 (@ok_unwanted_steps l.prog w K mg base c _ _ F53 T c_unwanted_ends c_does c_Plan_steps_into) (PySem.W.mg_of X G x53.a) b53;have m_Wanted:Maker l.prog w K mg base 5 "Wanted" c.C_Wanted ["self", "plan", "deed"] (sp_Wanted_init K c):=⟨_,_,(@ok_Wanted_init l.prog w K mg base c _ _ F54 T c_unwanted_steps),PySem.W.mg_of X G y_Wanted,⟨mk_Wanted,x54.a,x54.n,kc_Wanted⟩,b54⟩;have c_pass_on:=callee_of F55 (@ok_pass_on l.prog w K mg base c _ _ F55 T ) (PySem.W.mg_of X G x55.a) b55;have c_unready_steps:=callee_of F56 (@ok_unready_steps l.prog w K mg base c _ _ F56 T c_pass_on) (PySem.W.mg_of X G x56.a) b56;have m_Ready:Maker l.prog w K mg base 3 "Ready" c.C_Ready ["self", "plan", "deed"] (sp_Ready_init K c):=⟨_,_,(@ok_Ready_init l.prog w K mg base c _ _ F57 T c_does c_spoils c_unready_steps),PySem.W.mg_of X G y_Ready,⟨mk_Ready,x57.a,x57.n,kc_Ready⟩,b57⟩;exact ok_law F58 T ck c_bag c_plan c_second c_deed c_made c_take c_told m_Wanted m_Ready
theorem walk{l:PySem.W.OpenLaw}{q:Program}{loose:List Str}{XP:(Str->Option Value)->Heap->Prop}{YP:World->Heap->Prop}{d:DefRec}{K:Params->PySem.W.Frag}(hn:l.most=some 63)(hdf:d.params.defaults=[])
  (hY:∀(w:World) (h:Heap),YP w h->(K w.params).In h)
  (F:∀(w:World) (mg:Str->Option Value) (fa:Addr) (h:Heap),(K w.params).In h->h.Ns mainGlobals mg->mg d.name=some (.ref fa) ->
   ∃fd:FuncData,(∀(s:Shared) (u:Value),BindsTo s fd ⟨[u],[]⟩ [("_law_script", u)])/\∀base:Heap,(K w.params).In base->base.Ns mainGlobals mg->FnOk l.prog w (K w.params) mg base CX0 9 fa fd ["_law_script"] (sp_law (K w.params))) :
  PySem.W.WalkO q loose XP YP l.row.toRowW d [] (fun f vs=>PySem.call f vs):=
 L2.walk_of (n:=63) (k:=9) (x := "_law_script") (CX:=fun _=>CX0) (sp:=fun w=>sp_law (K w.params)) hn (by decide) hdf ⟨rfl,by decide,by decide⟩ hY F (fun _ _ a ns hl hO hS=>RD.law_reading _ hl hO hS) fun _ _ _ _ _ z=>z
end PR
open PySem PySem.W PyProof.Rows
set_option maxRecDepth 100000 in
set_option maxHeartbeats 0 in
theorem PySem.Challenge.cw_oncedone_k45_two_deeds_by_turns_holds : PySem.Challenge.rw_oncedone_k45_two_deeds_by_turns.Holds := by
 refine HD.fin fun d hd hdf=>PR.walk (l:=HD.row) (K:=HD.K) rfl hdf (fun w h Y=>PySem.W.kIn_of Y) ?F
 intro w mg fa h KX G hmg;rw[hd]at hmg
 exact PR.all_mk KX G hmg
  (by kernel_rfl)
  (by kernel_rfl)
  (by kernel_rfl)
  (by kernel_rfl)
  (by kernel_rfl)
  (by kernel_rfl)
  (by kernel_rfl)
  (by kernel_rfl)
  (by kernel_rfl)
  (by kernel_rfl)
  (by kernel_rfl)
  (by kernel_rfl)
  (by kernel_rfl)
  (by kernel_rfl)
  (by kernel_rfl)
  (by kernel_rfl)
  (by kernel_rfl)
  (by kernel_rfl)
  (by kernel_rfl)
  (by kernel_rfl)
  (by kernel_rfl)
  (by kernel_rfl)
  (by kernel_rfl)
  (by kernel_rfl)
  (by kernel_rfl)
  (by kernel_rfl)
  (by kernel_rfl)
  (by kernel_rfl)
  (by kernel_rfl)
  (by kernel_rfl)
  (by kernel_rfl)
  (by kernel_rfl)
  (by kernel_rfl)
  (by kernel_rfl)
  (by kernel_rfl)
  (by kernel_rfl)
  (by kernel_rfl)
  (by kernel_rfl)
  (by kernel_rfl)
  (by kernel_rfl)
  (by kernel_rfl)
  (by kernel_rfl)
  (by kernel_rfl)
  (by kernel_rfl)
  (by kernel_rfl)
  (by kernel_rfl)
  ⟨⟨by kernel_rfl,by kernel_rfl,by kernel_rfl⟩,by kernel_rfl⟩
  ⟨⟨by kernel_rfl,by kernel_rfl,by kernel_rfl⟩,by kernel_rfl⟩
  ⟨⟨by kernel_rfl,by kernel_rfl,by kernel_rfl⟩,by kernel_rfl⟩
  ⟨⟨by kernel_rfl,by kernel_rfl,by kernel_rfl⟩,by kernel_rfl⟩
  ⟨⟨by kernel_rfl,by kernel_rfl,by kernel_rfl⟩,by kernel_rfl⟩
  ⟨⟨by kernel_rfl,by kernel_rfl,by kernel_rfl⟩,by kernel_rfl⟩
  ⟨⟨by kernel_rfl,by kernel_rfl,by kernel_rfl⟩,by kernel_rfl⟩
  ⟨⟨by kernel_rfl,by kernel_rfl,by kernel_rfl⟩,by kernel_rfl⟩
  ⟨⟨by kernel_rfl,by kernel_rfl,by kernel_rfl⟩,by kernel_rfl⟩
  ⟨⟨by kernel_rfl,by kernel_rfl,by kernel_rfl⟩,by kernel_rfl⟩
  ⟨⟨by kernel_rfl,by kernel_rfl,by kernel_rfl⟩,by kernel_rfl⟩
  ⟨⟨by kernel_rfl,by kernel_rfl,by kernel_rfl⟩,by kernel_rfl⟩
  ⟨⟨by kernel_rfl,by kernel_rfl,by kernel_rfl⟩,by kernel_rfl⟩
  ⟨⟨by kernel_rfl,by kernel_rfl,by kernel_rfl⟩,by kernel_rfl⟩
  ⟨⟨by kernel_rfl,by kernel_rfl,by kernel_rfl⟩,by kernel_rfl⟩
  ⟨⟨by kernel_rfl,by kernel_rfl,by kernel_rfl⟩,by kernel_rfl⟩
  ⟨⟨by kernel_rfl,by kernel_rfl,by kernel_rfl⟩,by kernel_rfl⟩
  ⟨⟨by kernel_rfl,by kernel_rfl,by kernel_rfl⟩,by kernel_rfl⟩
  ⟨⟨by kernel_rfl,by kernel_rfl,by kernel_rfl⟩,by kernel_rfl⟩
  ⟨⟨by kernel_rfl,by kernel_rfl,by kernel_rfl⟩,by kernel_rfl⟩
  ⟨⟨by kernel_rfl,by kernel_rfl,by kernel_rfl⟩,by kernel_rfl⟩
  ⟨⟨by kernel_rfl,by kernel_rfl,by kernel_rfl⟩,by kernel_rfl⟩
  ⟨⟨by kernel_rfl,by kernel_rfl,by kernel_rfl⟩,by kernel_rfl⟩
  ⟨⟨by kernel_rfl,by kernel_rfl,by kernel_rfl⟩,by kernel_rfl⟩
  ⟨⟨by kernel_rfl,by kernel_rfl,by kernel_rfl⟩,by kernel_rfl⟩
  ⟨⟨by kernel_rfl,by kernel_rfl,by kernel_rfl⟩,by kernel_rfl⟩
  ⟨⟨by kernel_rfl,by kernel_rfl,by kernel_rfl⟩,by kernel_rfl⟩
  ⟨⟨by kernel_rfl,by kernel_rfl,by kernel_rfl⟩,by kernel_rfl⟩
  ⟨⟨by kernel_rfl,by kernel_rfl,by kernel_rfl⟩,by kernel_rfl⟩
  ⟨⟨by kernel_rfl,by kernel_rfl,by kernel_rfl⟩,by kernel_rfl,by kernel_rfl⟩
  ⟨⟨by kernel_rfl,by kernel_rfl,by kernel_rfl⟩,by kernel_rfl,by kernel_rfl⟩
  ⟨⟨by kernel_rfl,by kernel_rfl,by kernel_rfl⟩,by kernel_rfl⟩
  ⟨⟨by kernel_rfl,by kernel_rfl,by kernel_rfl⟩,by kernel_rfl,by kernel_rfl⟩
  ⟨⟨by kernel_rfl,by kernel_rfl,by kernel_rfl⟩,by kernel_rfl⟩
  ⟨⟨by kernel_rfl,by kernel_rfl,by kernel_rfl⟩,by kernel_rfl⟩
  ⟨⟨by kernel_rfl,by kernel_rfl,by kernel_rfl⟩,by kernel_rfl⟩
  ⟨⟨by kernel_rfl,by kernel_rfl,by kernel_rfl⟩,by kernel_rfl⟩
  ⟨⟨by kernel_rfl,by kernel_rfl,by kernel_rfl⟩,by kernel_rfl,by kernel_rfl⟩
  ⟨⟨by kernel_rfl,by kernel_rfl,by kernel_rfl⟩,by kernel_rfl,by kernel_rfl⟩
  ⟨⟨by kernel_rfl,by kernel_rfl,by kernel_rfl⟩,by kernel_rfl⟩
  ⟨⟨by kernel_rfl,by kernel_rfl,by kernel_rfl⟩,by kernel_rfl⟩
  ⟨⟨by kernel_rfl,by kernel_rfl,by kernel_rfl⟩,by kernel_rfl,by kernel_rfl⟩
  ⟨⟨by kernel_rfl,by kernel_rfl,by kernel_rfl⟩,by kernel_rfl,by kernel_rfl⟩
  ⟨⟨by kernel_rfl,by kernel_rfl,by kernel_rfl⟩,by kernel_rfl,by kernel_rfl⟩
  ⟨⟨by kernel_rfl,by kernel_rfl,by kernel_rfl⟩,by kernel_rfl,by kernel_rfl⟩
  ⟨⟨by kernel_rfl,by kernel_rfl,by kernel_rfl⟩,by kernel_rfl,by kernel_rfl⟩
  ⟨⟨by kernel_rfl,by kernel_rfl,by kernel_rfl⟩,by kernel_rfl⟩
  ⟨⟨by kernel_rfl,by kernel_rfl,by kernel_rfl⟩,by kernel_rfl,by kernel_rfl⟩
  ⟨⟨by kernel_rfl,by kernel_rfl,by kernel_rfl⟩,by kernel_rfl,by kernel_rfl⟩
  ⟨⟨by kernel_rfl,by kernel_rfl,by kernel_rfl⟩,by kernel_rfl⟩
  ⟨⟨by kernel_rfl,by kernel_rfl,by kernel_rfl⟩,by kernel_rfl,by kernel_rfl⟩
  ⟨⟨by kernel_rfl,by kernel_rfl,by kernel_rfl⟩,by kernel_rfl⟩
  ⟨⟨by kernel_rfl,by kernel_rfl,by kernel_rfl⟩,by kernel_rfl⟩
  ⟨⟨by kernel_rfl,by kernel_rfl,by kernel_rfl⟩,by kernel_rfl⟩
  ⟨⟨by kernel_rfl,by kernel_rfl,by kernel_rfl⟩,by kernel_rfl,by kernel_rfl⟩
  ⟨⟨by kernel_rfl,by kernel_rfl,by kernel_rfl⟩,by kernel_rfl⟩
  ⟨⟨by kernel_rfl,by kernel_rfl,by kernel_rfl⟩,by kernel_rfl⟩
  ⟨⟨by kernel_rfl,by kernel_rfl,by kernel_rfl⟩,by kernel_rfl,by kernel_rfl⟩
  ⟨⟨by kernel_rfl,by kernel_rfl,by kernel_rfl⟩,by kernel_rfl⟩
  (by kernel_rfl)
  (by kernel_rfl)
  (by kernel_rfl)
  (by kernel_rfl)
  (by kernel_rfl)
  (by kernel_rfl)
  (by kernel_rfl)
  (by kernel_rfl)
  (by kernel_rfl)
  (by kernel_rfl)
  (by kernel_rfl)
  (by kernel_rfl)
  (by kernel_rfl)
  (by kernel_rfl)
  (by kernel_rfl)
  (by kernel_rfl)
  (by kernel_rfl)
  (by kernel_rfl)
  (by kernel_rfl)
  (by kernel_rfl)
  (by kernel_rfl)
