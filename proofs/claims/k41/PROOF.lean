import PyProof.Rows.All
import Wide.All
import OpenK.AllK
import Wide.FinOn
import Lean
import PyProof.EqAt
import PyProof.EqKinds
import PyProof.TupleCall
import PySem.Challenge.RW_ferry_k41_takers_by_lives
set_option Elab.async false
set_option linter.all false
set_option maxHeartbeats 4000000
set_option maxRecDepth 100000
noncomputable section
namespace L2
open PySem PySem.Spec PyProof.Rows
abbrev Key:=Sum Int Str
def keyIs:Key->Value->Bool
 | .inl k,v=>Value.isInt k v
 | .inr x,v=>Value.isStrOf x v
def qKm(w:World):Key->Int
 | .inl k=>hashInt k
 | .inr x=>hashStr w x
theorem keyIs_shape:∀ {k:Key} {v:Value},keyIs k v=true->(∃ i t,k=Sum.inl i/\v=Value.int i t)\/(∃ x t,k=Sum.inr x/\v=Value.str x t)
 | .inl i,v,h=>by
  obtain ⟨t,e⟩:=Value.isInt_shape (k:=i) (v:=v) h;exact .inl ⟨i,t,rfl,e⟩
 | .inr x,v,h=>by
  obtain ⟨t,e⟩:=Value.isStrOf_shape (x:=x) (v:=v) h;exact .inr ⟨x,t,rfl,e⟩
theorem qKl(i:Int)(t:Tok):keyIs (.inl i) (.int i t)=true:=by simp[keyIs,Value.isInt]
theorem qKk(x:Str)(t:Tok):keyIs (.inr x) (.str x t)=true:=by simp[keyIs,Value.isStrOf]
theorem qKj(a b:Int):decide ((Sum.inl a:Key)=Sum.inl b)=(a == b):=by
 by_cases e:a=b
 ·subst e;simp
 ·have h:¬ (Sum.inl a:Key)=Sum.inl b:=fun q=>e (Sum.inl.inj q);rw[decide_eq_false h];exact (beq_eq_false_iff_ne.mpr e).symm
theorem qKe(a b:Str):decide ((Sum.inr a:Key)=Sum.inr b)=decide (a=b):=by
 by_cases e:a=b
 ·subst e;simp
 ·have h:¬ (Sum.inr a:Key)=Sum.inr b:=fun q=>e (Sum.inr.inj q);rw[decide_eq_false h,decide_eq_false e]
theorem qKi(a:Int)(b:Str):decide ((Sum.inl a:Key)=Sum.inr b)=false:=decide_eq_false (fun q=>nomatch q)
theorem qKf(a:Str)(b:Int):decide ((Sum.inr a:Key)=Sum.inl b)=false:=decide_eq_false (fun q=>nomatch q)
def mixKind(prog:Program)(w:World):PySem.KeyKind prog w Key where
 is:=keyIs
 hash:=qKm w
 inj:=fun v a b ha hb=>by
  rcases keyIs_shape ha with⟨i,t,rfl,rfl⟩ | ⟨x,t,rfl,rfl⟩
  ·rcases keyIs_shape hb with⟨j,u,rfl,e⟩ | ⟨y,u,rfl,e⟩
   ·injection e with e1 _;rw[e1]
   ·exact nomatch e
  ·rcases keyIs_shape hb with⟨j,u,rfl,e⟩ | ⟨y,u,rfl,e⟩
   ·exact nomatch e
   ·injection e with e1 _;rw[e1]
 byValue:=fun k v h=>by
  rcases keyIs_shape h with⟨i,t,rfl,rfl⟩ | ⟨x,t,rfl,rfl⟩ <;> rfl
 pyHash:=fun hv h=>by
  rcases keyIs_shape hv with⟨i,t,rfl,rfl⟩ | ⟨x,t,rfl,rfl⟩
  ·exact wpAny_pyHash_int h
  ·exact wpAny_pyHash_str h
 eqBool:=fun hu hv h=>by
  rcases keyIs_shape hu with⟨i,t,rfl,rfl⟩ | ⟨x,t,rfl,rfl⟩
  ·rcases keyIs_shape hv with⟨j,u,rfl,rfl⟩ | ⟨y,u,rfl,rfl⟩
   ·rw[qKj] at h;exact wpAny_eqBool_int h
   ·rw[qKi] at h;exact SeqAt.EqAt.int_str i t y u _ _ _ _ h
  ·rcases keyIs_shape hv with⟨j,u,rfl,rfl⟩ | ⟨y,u,rfl,rfl⟩
   ·rw[qKf] at h;exact SeqAt.EqAt.str_int x t j u _ _ _ _ h
   ·rw[qKe] at h;exact wpAny_eqBool_str h
 «strs»:=fun k x t v h=>by
  rcases keyIs_shape h with⟨i,u,rfl,e⟩ | ⟨y,u,rfl,e⟩
  ·exact nomatch e
  ·injection e with e1 _;subst e1;cases v <;> rfl
theorem qJI(prog:Program)(w:World)(i:Int)(t:Tok):(mixKind prog w).is (.inl i) (.int i t)=true:=qKl i t
theorem qJH(prog:Program)(w:World)(x:Str)(t:Tok):(mixKind prog w).is (.inr x) (.str x t)=true:=qKk x t
inductive V where
 |non | bl (b:Bool) | int (i:Int) | str (x:Str) | byt (b:Array UInt8) | flt (b:UInt64) | ref (a:Addr) | ty (n:String)
 deriving DecidableEq
def RelV:V->Value->Prop
 | .non,u=>u=Value.none
 | .bl b,u=>u=Value.bool b
 | .int i,u=>∃ t,u=Value.int i t
 | .str x,u=>∃ t,u=Value.str x t
 | .byt b,u=>∃ t,u=Value.bytes b t
 | .flt b,u=>∃ t,u=Value.float b t
 | .ref a,u=>u=Value.ref a
 | .ty n,u=>u=Value.type n
abbrev Vals:List V->List Value->Prop:=Paired RelV
theorem Vals.length(r:Vals xs us):xs.length=us.length:=Paired.length r
theorem Vals.get:∀ {xs:List V} {us:List Value} {i:Nat} {x:V},Vals xs us->xs[i]?=some x->∃ u,us[i]?=some u/\RelV x u
 |_,_,_,_,.nil,e=>by simp at e
 |_,_,0,_,.cons r _,e=>by simp at e;subst e;exact⟨_,rfl,r⟩
 |_,_,i+1,x,.cons _ t,e=>by
  obtain ⟨u,h1,h2⟩:=Vals.get (i:=i) (x:=x) t (by simpa using e)
  exact⟨u,by simpa using h1,h2⟩
theorem Vals.set(r:RelV x u):∀ {xs:List V} {us:List Value} (i:Nat),Vals xs us->Vals (xs.set i x) (us.set i u)
 |_,_,_,.nil=>.nil
 |_,_,0,.cons _ t=>.cons r t
 |_,_,i+1,.cons q t=>.cons q (Vals.set r i t)
theorem Vals.append:∀ {xs ys:List V} {us ws:List Value},Vals xs us->Vals ys ws->Vals (xs++ys) (us++ws)
 |_,_,_,_,.nil,s=>s
 |_,_,_,_,.cons r t,s=>.cons r (Vals.append t s)
theorem Vals.take:∀ {xs:List V} {us:List Value} (n:Nat),Vals xs us->Vals (xs.take n) (us.take n)
 |_,_,0,_=>.nil
 |_,_,_+1,.nil=>.nil
 |_,_,n+1,.cons r t=>.cons r (Vals.take n t)
theorem Vals.drop:∀ {xs:List V} {us:List Value} (n:Nat),Vals xs us->Vals (xs.drop n) (us.drop n)
 |_,_,0,r=>r
 |_,_,_+1,.nil=>.nil
 |_,_,n+1,.cons _ t=>Vals.drop n t
def RelO:Option V->Option Value->Prop
 |some v,some u=>RelV v u
 |none,none=>True
 |_,_=>False
def KV{κ:Type}:List (κ × V)->List (κ × Value)->Prop:=Paired fun (p:κ × V) (q:κ × Value)=>p.1=q.1/\RelV p.2 q.2
def kV:Key->V
 | .inl i=>.int i
 | .inr x=>.str x
inductive HO where
 |lst (xs:List V)
 |tup (xs:List V)
 |dK (kvs:List (Key × V)) | dT (kvs:List (List Key × V))
 |set (S:Int->Bool) (n:Nat)
 |ins (C dx:Addr) (fs:List (Str × V))
 |own (x:Addr)
 |xd (fs:List (Str × V))
 |met (f x:Addr)
 |rng (lo hi:Int)
 |frz (o:Obj) (u:HO)
 |tbl (ps:Array Value)
 |ext (φ:Heap->Prop)
abbrev Hp:=Addr->Option HO
def upd(H:Hp)(a:Addr)(o:HO):Hp:=fun b=>if b=a then some o else H b
theorem qI:upd H a o a=some o:=by unfold upd;rw[if_pos rfl]
theorem qE(h:b≠a):upd H a o b=H b:=by unfold upd;rw[if_neg h]
theorem upd_upd:upd (upd H a o) a u=upd H a u:=by
 funext b;unfold upd;split <;> rfl
theorem ne_of_none{H:Hp}(h:H a=some o)(h':H b=none):a≠b:=by
 intro e;subst e;rw[h] at h';cases h'
section
variable (P:Program)(w:World)
def ObjOk(H:Hp)(h:Heap)(a:Addr):HO->Prop
 | .lst xs=>xs.length<=sizeLine/\∃ (its:List Value) (n:Nat),Vals xs its/\h.get? a=some { cls:=.type "list",data:=.seq its.toArray n }
 | .tup xs=>xs.length<=sizeLine/\∃ its:List Value,Vals xs its/\IsTup h a its.toArray
 | .dK kvs=>kvs.length<=sizeLine/\(a == sysModules)=false/\∃ vs,KV kvs vs/\h.DictOf (mixKind P w) a vs
 | .dT kvs=>kvs.length<=sizeLine/\(a == sysModules)=false/\∃ xs:List (List Key × Addr × Value),
   Paired (fun (p:List Key × V) (q:List Key × Addr × Value)=>p.1=q.1/\H q.2.1=some (.tup (p.1.map kV))/\RelV p.2 q.2.2) kvs xs /\
   ∃ o es ep,h.get? a=some o/\o.ExactDict/\o.data=.dict es ep/\es.toList=xs.map (entryOfKey (tupleKind (mixKind P w)))/\(xs.map (·.1)).Nodup
 | .set S n=>h.SetOf (intKind P w) a S n
 | .ins C dx fs=>H dx=some (.own a)/\fs.length<=1000/\dx≠a/\h.get? a=some (PySem.W.instObj C dx) /\
   ∃ mA,h.Ns1 dx mA/\(∀ f,RelO (fs.lookup f) (mA f))/\PySem.Within mA (fs.map (·.1))
 | .own _=>∃ o,h.get? a=some o
 | .xd fs=>∃ mA,h.Ns1 a mA/\∀ f,RelO (fs.lookup f) (mA f)
 | .rng lo hi=>∃ t u v,h.get? a=some { cls:=.type "range",data:=.fields #[.int lo t,.int hi u,.int 1 v] }
 | .frz o u=>h.get? a=some o/\ObjOk H h a u
 | .tbl ps=>h.get? a=some { cls:=.none,data:=.fields ps }
 | .met f x=>h.get? a=some (PySem.W.methodObj (.ref f) (.ref x))
 | .ext φ=>φ h/\(∃ o,h.get? a=some o)/\∀ h1 h2:Heap,φ h1->(∀ o,h1.get? a=some o->h2.get? a=some o)->φ h2
def HOk(H:Hp)(h:Heap):Prop:=∀ a o,H a=some o->ObjOk P w H h a o
end
section
variable {P:Program}{w:World}{H H':Hp}{h h':Heap}{a:Addr}{o:HO}
theorem ObjOk.lt(x:ObjOk P w H h a o):a<h.objs.size:=by
 cases o with
 |lst xs=>obtain ⟨_,_,_,_,e⟩:=x;exact Heap.lt_size e
 |tup xs=>obtain ⟨_,_,_,p⟩:=x;exact p.lt
 |dK kvs=>obtain ⟨_,_,_,_,o,_,_,e,_⟩:=x;exact Heap.lt_size e
 |dT kvs=>obtain ⟨_,_,_,_,o,_,_,e,_⟩:=x;exact Heap.lt_size e
 |set S n=>obtain ⟨o,_,_,_,e,_⟩:=x;exact Heap.lt_size e
 |ins C dx fs=>obtain ⟨_,_,_,e,_⟩:=x;exact Heap.lt_size e
 |own y=>obtain ⟨_,e⟩:=x;exact Heap.lt_size e
 |xd fs=>obtain ⟨_,⟨_,_,_,e,_⟩,_⟩:=x;exact Heap.lt_size e
 |rng lo hi=>obtain ⟨_,_,_,e⟩:=x;exact Heap.lt_size e
 |frz ob u=>obtain ⟨e,_⟩:=x;exact Heap.lt_size e
 |tbl ps=>exact Heap.lt_size (show h.get? a=some _ from x)
 |met f y=>exact Heap.lt_size (show h.get? a=some _ from x)
 |ext φ=>obtain ⟨_,⟨_,e⟩,_⟩:=x;exact Heap.lt_size e
theorem Paired.mapP{α β:Type}{F G:α->β->Prop}:∀ {l₁:List α} {l₂:List β},Paired F l₁ l₂->(∀ a b,F a b->G a b)->Paired G l₁ l₂
 |_,_,.nil,_=>.nil
 |_,_,.cons r t,f=>.cons (f _ _ r) (Paired.mapP t f)
theorem ObjOk.stay(x:ObjOk P w H h a o)(k:∀ b u,(b=a\/H b=some (.own a))->h.get? b=some u->h'.get? b=some u)
  (ho:∀ b,H b=some (.own a)->H' b=some (.own a)) (ht:∀ b xs,H b=some (.tup xs)->H' b=some (.tup xs)):ObjOk P w H' h' a o:=by
 induction o with
 |lst xs=>obtain ⟨z,its,n,r,e⟩:=x;exact⟨z,its,n,r,k _ _ (.inl rfl) e⟩
 |tup xs=>obtain ⟨z,its,r,ob,e,c⟩:=x;exact⟨z,its,r,ob,k _ _ (.inl rfl) e,c⟩
 |dK kvs=>obtain ⟨z,y,vs,r,ob,es,ep,e,c⟩:=x;exact⟨z,y,vs,r,ob,es,ep,k _ _ (.inl rfl) e,c⟩
 |dT kvs=>
  obtain ⟨z,y,xs,r,ob,es,ep,e,c⟩:=x
  exact⟨z,y,xs,Paired.mapP r fun p q z=>⟨z.1,ht _ _ z.2.1,z.2.2⟩,ob,es,ep,k _ _ (.inl rfl) e,c⟩
 |set S n=>obtain ⟨ob,es,ep,t,e,c⟩:=x;exact⟨ob,es,ep,t,k _ _ (.inl rfl) e,c⟩
 |ins C dx fs=>
  obtain ⟨d,z,ne,e,mA,⟨od,es,ep,e2,c⟩,r⟩:=x
  exact⟨ho _ d,z,ne,k _ _ (.inl rfl) e,mA,⟨od,es,ep,k _ _ (.inr d) e2,c⟩,r⟩
 |own y=>obtain ⟨ob,e⟩:=x;exact⟨ob,k _ _ (.inl rfl) e⟩
 |xd fs=>obtain ⟨mA,⟨od,es,ep,e,c⟩,r⟩:=x;exact⟨mA,⟨od,es,ep,k _ _ (.inl rfl) e,c⟩,r⟩
 |rng lo hi=>obtain ⟨t,u,v,e⟩:=x;exact⟨t,u,v,k _ _ (.inl rfl) e⟩
 |frz ob u ih=>obtain ⟨e,q⟩:=x;exact⟨k _ _ (.inl rfl) e,ih q⟩
 |tbl ps=>have e:h.get? a=some { cls:=.none,data:=.fields ps }:=x;show h'.get? a=some { cls:=.none,data:=.fields ps };exact k a _ (.inl rfl) e
 |met f y=>have e:h.get? a=some (PySem.W.methodObj (.ref f) (.ref y)):=x;show h'.get? a=some (PySem.W.methodObj (.ref f) (.ref y));exact k a _ (.inl rfl) e
 |ext φ=>obtain ⟨p,⟨o,e⟩,st⟩:=x;exact⟨st _ _ p fun o q=>k _ _ (.inl rfl) q,⟨o,k _ _ (.inl rfl) e⟩,st⟩
theorem HOk.lt(x:HOk P w H h)(e:H a=some o):a<h.objs.size:=(x a o e).lt
theorem HOk.fresh(x:HOk P w H h)(e:h.objs.size<=a):H a=none:=by
 cases q:H a with
 |none=>rfl
 |some u=>exact absurd (Nat.lt_of_lt_of_le (x.lt q) e) (Nat.lt_irrefl _)
theorem HOk.kept(x:HOk P w H h)(k:∀ b u,h.get? b=some u->h'.get? b=some u):HOk P w H h':=fun a o e=>
 (x a o e).stay (fun b u _ q=>k b u q) (fun _ q=>q) fun _ _ q=>q
theorem HOk.laid(x:HOk P w H h)(k:∀ b u,h.get? b=some u->h'.get? b=some u)(hp:h.objs.size<=a)(new:ObjOk P w (upd H a o) h' a o):HOk P w (upd H a o) h':=fun b u e=>by
 have hn:=x.fresh hp
 by_cases hb:b=a
 ·subst hb;rw[qI] at e;cases e;exact new
 ·rw[qE hb] at e;exact (x b u e).stay (fun c v _ q=>k c v q) (fun c q=>by rw[qE (ne_of_none q hn)];exact q) fun c xs q=>by rw[qE (ne_of_none q hn)];exact q
end
def Rd(H:Hp)(a:Addr)(u:HO):Prop:=H a=some u\/∃ o,H a=some (.frz o u)
theorem Rd.ok(r:Rd H a u)(x:HOk P w H h):ObjOk P w H h a u:=by
 rcases r with r | ⟨o,r⟩
 ·exact x a u r
 ·obtain ⟨_,q⟩:=x a _ r;exact q
def Mut:Option HO->Prop
 |some (.lst _)=>True
 |some (.dK _)=>True
 |some (.dT _)=>True
 |some (.set _ _)=>True
 |some (.ins _ _ _)=>True
 |some (.ext _)=>True
 |_=>False
section
variable {P:Program}{w:World}{H:Hp}{h h':Heap}{x e:Addr}{o':HO}
theorem HOk.write(ok:HOk P w H h)(mu:Mut (H x))(he:e=x\/H e=some (.own x))(k:∀ b u,b≠e->h.get? b=some u->h'.get? b=some u)(heo:∃ u,h'.get? e=some u)
  (new:ObjOk P w (upd H x o') h' x o'):HOk P w (upd H x o') h':=fun b u q=>by
 have nown:∀ c y,H c=some (.own y)->c≠x:=fun c y r z=>by subst z;rw[r] at mu;exact mu
 have ntup:∀ c xs,H c=some (.tup xs)->c≠x:=fun c xs r z=>by subst z;rw[r] at mu;exact mu
 by_cases hb:b=x
 ·subst hb;rw[qI] at q;cases q;exact new
 ·rw[qE hb] at q
  by_cases hbe:b=e
  ·have q':H b=some (.own x):=by
    rcases he with z | z
    ·exact absurd (hbe.trans z) hb
    ·rw[hbe];exact z
   rw[q] at q';cases q';obtain ⟨v,hv⟩:=heo
   exact⟨v,by rw[hbe];exact hv⟩
  ·refine (ok b u q).stay (fun c v hc r=>k c v ?_ r) (fun c r=>by rw[qE (nown c b r)];exact r) fun c xs r=>by rw[qE (ntup c xs r)];exact r
   rcases hc with rfl | hc
   ·exact hbe
   ·rintro rfl
    rcases he with z | z
    ·exact nown c b hc z
    ·rw[hc] at z;cases z;exact hb rfl
end
structure Un (fs ex:List Addr) (H H':Hp) (h h':Heap):Prop where
 keep:∀ b o,h.get? b=some o->H b=none->b∉fs->b∉ex->h'.get? b=some o
 slot:∀ b o,h.get? b=some o->H b=none->b∈fs->b∉ex->∃ sl,h'.get? b=some { o with slots:=sl }
 free:∀ b o,h.get? b=some o->H b=none->b∉ex->H' b=none
 there:∀ b o,h.get? b=some o->b∉ex->∃ o',h'.get? b=some o'
 tups:∀ b xs,H b=some (.tup xs)->H' b=some (.tup xs)
 frzs:∀ b o u,H b=some (.frz o u)->H' b=some (.frz o u)
 tbls:∀ b ps,H b=some (.tbl ps)->∃ more,H' b=some (.tbl (ps++more))
section
variable {fs fs' ex ex':List Addr}{H H1 H2:Hp}{h h1 h2 h':Heap}{a x e:Addr}{o:HO}
theorem Un.any(u:Un fs ex H H1 h h1)(q:h.get? b=some ob)(n:H b=none)(hx:b∉ex):∃ sl,h1.get? b=some { ob with slots:=sl }:=by
 by_cases hb:b∈fs
 ·exact u.slot b ob q n hb hx
 ·exact⟨ob.slots,u.keep b ob q n hb hx⟩
theorem Un.trans(a:Un fs ex H H1 h h1)(b:Un fs ex H1 H2 h1 h2):Un fs ex H H2 h h2 where
 keep:=fun c ob q n hc hx=>b.keep c ob (a.keep c ob q n hc hx) (a.free c ob q n hx) hc hx
 slot:=fun c ob q n hc hx=>by
  obtain ⟨sl,e1⟩:=a.slot c ob q n hc hx;obtain ⟨sl',e2⟩:=b.slot c _ e1 (a.free c ob q n hx) hc hx
  exact⟨sl',e2⟩
 free:=fun c ob q n hx=>by
  obtain ⟨o',e1⟩:=a.there c ob q hx;exact b.free c o' e1 (a.free c ob q n hx) hx
 there:=fun c ob q hx=>by
  obtain ⟨o',e1⟩:=a.there c ob q hx;exact b.there c o' e1 hx
 tups:=fun c xs q=>b.tups c xs (a.tups c xs q)
 frzs:=fun c ob xs q=>b.frzs c ob xs (a.frzs c ob xs q)
 tbls:=fun c ps q=>by
  obtain ⟨m1,e1⟩:=a.tbls c ps q;obtain ⟨m2,e2⟩:=b.tbls c _ e1
  exact⟨m1++m2,by rw[e2,Array.append_assoc]⟩
theorem Un.kept(k:∀ b u,h.get? b=some u->h'.get? b=some u):Un fs ex H H h h':=
 ⟨fun b ob q _ _ _=>k b ob q,fun b ob q _ _ _=>⟨ob.slots,k b ob q⟩,fun _ _ _ n _=>n,fun b ob q _=>⟨ob,k b ob q⟩,fun _ _ q=>q,fun _ _ _ q=>q,fun _ ps q=>⟨#[],by rw[q];simp⟩⟩
theorem Un.refl:Un fs ex H H h h:=Un.kept fun _ _ q=>q
theorem Un.laid(k:∀ b u,h.get? b=some u->h'.get? b=some u)(hp:h.objs.size<=a)(hn:H a=none):Un fs ex H (upd H a o) h h' where
 keep:=fun b u q _ _ _=>k b u q
 slot:=fun b u q _ _ _=>⟨u.slots,k b u q⟩
 free:=fun b u q n _=>by rw[qE (Nat.ne_of_lt (Nat.lt_of_lt_of_le (Heap.lt_size q) hp))];exact n
 there:=fun b u q _=>⟨u,k b u q⟩
 tups:=fun b xs q=>by rw[qE (ne_of_none q hn)];exact q
 frzs:=fun b u xs q=>by rw[qE (ne_of_none q hn)];exact q
 tbls:=fun b ps q=>⟨#[],by rw[qE (ne_of_none q hn),q];simp⟩
theorem Un.write(mu:Mut (H x))(he:e=x\/H e=some (.own x))(k:∀ b u,b≠e->h.get? b=some u->h'.get? b=some u)(heo:∃ u,h'.get? e=some u):Un fs ex H (upd H x o) h h':=by
 have hx:∀ b,H b=none->b≠x:=fun b n z=>by subst z;rw[n] at mu;exact mu
 have hb:∀ b,H b=none->b≠e:=fun b n z=>by
  subst z;rcases he with r | r
  ·exact hx b n r
  ·rw[n] at r;cases r
 have hm:∀ b u,H b=some u->¬ Mut (some u)->b≠x:=fun b u q nm z=>by subst z;rw[q] at mu;exact nm mu
 refine⟨fun b u q n _ _=>k b u (hb b n) q,fun b u q n _ _=>⟨u.slots,k b u (hb b n) q⟩,fun b u q n _=>by rw[qE (hx b n)];exact n,fun b u q _=>?_,
  fun b xs q=>by rw[qE (hm b _ q fun z=>z)];exact q,fun b u xs q=>by rw[qE (hm b _ q fun z=>z)];exact q,fun b ps q=>⟨#[],by rw[qE (hm b _ q fun z=>z),q];simp⟩⟩
 by_cases hbe:b=e
 ·subst hbe;exact heo
 ·exact⟨u,k b u hbe q⟩
theorem Un.mono(u:Un fs ex H H1 h h1)(hs:∀ b∈fs,b∈fs')(hx:∀ b∈ex,b∈ex'):Un fs' ex' H H1 h h1:=
 ⟨fun b ob q n hb he=>u.keep b ob q n (fun z=>hb (hs b z)) fun z=>he (hx b z),fun _ _ q n _ he=>u.any q n fun z=>he (hx _ z),fun b ob q n he=>u.free b ob q n fun z=>he (hx b z),fun b ob q he=>u.there b ob q fun z=>he (hx b z),u.tups,u.frzs,u.tbls⟩
end
def trk(h:Heap)(H:Hp):List Addr:=(List.range h.objs.size).filter fun a=>(H a).isSome
def vG(h:Heap)(H:Hp):Heap:=PySem.W.hideAll h (trk h H)
theorem qL7(h:Heap)(H:Hp):(vG h H).objs.size=h.objs.size:=PySem.W.hideAll_size _ _
theorem qL8(e:h.get? b=some o)(n:H b=none):(vG h H).get? b=some o:=
 PySem.W.hideAll_get _ e fun hm=>by
  have q:(H b).isSome=true:=(List.mem_filter.mp hm).2;rw[n] at q;simp at q
theorem qHh(e:(vG h H).get? b=some o):h.get? b=some o/\H b=none:=by
 have e':h.get? b=some o:=PySem.W.of_hideAll (trk h H) e;refine⟨e',?_⟩;cases q:H b with
 |none=>rfl
 |some x=>have hm:b∈trk h H:=List.mem_filter.mpr ⟨List.mem_range.mpr (Heap.lt_size e'),by simp[q]⟩;have z:(vG h H).get? b=none:=PySem.W.hideAll_none (trk h H) hm;rw[z] at e;cases e
def qQ6(g h:Heap)(L:Addr):List (Addr × Obj):=(List.range h.objs.size).filterMap fun a=>if a=L\/(g.get? a).isSome=true then none else (h.get? a).map fun o=>(a,o)
def qG(g h:Heap)(L d:Addr):List (Addr × Obj):=(qQ6 g h L).filter fun p=>decide (p.1≠d)
structure Mod (K:PySem.W.Frag) (mg:Str->Option Value) (base:Heap):Prop where
 kin:K.In base
 glob:base.Ns mainGlobals mg
 blt:∃ mb,base.Ns builtinsNs mb/\∀ x:Str,x≠"__name__"->mb x=bootBuiltins x
 nolimit:base.NoLimit
structure Cx where
 prog:Program
 w:World
 K:PySem.W.Frag
 mg:Str->Option Value
 base:Heap
 A:Around
 N:List Str
 s₀:Shared
 H₀:Hp
 env:Env
 outer:List Env
 stack:List Env
 ex:List Addr
 fn:Str->Bool
 calm:Bool
 pn:List (Addr × Obj)
 xe:Value->Shared->Prop
def frs(l:List Env):List Addr:=l.filterMap (·.frame)
abbrev Cx.fs(X:Cx):List Addr:=frs X.outer
def Vis(sc:Scope)(x:Str):Prop:=sc.names.lookup x=some .local\/sc.names.lookup x=some .cell\/sc.names.lookup x=some .free
def Loc(sc:Scope)(x:Str):Prop:=sc.names.lookup x=some .local\/sc.names.lookup x=some .cell
def Look(env:Env)(h:Heap)(m:Str->Option Value)(x:Str)(u:Value):Prop:=
 (env.kindOf x=some .local/\m x=some u)\/((env.kindOf x=some .cell\/env.kindOf x=some .free)/\∃ c,env.cells.lookup x=some c/\h.IsCell c (some u))
structure Cx.Ok (X:Cx):Prop where
 mod:Mod X.K X.mg X.base
 kind:X.env.scope.kind=.function
 glob:X.env.globals=mainGlobals
 blt:X.env.builtins=builtinsNs
 above:X.s₀.heap.objs.size<=X.env.locals
 inj:∀ x y c,X.env.cells.lookup x=some c->X.env.cells.lookup y=some c->x=y
 has:∀ x,(X.env.kindOf x=some .cell\/X.env.kindOf x=some .free)->∃ c,X.env.cells.lookup x=some c
 cab:∀ x c,X.fn x=true->X.env.cells.lookup x=some c->X.s₀.heap.objs.size<=c
 hd:X.calm=true->X.A.handled=none
 frames:X.A.frames=some X.stack
 stk:X.stack=X.outer\/(X.stack=X.env::X.outer/\X.env.frame=some X.env.locals)
 exf:∀ b∈X.ex,b≠X.env.locals/\∀ x c,X.env.cells.lookup x=some c->c≠b
 bs:∀ b o,X.base.get? b=some o->X.s₀.heap.get? b=some o/\X.H₀ b=none
 bsz:X.base.objs.size<=X.s₀.heap.objs.size
 noex:∀ b o,X.base.get? b=some o->b∉X.ex
 exfs:∀ b∈X.ex,b∉X.fs
 funs:X.s₀.heap.FunFrames X.base X.outer
 frf:∀ b∈X.fs,X.H₀ b=none
structure Inv (X:Cx) (pins:List (Addr × Obj)) (U:List (Option V)) (H:Hp) (s:Shared):Prop where
 ok:X.Ok
 os:s.os=X.s₀.os
 bare:AllBare s.gens
 base:Un X.fs X.ex X.H₀ H X.s₀.heap s.heap
 loc:∃ m,s.heap.Ns X.env.locals m/\∀ (i:Nat) (x:Str) (v:V),X.N[i]?=some x->U[i]?=some (some v)->Vis X.env.scope x->∃ u,RelV v u/\Look X.env s.heap m x u
 cell:∀ x c,X.env.cells.lookup x=some c->∃ v,s.heap.IsCell c v
 free:H X.env.locals=none
 freeC:∀ x c,X.env.cells.lookup x=some c->H c=none
 pin:∀ p∈X.pn++pins,s.heap.get? p.1=some p.2/\H p.1=none/\p.1≠X.env.locals/\p.1∉X.fs/\∀ v,p.2.data≠.cell v
 hok:HOk X.prog X.w H s.heap
 len:U.length=X.N.length
section
variable {X:Cx}{pins:List (Addr × Obj)}{U:List (Option V)}{H H':Hp}{s:Shared}{h':Heap}
theorem Cx.Ok.nofr(ok:X.Ok)(e:X.base.get? b=some o):b∉X.fs:=fun hb=>by
 have:=(ok.funs.mem hb).1
 rw[e] at this;cases this
theorem Inv.bs(I:Inv X pins U H s):∀ b o,X.base.get? b=some o->s.heap.get? b=some o/\H b=none:=fun b o e=>
 ⟨I.base.keep b o (I.ok.bs b o e).1 (I.ok.bs b o e).2 (I.ok.nofr e) (I.ok.noex b o e),I.base.free b o (I.ok.bs b o e).1 (I.ok.bs b o e).2 (I.ok.noex b o e)⟩
theorem Inv.bk(I:Inv X pins U H s):∀ b o,X.base.get? b=some o->s.heap.get? b=some o:=fun b o e=>(I.bs b o e).1
theorem Inv.mod(I:Inv X pins U H s):Mod X.K X.mg X.base:=I.ok.mod
theorem Inv.kIn(I:Inv X pins U H s):X.K.In s.heap:=I.ok.mod.kin.keeps I.bk
theorem Inv.lt(I:Inv X pins U H s):X.env.locals<s.heap.objs.size:=let ⟨_,hn,_⟩:=I.loc;hn.lt
theorem Inv.sz(I:Inv X pins U H s):X.s₀.heap.objs.size<=s.heap.objs.size:=Nat.le_trans I.ok.above (Nat.le_of_lt I.lt)
theorem Inv.nofs(I:Inv X pins U H s)(h:s.heap.objs.size<=a):a∉X.fs:=fun hb=>by
 obtain ⟨_,o,ho,_⟩:=I.ok.funs.mem hb;exact absurd (Nat.lt_of_lt_of_le (Heap.lt_size ho) (Nat.le_trans I.sz h)) (Nat.lt_irrefl _)
theorem Inv.cne(I:Inv X pins U H s):∀ x c,X.env.cells.lookup x=some c->c≠X.env.locals:=fun x c e z=>by
 obtain ⟨v,o,ho,hd⟩:=I.cell x c e;obtain ⟨m,⟨o',es,ep,ho',hd',_⟩,_⟩:=I.loc;rw[z,ho'] at ho;cases ho;rw[hd'] at hd;cases hd
theorem Inv.funs(I:Inv X pins U H s):s.heap.FunFrames X.base X.outer:=by
 have all:∀ (l:List Env),(∀ b∈frs l,b∈X.fs)->X.s₀.heap.FunFrames X.base l->s.heap.FunFrames X.base l:=by
  intro l
  induction l with
  |nil=>intro _ _;trivial
  |cons env r ih=>
   intro hs hl;obtain ⟨hk,⟨L,o,hf,hn,ho,hd⟩,hr⟩:=hl;have hL:L∈X.fs:=hs L (by unfold frs;rw[List.filterMap_cons,hf];exact List.mem_cons_self);obtain ⟨sl,e⟩:=I.base.slot L o ho (I.ok.frf L hL) hL fun z=>I.ok.exfs L z hL
   exact⟨hk,⟨L,_,hf,hn,e,hd⟩,ih (fun b hb=>hs b (by unfold frs;rw[List.filterMap_cons,hf];exact List.mem_cons_of_mem _ hb)) hr⟩
 exact all X.outer (fun _ hb=>hb) I.ok.funs
theorem Inv.stack(I:Inv X pins U H s):s.heap.FunFrames X.base X.stack:=by
 rcases I.ok.stk with e | ⟨e,hf⟩
 ·rw[e];exact I.funs
 ·rw[e];obtain ⟨m,hn,_⟩:=I.loc;refine .cons (by rw[I.ok.kind];decide) hf hn ?_ I.funs;exact Heap.get?_none_of_le (Nat.le_trans I.ok.bsz I.ok.above)
theorem Inv.stkSub(I:Inv X pins U H s):∀ b∈frs X.stack,b∈X.env.locals::X.fs:=fun b hb=>by
 rcases I.ok.stk with e | ⟨e,hf⟩
 ·rw[e] at hb;exact List.mem_cons_of_mem _ hb
 ·rw[e] at hb;unfold frs at hb;rw[List.filterMap_cons,hf] at hb;exact hb
theorem Inv.stkFree(I:Inv X pins U H s):∀ b∈frs X.stack,H b=none:=fun b hb=>by
 rcases List.mem_cons.mp (I.stkSub b hb) with e | hb
 ·rw[e];exact I.free
 ·obtain ⟨_,o,ho,_⟩:=I.ok.funs.mem hb;exact I.base.free b o ho (I.ok.frf b hb) fun z=>I.ok.exfs b z hb
theorem Inv.step{ch:List Addr}(I:Inv X pins U H s)
  (hch:∀ b∈ch,(b∈X.ex\/X.s₀.heap.objs.size<=b)/\b≠X.env.locals/\(∀ x c,X.env.cells.lookup x=some c->c≠b)/\∀ p∈X.pn++pins,p.1≠b)
  (keep:∀ b o,b≠X.env.locals->b∉X.fs->b∉ch->s.heap.get? b=some o->H b=none->h'.get? b=some o)
  (slot:∀ b o,b≠X.env.locals->b∈X.fs->b∉ch->s.heap.get? b=some o->H b=none->∃ sl,h'.get? b=some { o with slots:=sl }) (free:∀ b o,b∉ch->s.heap.get? b=some o->H b=none->H' b=none)
  (there:∀ b o,b∉ch->s.heap.get? b=some o->∃ o',h'.get? b=some o')
  (tups:∀ b xs,H b=some (.tup xs)->H' b=some (.tup xs)) (frzs:∀ b o u,H b=some (.frz o u)->H' b=some (.frz o u)) (tbls:∀ b ps,H b=some (.tbl ps)->∃ more,H' b=some (.tbl (ps++more)))
  (ns:∀ m,s.heap.Ns X.env.locals m->h'.Ns X.env.locals m) (hok:HOk X.prog X.w H' h') (hg:AllBare g') :
  Inv X pins U H' { s with heap:=h',gens:=g',drawn:=d',toks:=t' }:=by
 have neL:∀ b o,X.s₀.heap.get? b=some o->b≠X.env.locals:=fun b o e=>Nat.ne_of_lt (Nat.lt_of_lt_of_le (Heap.lt_size e) I.ok.above)
 have neC:∀ b o,X.s₀.heap.get? b=some o->b∉X.ex->b∉ch:=fun b o e hx hb=>by
  rcases (hch b hb).1 with z | z
  ·exact hx z
  ·exact absurd (Nat.lt_of_lt_of_le (Heap.lt_size e) z) (Nat.lt_irrefl _)
 have cellK:∀ x c,X.env.cells.lookup x=some c->∀ v,s.heap.IsCell c v->h'.IsCell c v:=fun x c e v ⟨o,ho,hd⟩=>by
  have nch:c∉ch:=fun z=>(hch c z).2.2.1 x c e rfl
  by_cases hc:c∈X.fs
  ·obtain ⟨sl,q⟩:=slot c o (I.cne x c e) hc nch ho (I.freeC x c e)
   exact⟨_,q,hd⟩
  ·exact⟨o,keep c o (I.cne x c e) hc nch ho (I.freeC x c e),hd⟩
 refine⟨I.ok,I.os,hg,⟨fun b o e n hb hx=>?_,fun b o e n hb hx=>?_,fun b o e n hx=>?_,fun b o e hx=>?_,fun b xs e=>tups b xs (I.base.tups b xs e),fun b o xs e=>frzs b o xs (I.base.frzs b o xs e),fun b ps e=>?_⟩,?_,fun x c e=>?_,?_,fun x c e=>?_,fun p hp=>?_,hok,I.len⟩
 ·exact keep b o (neL b o e) hb (neC b o e hx) (I.base.keep b o e n hb hx) (I.base.free b o e n hx)
 ·obtain ⟨sl,e1⟩:=I.base.slot b o e n hb hx;obtain ⟨sl',e2⟩:=slot b _ (neL b o e) hb (neC b o e hx) e1 (I.base.free b o e n hx)
  exact⟨sl',e2⟩
 ·obtain ⟨o',e1⟩:=I.base.there b o e hx;exact free b o' (neC b o e hx) e1 (I.base.free b o e n hx)
 ·obtain ⟨o',e1⟩:=I.base.there b o e hx;exact there b o' (neC b o e hx) e1
 ·obtain ⟨m1,e1⟩:=I.base.tbls b ps e;obtain ⟨m2,e2⟩:=tbls b _ e1
  exact⟨m1++m2,by rw[e2,Array.append_assoc]⟩
 ·obtain ⟨m,hn,hl⟩:=I.loc;refine⟨m,ns m hn,fun i x v e1 e2 e3=>?_⟩;obtain ⟨u,r,l⟩:=hl i x v e1 e2 e3;refine⟨u,r,?_⟩;rcases l with l | ⟨k,c,e,z⟩
  ·exact .inl l
  ·exact .inr ⟨k,c,e,cellK x c e _ z⟩
 ·obtain ⟨v,z⟩:=I.cell x c e
  exact⟨v,cellK x c e v z⟩
 ·obtain ⟨m,⟨o,_,_,ho,_⟩,_⟩:=I.loc;exact free _ o (fun z=>(hch _ z).2.1 rfl) ho I.free
 ·obtain ⟨v,o,ho,hd⟩:=I.cell x c e;exact free c o (fun z=>(hch c z).2.2.1 x c e rfl) ho (I.freeC x c e)
 ·obtain ⟨e,n,ne,nf,d⟩:=I.pin p hp;have nch:p.1∉ch:=fun z=>(hch p.1 z).2.2.2 p hp rfl
  exact⟨keep p.1 p.2 ne nf nch e n,free p.1 p.2 nch e n,ne,nf,d⟩
theorem Inv.un(I:Inv X pins U H s)(u:Un X.fs [] H H' s.heap h')(hok:HOk X.prog X.w H' h'):Inv X pins U H' { s with heap:=h',toks:=t' }:=by
 obtain ⟨m,⟨o,es,ep,ho,r⟩,_⟩:=id I.loc;obtain ⟨sl,hL⟩:=u.any ho I.free (by simp)
 exact I.step (g':=s.gens) (d':=s.drawn) (ch:=[]) (fun _ z=>nomatch z) (fun b o _ hb _ e n=>u.keep b o e n hb (by simp)) (fun b o _ hb _ e n=>u.slot b o e n hb (by simp)) (fun b o _ e n=>u.free b o e n (by simp)) (fun b o _ e=>u.there b o e (by simp)) u.tups u.frzs u.tbls (fun m' hm=>by
  obtain ⟨o',es',ep',ho',r'⟩:=hm;rw[ho] at ho';cases ho'
  exact⟨_,es',ep',hL,r'⟩) hok I.bare
theorem Inv.call(I:Inv X pins U H s)(u:Un (frs X.stack) ch H H' s.heap h')(hok:HOk X.prog X.w H' h')(hg:AllBare g')
  (hch:∀ b∈ch,(b∈X.ex\/X.s₀.heap.objs.size<=b)/\b≠X.env.locals/\(∀ x c,X.env.cells.lookup x=some c->c≠b)/\∀ p∈X.pn++pins,p.1≠b) :
  Inv X pins U H' { s with heap:=h',gens:=g',drawn:=d',toks:=t' }:=by
 obtain ⟨m,⟨o,es,ep,ho,r⟩,_⟩:=id I.loc;obtain ⟨sl,hL⟩:=u.any ho I.free fun z=>(hch _ z).2.1 rfl
 exact I.step (ch:=ch) hch (fun b o hL hb hc e n=>u.keep b o e n (fun z=>(List.mem_cons.mp (I.stkSub b z)).elim hL hb) hc) (fun b o _ _ hc e n=>u.any e n hc) (fun b o hc e n=>u.free b o e n hc) (fun b o hc e=>u.there b o e hc) u.tups u.frzs u.tbls (fun m' hm=>by
  obtain ⟨o',es',ep',ho',r'⟩:=hm;rw[ho] at ho';cases ho'
  exact⟨_,es',ep',hL,r'⟩) hok hg
theorem Inv.turned(I:Inv X pins U H s)(k:∀ b o,b≠it->s.heap.get? b=some o->h'.get? b=some o)(hn:H it=none)(hL:it≠X.env.locals)
  (h1:it∈X.ex\/X.s₀.heap.objs.size<=it) (h2:∀ x c,X.env.cells.lookup x=some c->c≠it) (h3:∀ p∈X.pn++pins,p.1≠it):Inv X pins U H { s with heap:=h',toks:=t' }:=by
 have nit:∀ b u,H b=some u->b≠it:=fun b u e z=>by rw[z,hn] at e;cases e
 refine I.step (g':=s.gens) (d':=s.drawn) (ch:=[it]) (fun b hb=>?_) (fun b o _ _ hc e _=>k b o (fun z=>hc (by simp[z])) e) (fun b o _ _ hc e _=>⟨o.slots,k b o (fun z=>hc (by simp[z])) e⟩) (fun _ _ _ _ n=>n)
  (fun b o hc e=>⟨o,k b o (fun z=>hc (by simp[z])) e⟩) (fun _ _ e=>e) (fun _ _ _ e=>e) (fun b ps e=>⟨#[],by rw[e];simp⟩) (fun m hm=>?_) (fun b u e=>?_) I.bare
 ·have e:b=it:=by simpa using hb
  subst e
  exact⟨h1,hL,h2,h3⟩
 ·obtain ⟨o,es,ep,ho,r⟩:=hm
  exact⟨o,es,ep,k _ o (Ne.symm hL) ho,r⟩
 ·refine (I.hok b u e).stay (fun c v hc q=>k c v ?_ q) (fun _ q=>q) fun _ _ q=>q;rcases hc with z | z
  ·rw[z];exact nit b u e
  ·exact nit c _ z
theorem Inv.tok(I:Inv X pins U H s)(t:Nat):Inv X pins U H { s with toks:=t }:=I.un (h':=s.heap) (t':=t) Un.refl I.hok
theorem Inv.kept(I:Inv X pins U H s)(k:∀ b u,s.heap.get? b=some u->h'.get? b=some u):Inv X pins U H { s with heap:=h',toks:=t' }:=I.un (Un.kept k) (I.hok.kept k)
theorem Inv.laid(I:Inv X pins U H s)(k:∀ b u,s.heap.get? b=some u->h'.get? b=some u)(hp:s.heap.objs.size<=a)(new:ObjOk X.prog X.w (upd H a o) h' a o) :
  Inv X pins U (upd H a o) { s with heap:=h',toks:=t' }:=I.un (Un.laid k hp (I.hok.fresh hp)) (I.hok.laid k hp new)
theorem Inv.write(I:Inv X pins U H s)(mu:Mut (H x))(he:e=x\/H e=some (.own x))(k:∀ b u,b≠e->s.heap.get? b=some u->h'.get? b=some u)(heo:∃ u,h'.get? e=some u)
  (new:ObjOk X.prog X.w (upd H x o) h' x o):Inv X pins U (upd H x o) { s with heap:=h',toks:=t' }:=I.un (Un.write mu he k heo) (I.hok.write mu he k heo new)
theorem Inv.pins_of(I:Inv X pins U H s)(h:∀ p∈pins',s.heap.get? p.1=some p.2/\H p.1=none/\p.1≠X.env.locals/\p.1∉X.fs/\∀ v,p.2.data≠.cell v):Inv X pins' U H s:=
 ⟨I.ok,I.os,I.bare,I.base,I.loc,I.cell,I.free,I.freeC,fun p hp=>(List.mem_append.mp hp).elim (fun z=>I.pin p (List.mem_append_left _ z)) (h p),I.hok,I.len⟩
theorem qBL{N:List Str}(hN:N.Nodup){j:Nat}(a:N[i]?=some x)(b:N[j]?=some x):i=j:=by
 obtain ⟨h1,e1⟩:=List.getElem?_eq_some_iff.mp a;obtain ⟨h2,e2⟩:=List.getElem?_eq_some_iff.mp b;exact (List.getElem_inj hN).mp (e1.trans e2.symm)
theorem qF2(I:Inv X pins U H s)(hN:X.N.Nodup)(hi:X.N[i]?=some x)(hx:Loc X.env.scope x)(r:RelV v u)
  (h:∀ s',Inv X pins (U.set i (some v)) H s'->(∃ a,Heap.SameBut a s.heap s'.heap/\(a=X.env.locals\/X.env.cells.lookup x=some a))->Q () s') (hf:X.fn x=true\/X.env.scope.names.lookup x=some .local:=by first | exact .inl rfl | exact .inr rfl | assumption):wpAny M A (storeName X.env x u) Q E s:=by
 obtain ⟨m,hn,hl⟩:=id I.loc;have hcls:(X.env.scope.kind == .class || (X.env.scope.kind == .module&&X.env.locals != X.env.globals))=false:=by rw[I.ok.kind];rfl
 have hiU:i<U.length:=by rw[I.len];exact (List.getElem?_eq_some_iff.mp hi).1
 have cne:=I.cne
 have tracked:∀ {a:Addr} {h':Heap},(∃ o,s.heap.get? a=some o/\H a=none)->Heap.SameBut a s.heap h'->HOk X.prog X.w H h':=fun {a h'} ha hs b ob e=>by
  obtain ⟨_,_,hfree⟩:=ha;refine (I.hok b ob e).stay (fun c w' hc q=>(hs.2 c ?_).trans q) (fun _ q=>q) fun _ _ q=>q
  rintro rfl
  rcases hc with rfl | hc
  ·rw[hfree] at e;cases e
  ·rw[hfree] at hc;cases hc
 rcases hx with hk | hk
 ·refine wpAny_storeName_local hk hn (fun h' hn' hs=>?_) hcls;obtain ⟨oL,_,_,hoL,_⟩:=id hn;refine h _ ⟨I.ok,I.os,I.bare,⟨fun b o e n hb hx=>?_,fun b o e n hb hx=>?_,I.base.free,fun b o e hx=>?_,I.base.tups,I.base.frzs,I.base.tbls⟩,⟨_,hn',fun j y v' e1 e2 e3=>?_⟩,fun y c e=>?_,I.free,I.freeC,fun p hp=>?_,tracked ⟨oL,hoL,I.free⟩ hs,by simpa using I.len⟩ ⟨_,hs,.inl rfl⟩
  ·exact (hs.2 b (Nat.ne_of_lt (Nat.lt_of_lt_of_le (Heap.lt_size e) I.ok.above))).trans (I.base.keep b o e n hb hx)
  ·obtain ⟨sl,e1⟩:=I.base.slot b o e n hb hx
   exact⟨sl,(hs.2 b (Nat.ne_of_lt (Nat.lt_of_lt_of_le (Heap.lt_size e) I.ok.above))).trans e1⟩
  ·obtain ⟨o',e1⟩:=I.base.there b o e hx
   exact⟨o',(hs.2 b (Nat.ne_of_lt (Nat.lt_of_lt_of_le (Heap.lt_size e) I.ok.above))).trans e1⟩
  ·by_cases hj:j=i
   ·subst hj;rw[hi] at e1;cases e1;rw[List.getElem?_set_self hiU] at e2;cases e2
    exact⟨u,r,.inl ⟨hk,by simp⟩⟩
   ·rw[List.getElem?_set_ne (Ne.symm hj)] at e2;obtain ⟨u',r',q⟩:=hl j y v' e1 e2 e3;refine⟨u',r',?_⟩;rcases q with⟨k,e⟩ | ⟨k,c,e,z⟩
    ·refine .inl ⟨k,?_⟩
     have:y≠x:=fun e=>hj (qBL hN e1 (e ▸ hi))
     simp[this,e]
    ·exact .inr ⟨k,c,e,z.sameBut hs (cne y c e)⟩
  ·obtain ⟨w',z⟩:=I.cell y c e
   exact⟨w',z.sameBut hs (cne y c e)⟩
  ·obtain ⟨e,n,ne,nf,d⟩:=I.pin p hp
   exact⟨(hs.2 p.1 ne).trans e,n,ne,nf,d⟩
 ·have hfn:X.fn x=true:=by
   rcases hf with z | z
   ·exact z
   ·rw[z] at hk;cases hk
  obtain ⟨c,hc⟩:=I.ok.has x (.inl hk);obtain ⟨w',z⟩:=I.cell x c hc;refine wpAny_storeName_cell I.ok.kind hk hc z (fun h' hc' hs=>?_);obtain ⟨oc,hoc,hocd⟩:=id z;refine h { s with heap:=h' } ⟨I.ok,I.os,I.bare,⟨fun b o e n hb hx=>?_,fun b o e n hb hx=>?_,I.base.free,fun b o e hx=>?_,I.base.tups,I.base.frzs,I.base.tbls⟩,⟨m,hn.sameBut hs (Ne.symm (cne x c hc)),fun j y v' e1 e2 e3=>?_⟩,fun y c' e=>?_,I.free,I.freeC,fun p hp=>?_,tracked ⟨oc,hoc,I.freeC x c hc⟩ hs,by simpa using I.len⟩ ⟨c,hs,.inr hc⟩
  ·exact (hs.2 b (Nat.ne_of_lt (Nat.lt_of_lt_of_le (Heap.lt_size e) (I.ok.cab x c hfn hc)))).trans (I.base.keep b o e n hb hx)
  ·obtain ⟨sl,e1⟩:=I.base.slot b o e n hb hx
   exact⟨sl,(hs.2 b (Nat.ne_of_lt (Nat.lt_of_lt_of_le (Heap.lt_size e) (I.ok.cab x c hfn hc)))).trans e1⟩
  ·obtain ⟨o',e1⟩:=I.base.there b o e hx
   exact⟨o',(hs.2 b (Nat.ne_of_lt (Nat.lt_of_lt_of_le (Heap.lt_size e) (I.ok.cab x c hfn hc)))).trans e1⟩
  ·by_cases hj:j=i
   ·subst hj;rw[hi] at e1;cases e1;rw[List.getElem?_set_self hiU] at e2;cases e2
    exact⟨u,r,.inr ⟨.inl hk,c,hc,hc'⟩⟩
   ·rw[List.getElem?_set_ne (Ne.symm hj)] at e2;obtain ⟨u',r',q⟩:=hl j y v' e1 e2 e3;refine⟨u',r',?_⟩;rcases q with q | ⟨k,c',e,z'⟩
    ·exact .inl q
    ·refine .inr ⟨k,c',e,z'.sameBut hs ?_⟩
     rintro rfl
     exact hj (qBL hN e1 (I.ok.inj _ _ _ e hc ▸ hi))
  ·by_cases hcc:c'=c
   ·subst hcc;exact⟨_,hc'⟩
   ·obtain ⟨w2,z2⟩:=I.cell y c' e
    exact⟨w2,z2.sameBut hs hcc⟩
  ·obtain ⟨e,n,ne,nf,d⟩:=I.pin p hp;refine⟨(hs.2 p.1 ?_).trans e,n,ne,nf,d⟩;intro q;rw[q,hoc] at e;have q':oc=p.2:=Option.some.inj e;exact d w' (by rw[<- q'];exact hocd)
theorem store_ok(I:Inv X pins U H s)(hN:X.N.Nodup)(hi:X.N[i]?=some x)(hx:Loc X.env.scope x)(r:RelV v u)
  (h:∀ s',Inv X pins (U.set i (some v)) H s'->Q () s') (hf:X.fn x=true\/X.env.scope.names.lookup x=some .local:=by first | exact .inl rfl | exact .inr rfl | assumption):wpAny M A (storeName X.env x u) Q E s:=
 qF2 I hN hi hx r (fun s' I' _=>h s' I') hf
theorem Inv.call'(I:Inv X pins U H s)(ho:s'.os=s.os)(u:Un (frs X.stack) ch H H' s.heap s'.heap)(hok:HOk X.prog X.w H' s'.heap)(hg:AllBare s'.gens)
  (hch:∀ b∈ch,(b∈X.ex\/X.s₀.heap.objs.size<=b)/\b≠X.env.locals/\(∀ x c,X.env.cells.lookup x=some c->c≠b)/\∀ p∈X.pn++pins,p.1≠b):Inv X pins U H' s':=by
 obtain ⟨h',g',d',t',o'⟩:=s';have e:o'=s.os:=ho;subst e;exact I.call (g':=g') (t':=t') (d':=d') u hok hg hch
end
abbrev XK:=Value->Option Addr->Hp->Prop
abbrev St:=List (Option V)
abbrev VK:=V->Hp->Prop
abbrev TE:=St->Hp->VK->Prop
abbrev TT:=St->Hp->(Bool->Hp->Prop)->Prop
abbrev TA:=St->Hp->(List V->Hp->Prop)->Prop
structure Ends where
 nx:St->Hp->Prop
 rt:VK
 bk:St->Hp->Prop:=fun _ _=>False
 ct:St->Hp->Prop:=fun _ _=>False
abbrev TS:=Ends->St->Hp->Prop
def EP(X:Cx)(pins:List (Addr × Obj))(U:St)(Q:VK)(u:Value)(s':Shared):Prop:=∃ v H',Inv X pins U H' s'/\RelV v u/\Q v H'
def TP(X:Cx)(pins:List (Addr × Obj))(U:St)(Q:Bool->Hp->Prop)(b:Bool)(s':Shared):Prop:=∃ H',Inv X pins U H' s'/\Q b H'
def AP(X:Cx)(pins:List (Addr × Obj))(U:St)(Q:List V->Hp->Prop)(us:List Value)(s':Shared):Prop:=∃ vs H',Inv X pins U H' s'/\Vals vs us/\Q vs H'
def SP(X:Cx)(pins:List (Addr × Obj))(D:Ends)(f:Flow)(s':Shared):Prop:=
 match f with
 | .next=>∃ U' H',Inv X pins U' H' s'/\D.nx U' H'
 | .brk=>∃ U' H',Inv X pins U' H' s'/\D.bk U' H'
 | .cont=>∃ U' H',Inv X pins U' H' s'/\D.ct U' H'
 | .ret u=>∃ v U' H',Inv X pins U' H' s'/\RelV v u/\D.rt v H'
def PE(X:Cx)(e:Expr)(t:TE):Prop:=
 ∀ (pins:List (Addr × Obj)) (s:Shared) (U:St) (H:Hp) (Q:VK),Inv X pins U H s->t U H Q->wpAny (model X.prog X.w) X.A (eval e X.env) (EP X pins U Q) X.xe s
def PT(X:Cx)(e:Expr)(t:TT):Prop:=
 ∀ (pins:List (Addr × Obj)) (s:Shared) (U:St) (H:Hp) (Q:Bool->Hp->Prop),Inv X pins U H s->t U H Q->wpAny (model X.prog X.w) X.A (isTrue e X.env (eval e X.env)) (TP X pins U Q) X.xe s
def PW(X:Cx)(e:Expr)(t:TT):Prop:=
 ∀ (whole:Sem Value) (pins:List (Addr × Obj)) (s:Shared) (U:St) (H:Hp) (Q:Bool->Hp->Prop),Inv X pins U H s->t U H Q->wpAny (model X.prog X.w) X.A (isTrue e X.env whole) (TP X pins U Q) X.xe s
theorem PW.pt(h:PW X e t):PT X e t:=h _
def PA(X:Cx)(es:List Expr)(t:TA):Prop:=
 ∀ (pos:Pos) (pins:List (Addr × Obj)) (s:Shared) (U:St) (H:Hp) (Q:List V->Hp->Prop),Inv X pins U H s->t U H Q->wpAny (model X.prog X.w) X.A (spliced (backTo pos (starEach es X.env))) (AP X pins U Q) X.xe s
def PS(X:Cx)(st:Stmt)(t:TS):Prop:=
 ∀ (pins:List (Addr × Obj)) (s:Shared) (U:St) (H:Hp) (D:Ends),Inv X pins U H s->t D U H->wpAny (model X.prog X.w) X.A (exec st X.env) (SP X pins D) X.xe s
def PSs(X:Cx)(st:List Stmt)(t:TS):Prop:=
 ∀ (pins:List (Addr × Obj)) (s:Shared) (U:St) (H:Hp) (D:Ends),Inv X pins U H s->t D U H->wpAny (model X.prog X.w) X.A (execs st X.env) (SP X pins D) X.xe s
theorem thn{α:Type}{t:Sem α}{Q Q':α->Shared->Prop}(h:wpAny M A t Q E s)(hQ:∀ a s,Q a s->Q' a s):wpAny M A t Q' E s:=wpAny_mono h hQ fun _ _ x=>x
section
variable {X:Cx}
def tVar(i:Nat):TE:=fun U H Q=>∃ v,U[i]?=some (some v)/\Q v H
def tC(v:V):TE:=fun _ H Q=>Q v H
theorem pe_var (hN:X.N[i]?=some x) (hv:Vis X.env.scope x) (hd:(x == ("__debug__":Str))=false:=by decide) (hcd:(x == ("__classdict__":Str))=false:=by decide):PE X (.Name x pos) (tVar i):=by
 intro pins s U H Q I h;obtain ⟨v,e,h⟩:=h;obtain ⟨m,hn,hl⟩:=I.loc;obtain ⟨u,r,l⟩:=hl i x v hN e hv;have fin:EP X pins U Q u s:=⟨v,H,I,r,h⟩;rcases l with⟨hk,hm⟩ | ⟨hk,c,hc,hcell⟩
 ·exact wpAny_Name (wpAny_loadName_local I.ok.kind hk hn hm fin) hd
 ·rcases hk with hk | hk
  ·exact wpAny_Name (wpAny_loadName_cell I.ok.kind hk hc hcell fin) hd
  ·exact wpAny_Name (wpAny_loadName_free I.ok.kind hk hc hcell fin hcd) hd
theorem pe_int{i j pos}:PE X (.Constant (.int i) j pos) (tC (.int i)):=fun _ _ _ H _ I h=>wpAny_Constant_int ⟨.int i,H,I.tok _,⟨_,rfl⟩,h⟩
theorem pe_bl{b j pos}:PE X (.Constant (.bool b) j pos) (tC (.bl b)):=fun _ _ _ H _ I h=>Constant_bool ⟨.bl b,H,I,rfl,h⟩
theorem pe_non{j pos}:PE X (.Constant .none j pos) (tC .non):=fun _ _ _ H _ I h=>Constant_none ⟨.non,H,I,rfl,h⟩
theorem pe_str{x j pos}:PE X (.Constant (.str x) j pos) (tC (.str x)):=fun _ _ _ H _ I h=>Calls.Constant_str ⟨.str x,H,I.tok _,⟨_,rfl⟩,h⟩
def Gl(X:Cx)(x:Str):Prop:=X.env.kindOf x=some .globalImplicit
theorem ld_glob(I:Inv X pins U H s)(hg:Gl X x)(hm:X.mg x=some u)(h:Q u s)
  (hd:(x == ("__debug__":Str))=false:=by decide):wpAny (model X.prog X.w) X.A (eval (.Name x pos) X.env) Q E s:=
 Calls.Name_function_global I.ok.kind hg (Calls.loadGlobal_global (by rw[I.ok.glob];exact I.mod.glob.keeps I.bk) hm h) hd
theorem uZ(I:Inv X pins U H s)(hg:Gl X x)(hm:X.mg x=none)(hv:bootBuiltins x=some u)(h:Q u s)
  (hn:x≠"__name__":=by decide) (hd:(x == ("__debug__":Str))=false:=by decide):wpAny (model X.prog X.w) X.A (eval (.Name x pos) X.env) Q E s:=by
 obtain ⟨mb,h1,h2⟩:=I.mod.blt;exact Calls.Name_function_global I.ok.kind hg (Calls.loadGlobal_builtin (by rw[I.ok.glob];exact I.mod.glob.keeps I.bk) hm (by rw[I.ok.blt];exact h1.keeps I.bk) ((h2 x hn).trans hv) h) hd
theorem pe_glob (hg:Gl X x) (hm:X.mg x=some u) (r:RelV v u) (hd:(x == ("__debug__":Str))=false:=by decide):PE X (.Name x pos) (tC v):=
 fun _ _ _ H _ I h=>ld_glob I hg hm ⟨v,H,I,r,h⟩ hd
theorem pe_bltn (hg:Gl X x) (hm:X.mg x=none) (hv:bootBuiltins x=some u) (r:RelV v u) (hn:x≠"__name__":=by decide) (hd:(x == ("__debug__":Str))=false:=by decide):PE X (.Name x pos) (tC v):=
 fun _ _ _ H _ I h=>uZ I hg hm hv ⟨v,H,I,r,h⟩ hn hd
variable {a b:Expr}{ta tb:TE}{pos:Pos}
def PC(X:Cx)(op:CmpOp)(a b:Expr)(t:TE):Prop:=
 ∀ (pins:List (Addr × Obj)) (s:Shared) (U:St) (H:Hp) (Q:VK),Inv X pins U H s->t U H Q ->
  wpAny (model X.prog X.w) X.A (eval a X.env) (fun v s₁=>wpAny (model X.prog X.w) X.A (eval b X.env) (fun u s₂=>wpAny (model X.prog X.w) X.A (compareOp op v u) (EP X pins U Q) X.xe s₂) X.xe s₁) X.xe s
theorem qBM(b:Expr)(h:op≠.In)(h2:op≠.NotIn):behindInMarks op b=false:=by
 have e1:(op == CmpOp.In)=false:=by cases op <;> first | rfl | exact absurd rfl h
 have e2:(op == CmpOp.NotIn)=false:=by cases op <;> first | rfl | exact absurd rfl h2
 cases b <;> simp[behindInMarks,e1,e2]
def tIsN(ta:TE):TE:=fun U H Q=>ta U H fun x H1=>Q (.bl (decide (x=.non))) H1
def tNotN(ta:TE):TE:=fun U H Q=>ta U H fun x H1=>Q (.bl (!decide (x=.non))) H1
theorem RelV.none_iff(r:RelV x v):(v == Value.none)=decide (x=.non):=by
 cases x with
 |non=>cases r;rfl
 |bl _=>cases r;rfl
 |int _=>obtain ⟨t,rfl⟩:=r;rfl
 |str _=>obtain ⟨t,rfl⟩:=r;rfl
 |byt _=>obtain ⟨t,rfl⟩:=r;rfl
 |flt _=>obtain ⟨t,rfl⟩:=r;rfl
 |ref _=>cases r;rfl
 |ty _=>cases r;rfl
theorem pc_isN{j pos'}(ha:PE X a ta):PC X .Is a (.Constant .none j pos') (tIsN ta):=by
 intro pins s U H Q I h;refine thn (ha pins s U H _ I h) fun v s1 ⟨x,H1,I1,r1,q1⟩=>?_;exact Constant_none (is_none_gen ⟨.bl _,H1,I1,by rw[r1.none_iff];rfl,q1⟩)
theorem pc_notN{j pos'}(ha:PE X a ta):PC X .IsNot a (.Constant .none j pos') (tNotN ta):=by
 intro pins s U H Q I h;refine thn (ha pins s U H _ I h) fun v s1 ⟨x,H1,I1,r1,q1⟩=>?_;exact Constant_none (isnot_none_gen ⟨.bl _,H1,I1,by rw[r1.none_iff];rfl,q1⟩)
def tB(t:TE):TT:=fun U H Q=>t U H fun x H1=>∃ c,x=.bl c/\Q c H1
theorem pe_cmp(h:PC X op a b t)(h1:behindInMarks op b=false:=by first | exact qBM _ (by decide) (by decide) | rfl):PE X (.Compare a [op] [b] pos) t:=fun pins s U H Q I hw=>wpAny_Compare1 (h pins s U H Q I hw) h1
theorem pt_cmp(h:PC X op a b t)(h1:behindInMarks op b=false:=by first | exact qBM _ (by decide) (by decide) | rfl):PT X (.Compare a [op] [b] pos) (tB t):=by
 intro pins s U H Q I hw;refine wpAny_isTrue_Compare1 (thn (h pins s U H _ I hw) fun v s1 h1=>thn h1 fun u s2 h2=>thn h2 fun c s3 ⟨x,H1,I1,r1,q1⟩=>?_) h1;obtain ⟨d,rfl,q⟩:=q1;cases r1;exact wpAny_truthy_bool ⟨H1,I1,q⟩
variable {tA tB':TT}{qG:List Expr}
def qFz(t u:TT):TT:=fun U H Q=>t U H fun c H1=>if c=true then u U H1 Q else Q false H1
def tOr(t u:TT):TT:=fun U H Q=>t U H fun c H1=>if c=true then Q true H1 else u U H1 Q
def qFn(t:TT):TT:=fun U H Q=>t U H fun c H1=>Q (!c) H1
theorem pw_and1(ha:PT X a tA):PW X (.BoolOp .And [a] pos) tA:=by
 intro wh pins s U H Q I h;refine isTrue_and (thn (ha pins s U H Q I h) fun c s1 e=>?_);cases c with
 |true=>exact isTrue_and_nil e
 |false=>exact e
theorem pw_or1(ha:PT X a tA):PW X (.BoolOp .Or [a] pos) tA:=by
 intro wh pins s U H Q I h;refine isTrue_or (thn (ha pins s U H Q I h) fun c s1 e=>?_);cases c with
 |false=>exact isTrue_or_nil e
 |true=>exact e
theorem pw_and(ha:PT X a tA)(hb:PW X (.BoolOp .And (b::qG) pos) tB'):PW X (.BoolOp .And (a::b::qG) pos) (qFz tA tB'):=by
 intro wh pins s U H Q I h;refine isTrue_and (thn (ha pins s U H _ I h) fun c s1 ⟨H1,I1,q1⟩=>?_);cases c with
 |true=>exact hb wh pins s1 U H1 Q I1 q1
 |false=>exact⟨H1,I1,q1⟩
theorem pw_or(ha:PT X a tA)(hb:PW X (.BoolOp .Or (b::qG) pos) tB'):PW X (.BoolOp .Or (a::b::qG) pos) (tOr tA tB'):=by
 intro wh pins s U H Q I h;refine isTrue_or (thn (ha pins s U H _ I h) fun c s1 ⟨H1,I1,q1⟩=>?_);cases c with
 |true=>exact⟨H1,I1,q1⟩
 |false=>exact hb wh pins s1 U H1 Q I1 q1
theorem pt_not(ha:PT X a tA):PT X (.UnaryOp .Not a pos) (qFn tA):=by
 intro pins s U H Q I h;exact isTrue_not (ha pins s U H (fun c H1=>Q (!c) H1) I h)
def qFy(ta tb:TE):TE:=fun U H Q=>ta U H fun x H1=>∃ c,x=.bl c/\if c=true then tb U H1 Q else Q (.bl false) H1
def qFm(ta tb:TE):TE:=fun U H Q=>ta U H fun x H1=>∃ c,x=.bl c/\if c=true then Q (.bl true) H1 else tb U H1 Q
theorem pe_one{op}(h:PE X a t):PE X (.BoolOp op [a] pos) t:=fun pins s U H Q I hw=>BoolOp_one (h pins s U H Q I hw)
theorem pe_and(ha:PE X a ta)(hb:PE X (.BoolOp .And (b::qG) pos) tb):PE X (.BoolOp .And (a::b::qG) pos) (qFy ta tb):=by
 intro pins s U H Q I h;refine BoolOp_and (thn (ha pins s U H _ I h) fun v s1 ⟨x,H1,I1,r1,q1⟩=>?_);obtain ⟨c,rfl,q1⟩:=q1;cases r1;refine wpAny_truthy_bool ?_;cases c with
 |true=>exact hb pins s1 U H1 Q I1 q1
 |false=>exact⟨.bl false,H1,I1,rfl,q1⟩
theorem pe_or(ha:PE X a ta)(hb:PE X (.BoolOp .Or (b::qG) pos) tb):PE X (.BoolOp .Or (a::b::qG) pos) (qFm ta tb):=by
 intro pins s U H Q I h;refine BoolOp_or (thn (ha pins s U H _ I h) fun v s1 ⟨x,H1,I1,r1,q1⟩=>?_);obtain ⟨c,rfl,q1⟩:=q1;cases r1;refine wpAny_truthy_bool ?_;cases c with
 |false=>exact hb pins s1 U H1 Q I1 q1
 |true=>exact⟨.bl true,H1,I1,rfl,q1⟩
def tIf(t:TT)(ta tb:TE):TE:=fun U H Q=>t U H fun c H1=>if c=true then ta U H1 Q else tb U H1 Q
theorem pe_ifExp(hc:PT X c tA)(ha:PE X a ta)(hb:PE X b tb):PE X (.IfExp c a b pos) (tIf tA ta tb):=by
 intro pins s U H Q I h;refine wpAny_IfExp (thn (hc pins s U H _ I h) fun d s1 ⟨H1,I1,q1⟩=>?_);cases d with
 |true=>exact ha pins s1 U H1 Q I1 q1
 |false=>exact hb pins s1 U H1 Q I1 q1
end
def SqL(K:PySem.W.Frag)(H:Hp)(a:Addr)(xs:List V):Prop:=
 Rd H a (.lst xs) \/
  ∃ (o:Obj) (its:Array Value) (n:Nat),K.lookup a=some o/\o.cls=.type "list"/\o.dict=none/\o.data=.seq its n/\its.size<=sizeLine/\Vals xs its.toList
def SqT(K:PySem.W.Frag)(H:Hp)(a:Addr)(xs:List V):Prop:=
 Rd H a (.tup xs) \/
  ∃ (o:Obj) (its:Array Value) (n:Nat),K.lookup a=some o/\o.cls=.type "tuple"/\o.data=.seq its n/\its.size<=sizeLine/\Vals xs its.toList
def qQ9:Value->Option V
 | .none=>some .non
 | .bool b=>some (.bl b)
 | .int i _=>some (.int i)
 | .str x _=>some (.str x)
 | .bytes b _=>some (.byt b)
 | .float b _=>some (.flt b)
 | .ref a=>some (.ref a)
 | .type n=>some (.ty n)
 |_=>none
theorem RelV.abs(r:RelV x u):qQ9 u=some x:=by
 cases x with
 |non=>cases r;rfl
 |bl _=>cases r;rfl
 |int _=>obtain ⟨t,rfl⟩:=r;rfl
 |str _=>obtain ⟨t,rfl⟩:=r;rfl
 |byt _=>obtain ⟨t,rfl⟩:=r;rfl
 |flt _=>obtain ⟨t,rfl⟩:=r;rfl
 |ref _=>cases r;rfl
 |ty _=>cases r;rfl
theorem RelV.inj(r:RelV x u)(q:RelV y u):x=y:=Option.some.inj (r.abs.symm.trans q.abs)
theorem Vals.inj:∀ {xs ys:List V} {us:List Value},Vals xs us->Vals ys us->xs=ys
 |_,_,_,.nil,.nil=>rfl
 |_,_,_,.cons r t,.cons r' t'=>by rw[r.inj r',Vals.inj t t']
section
variable {X:Cx}{pins:List (Addr × Obj)}{U:St}{H:Hp}{s:Shared}{a:Addr}{xs ys:List V}
theorem SqL.of{K:PySem.W.Frag}(h:H a=some (.lst xs)):SqL K H a xs:=.inl (.inl h)
theorem SqT.of{K:PySem.W.Frag}(h:H a=some (.tup xs)):SqT K H a xs:=.inl (.inl h)
theorem Inv.list(I:Inv X pins U H s)(h:SqL X.K H a xs):∃ its:List Value,Vals xs its/\PlainL s.heap a its.toArray/\xs.length<=sizeLine:=by
 rcases h with h | ⟨o,its,n,hk,hc,hd,hs,hz,r⟩
 ·obtain ⟨z,its,n,r,e⟩:=h.ok I.hok
  exact⟨its,r,⟨_,n,e,rfl,rfl,rfl⟩,z⟩
 ·refine⟨its.toList,r,⟨o,n,I.kIn a o hk,hc,hd,by simpa using hs⟩,?_⟩;have e:=r.length;simp only[Array.length_toList] at e
  lia
theorem Inv.tuple(I:Inv X pins U H s)(h:SqT X.K H a xs):∃ its:List Value,Vals xs its/\IsTup s.heap a its.toArray/\xs.length<=sizeLine:=by
 rcases h with h | ⟨o,its,n,hk,hc,hs,hz,r⟩
 ·obtain ⟨z,its,r,p⟩:=h.ok I.hok
  exact⟨its,r,p,z⟩
 ·refine⟨its.toList,r,⟨o,I.kIn a o hk,hc,n,by simpa using hs⟩,?_⟩;have e:=r.length;simp only[Array.length_toList] at e
  lia
theorem Inv.list_inj(I:Inv X pins U H s)(h:SqL X.K H a xs)(h':SqL X.K H a ys):xs=ys:=by
 obtain ⟨its,r,⟨o,n,e,_,_,d⟩,_⟩:=I.list h;obtain ⟨its',r',⟨o',n',e',_,_,d'⟩,_⟩:=I.list h';rw[e] at e';cases e';rw[d] at d';injection d' with d1 _
 have:its=its':=by simpa using congrArg Array.toList d1
 subst this;exact r.inj r'
theorem Inv.tuple_inj(I:Inv X pins U H s)(h:SqT X.K H a xs)(h':SqT X.K H a ys):xs=ys:=by
 obtain ⟨its,r,⟨o,e,_,n,d⟩,_⟩:=I.tuple h;obtain ⟨its',r',⟨o',e',_,n',d'⟩,_⟩:=I.tuple h';rw[e] at e';cases e';rw[d] at d';injection d' with d1 _
 have:its=its':=by simpa using congrArg Array.toList d1
 subst this;exact r.inj r'
end
abbrev Cx.wish(X:Cx)(E:Value->Shared->Prop):Cx:={ X with xe:=E }
abbrev Cx.nox(X:Cx):Cx:=X.wish fun _ _=>False
theorem Cx.Ok.wish{X:Cx}(ok:X.Ok)(E:Value->Shared->Prop):(X.wish E).Ok:=
 ⟨ok.mod,ok.kind,ok.glob,ok.blt,ok.above,ok.inj,ok.has,ok.cab,ok.hd,ok.frames,ok.stk,ok.exf,ok.bs,ok.bsz,ok.noex,ok.exfs,ok.funs,ok.frf⟩
theorem Cx.Ok.unwish{X:Cx}(ok:(X.wish E).Ok):X.Ok:=
 ⟨ok.mod,ok.kind,ok.glob,ok.blt,ok.above,ok.inj,ok.has,ok.cab,ok.hd,ok.frames,ok.stk,ok.exf,ok.bs,ok.bsz,ok.noex,ok.exfs,ok.funs,ok.frf⟩
section
variable {X:Cx}{pins:List (Addr × Obj)}{U:St}{H:Hp}{s:Shared}{E:Value->Shared->Prop}
theorem Inv.wish(I:Inv X pins U H s)(E:Value->Shared->Prop):Inv (X.wish E) pins U H s:=⟨I.ok.wish E,I.os,I.bare,I.base,I.loc,I.cell,I.free,I.freeC,I.pin,I.hok,I.len⟩
theorem Inv.unwish(I:Inv (X.wish E) pins U H s):Inv X pins U H s:=⟨I.ok.unwish,I.os,I.bare,I.base,I.loc,I.cell,I.free,I.freeC,I.pin,I.hok,I.len⟩
theorem SP.unwish(h:SP (X.wish E) pins D f s'):SP X pins D f s':=by
 cases f with
 |next=>obtain ⟨U',H',I,q⟩:=h;exact⟨U',H',I.unwish,q⟩
 |brk=>obtain ⟨U',H',I,q⟩:=h;exact⟨U',H',I.unwish,q⟩
 |cont=>obtain ⟨U',H',I,q⟩:=h;exact⟨U',H',I.unwish,q⟩
 |ret u=>obtain ⟨v,U',H',I,r,q⟩:=h;exact⟨v,U',H',I.unwish,r,q⟩
end
section
variable {X:Cx}{st:Stmt}{qG:List Stmt}{t u:TS}{e:Expr}{te:TE}{pos:Pos}
def qAG:TS:=fun D U H=>D.nx U H
def qFi(t u:TS):TS:=fun D U H=>t { D with nx:=u D } U H
theorem pss_nil:PSs X [] qAG:=fun _ _ U H _ I h=>wpAny_execs_nil ⟨U,H,I,h⟩
theorem pss_cons(h1:PS X st t)(h2:PSs X qG u):PSs X (st::qG) (qFi t u):=by
 intro pins s U H D I h;refine wpAny_execs_cons (thn (h1 pins s U H { D with nx:=u D } I h) fun f s1 q=>?_);cases f with
 |next=>obtain ⟨U',H',I',q⟩:=q;exact h2 pins s1 U' H' D I' q
 |ret v=>exact q
 |brk=>exact q
 |cont=>exact q
theorem pss_one(h1:PS X st t):PSs X [st] t:=by
 intro pins s U H D I h;refine wpAny_execs_cons (thn (h1 pins s U H D I h) fun f s1 q=>?_);cases f with
 |next=>exact wpAny_execs_nil q
 |ret v=>exact q
 |brk=>exact q
 |cont=>exact q
def qFx:TS:=fun D U H=>D.bk U H
def qFw:TS:=fun D U H=>D.ct U H
theorem ps_pass:PS X (.Pass pos) qAG:=fun _ _ U H _ I h=>wpAny_Pass ⟨U,H,I,h⟩
theorem ps_break:PS X (.Break pos) qFx:=fun _ _ U H _ I h=>wpAny_Break ⟨U,H,I,h⟩
theorem ps_continue:PS X (.Continue pos) qFw:=fun _ _ U H _ I h=>wpAny_Continue ⟨U,H,I,h⟩
theorem Inv.quiet(I:Inv X pins U H s):interactive X.env=false:=by simp[interactive,I.ok.kind]
def qFt(te:TE):TS:=fun D U H=>te U H fun _ H1=>D.nx U H1
theorem ps_expr(he:PE X e te)(hs:swapsWith e none pos.line X.env=pure false:=by rfl):PS X (.Expr e pos) (qFt te):=by
 intro pins s U H D I h;exact wpAny_Expr_any (thn (he pins s U H _ I h) fun v s1 ⟨x,H1,I1,r1,q1⟩=>⟨U,H1,I1,q1⟩) I.quiet hs
def qFk(te:TE):TS:=fun D U H=>te U H D.rt
theorem ps_ret(he:PE X e te):PS X (.Return (some e) pos) (qFk te):=by
 intro pins s U H D I h;exact wpAny_Return_some (thn (he pins s U H _ I h) fun v s1 ⟨x,H1,I1,r1,q1⟩=>⟨x,U,H1,I1,r1,q1⟩)
def qFj:TS:=fun D _ H=>D.rt .non H
theorem ps_retN:PS X (.Return none pos) qFj:=fun _ _ U H _ I h=>wpAny_Return_none ⟨.non,U,H,I,rfl,h⟩
def qFq(c:TT)(t u:TS):TS:=fun D U H=>c U H fun b H1=>if b=true then t D U H1 else u D U H1
theorem ps_if(hc:PT X c tc)(ha:PSs X a t)(hb:PSs X b u):PS X (.If c a b pos) (qFq tc t u):=by
 intro pins s U H D I h;refine wpAny_If (thn (hc pins s U H _ I h) fun d s1 ⟨H1,I1,q1⟩=>?_);cases d with
 |true=>exact ha pins s1 U H1 D I1 q1
 |false=>exact hb pins s1 U H1 D I1 q1
end
abbrev TG:=V->St->Hp->(St->Hp->Prop)->Prop
abbrev TGs:=List V->St->Hp->(St->Hp->Prop)->Prop
def PG(X:Cx)(target:Expr)(t:TG):Prop:=
 ∀ (pins:List (Addr × Obj)) (s:Shared) (U:St) (H:Hp) (v:V) (u:Value) (Q:St->Hp->Prop),Inv X pins U H s->RelV v u->t v U H Q ->
  wpAny (model X.prog X.w) X.A (assign target X.env u) (fun _ s'=>∃ U' H',Inv X pins U' H' s'/\Q U' H') X.xe s
abbrev qEW:=V->V->V->Hp->(Hp->Prop)->Prop
def PSet(X:Cx)(t:qEW):Prop:=
 ∀ (pins:List (Addr × Obj)) (s:Shared) (U:St) (H:Hp) (o i v:V) (ov iv u:Value) (Q:Hp->Prop),Inv X pins U H s->RelV o ov->RelV i iv->RelV v u->t o i v H Q ->
  wpAny (model X.prog X.w) X.A (setItem ov iv u) (fun _ s'=>∃ H',Inv X pins U H' s'/\Q H') X.xe s
section
variable {X:Cx}{pos:Pos}
def gName(i:Nat):TG:=fun v U H Q=>Q (U.set i (some v)) H
theorem pg_name(hN:X.N.Nodup)(hi:X.N[i]?=some x)(hx:Loc X.env.scope x)(hf:X.fn x=true\/X.env.scope.names.lookup x=some .local:=by first | exact .inl rfl | exact .inr rfl | assumption):PG X (.Name x pos) (gName i):=by
 intro pins s U H v u Q I r h;exact wpAny_assign_Name (store_ok I hN hi hx r (fun s' I'=>⟨_,H,I',h⟩) hf)
def gNil:TGs:=fun vs U H Q=>vs=[]/\Q U H
def gCons(t:TG)(u:TGs):TGs:=fun vs U H Q=>∃ v r,vs=v::r/\t v U H fun U' H'=>u r U' H' Q
def gTup(K:PySem.W.Frag)(n:Nat)(t:TGs):TG:=fun v U H Q=>∃ a xs,v=.ref a/\SqT K H a xs/\xs.length=n/\t xs U H Q
def qML(to ti:TE)(t:qEW):TG:=fun v U H Q=>to U H fun o H1=>ti U H1 fun i H2=>t o i v H2 fun H3=>Q U H3
theorem pg_sub(ho:PE X o to)(hi:PE X i ti)(hs:PSet X t)
  (ha:∀ v,assign (.Subscript o i pos) X.env v=(do
   let ov <- holding [v] (eval o X.env)
   let iv <- holding [v,ov] (eval i X.env)
   standAt pos
   holding [v,ov,iv] (setItem ov iv v)
   release [v,ov,iv] []):=by intro _;rfl):PG X (.Subscript o i pos) (qML to ti t):=by
 intro pins s U H v u Q I r h;rw[ha];refine wpAny_bind (wpAny_holding (thn (ho pins s U H _ I h) fun ov s1 ⟨x,H1,I1,r1,q1⟩=>?_));refine wpAny_bind (wpAny_holding (thn (hi pins s1 U H1 _ I1 q1) fun iv s2 ⟨y,H2,I2,r2,q2⟩=>?_));refine wpAny_bind (wpAny_standAt (wpAny_bind (wpAny_holding (thn (hs pins s2 U H2 x y v ov iv u _ I2 r1 r2 r q2) fun _ s3 ⟨H3,I3,q3⟩=>?_))));exact wpAny_release ⟨U,H3,I3,q3⟩
def qAH(te:TE)(g:TG):TS:=fun D U H=>te U H fun x H1=>g x U H1 D.nx
theorem ps_asg(he:PE X e te)(hg:PG X tg g)(hs:swapsWithSole [tg] e pos.line X.env=pure false:=by rfl)(hw:swappedStores [tg] e X.env=pure none:=by rfl)
  (h1:(assignEach [tg] X.env).map (·.2)=[assign tg X.env]:=by rfl):PS X (.Assign [tg] e pos) (qAH te g):=by
 intro pins s U H D I h;refine wpAny_Assign_stores (thn (he pins s U H _ I h) fun v s1 ⟨x,H1,I1,r1,q1⟩=>?_) hs hw;rw[h1];exact thn (hg pins s1 U H1 x v _ I1 r1 q1) fun _ s2 q=>q
theorem ps_set(hN:X.N.Nodup)(hi:X.N[i]?=some x)(hx:Loc X.env.scope x)(he:PE X e te)(hs:swapsWith e (some (.Name x pos')) pos.line X.env=pure false:=by rfl)(hf:X.fn x=true\/X.env.scope.names.lookup x=some .local:=by first | exact .inl rfl | exact .inr rfl | assumption) :
  PS X (.Assign [.Name x pos'] e pos) (qAH te (gName i)):=by
 intro pins s U H D I h;refine wpAny_Assign_Name (thn (he pins s U H _ I h) fun v s1 ⟨y,H1,I1,r1,q1⟩=>?_) hs;exact store_ok I1 hN hi hx r1 (fun s2 I2=>⟨_,H1,I2,q1⟩) hf
end
section
variable {X:Cx}{pos:Pos}
def qFg(c:TT)(tb:TS):TS:=fun D U H=>∃ W:Nat->St->Hp->Prop,(∃ m,W m U H)/\∀ m U H,W m U H ->
 c U H fun b H1=>if b=true then ∃ N:St->Hp->Prop,(∀ U' H',N U' H'->∃ m',m'<m/\W m' U' H')/\tb { D with nx:=N,ct:=N,bk:=D.nx } U H1 else D.nx U H1
theorem ps_while(hp:PassesOwn (model X.prog X.w) X.A X.env X.xe)(hc:PT X c tc)(hb:PSs X body tb):PS X (.While c body [] pos) (qFg tc tb):=by
 intro pins s U H D I h;obtain ⟨W,⟨m0,w0⟩,turn⟩:=h;refine wpAny_While (codeAny_whileLoop (fun n s'=>∃ U' H',Inv X pins U' H' s'/\W n U' H') ?_ m0 ⟨U,H,I,w0⟩)
 rintro n s1 ⟨U1,H1,I1,w1⟩
 refine wpAny_passesOwn hp (thn (hc pins s1 U1 H1 _ I1 (turn n U1 H1 w1)) fun b s2 ⟨H2,I2,q2⟩=>?_);cases b with
 |true=>
  obtain ⟨N,hN,q2⟩:=q2;rw[if_pos rfl];refine wpAny_passesOwn hp (thn (hb pins s2 U1 H2 _ I2 q2) fun f s3 q3=>?_);cases f with
  |next=>
   obtain ⟨U3,H3,I3,n3⟩:=q3;obtain ⟨m',hm,w3⟩:=hN U3 H3 n3
   exact⟨m',hm,U3,H3,I3,w3⟩
  |cont=>
   obtain ⟨U3,H3,I3,n3⟩:=q3;obtain ⟨m',hm,w3⟩:=hN U3 H3 n3
   exact⟨m',hm,U3,H3,I3,w3⟩
  |brk=>exact q3
  |ret v=>exact q3
 |false=>rw[if_neg Bool.false_ne_true];exact wpAny_execs_nil ⟨U1,H2,I2,q2⟩
end
structure It where
 go:Nat->Hp->Prop
 yld:Nat->Hp->V->Hp->Prop
 stop:Nat->Hp->Prop
def qT(X:Cx)(pins:List (Addr × Obj))(H:Hp)(b:Addr):Prop:=
 H b=none/\b≠X.env.locals/\b∉X.fs/\(b∈X.ex\/X.s₀.heap.objs.size<=b)/\(∀ x c,X.env.cells.lookup x=some c->c≠b)/\∀ p∈X.pn++pins,p.1≠b
theorem Inv.fpOk(I:Inv X pins U H s)(hb:s.heap.objs.size<=b)(hn:H' b=none):qT X pins H' b:=by
 refine⟨hn,Nat.ne_of_gt (Nat.lt_of_lt_of_le I.lt hb),I.nofs hb,.inr (Nat.le_trans I.sz hb),fun x c e z=>?_,fun p hp z=>?_⟩
 ·obtain ⟨v,q⟩:=I.cell x c e;exact absurd (Nat.lt_of_lt_of_le q.lt (by rw[z];exact hb)) (Nat.lt_irrefl _)
 ·exact absurd (Nat.lt_of_lt_of_le (Heap.lt_size (I.pin p hp).1) (by rw[z];exact hb)) (Nat.lt_irrefl _)
structure Turn (P:Program) (w:World) (K:PySem.W.Frag) (tg:Expr) (J:It) (fp:List Addr) (it:Addr) (tn:Nat->Heap->Prop):Prop where
 mem:it∈fp
 obj:∀ i h,tn i h->∀ b∈fp,∃ o,h.get? b=some o/\∀ v,o.data≠.cell v
 keep:∀ i h h',tn i h->(∀ b∈fp,∀ o,h.get? b=some o->h'.get? b=some o)->tn i h'
 item:∀ (X:Cx),X.prog=P->X.w=w->X.K=K->X.calm=true->∀ (i:Nat) (pins:List (Addr × Obj)) (s:Shared) (U:St) (H:Hp) (E:Value->Shared->Prop),Inv X pins U H s->(∀ b∈fp,qT X pins H b)->tn i s.heap->J.go i H ->
  wpAny (model P w) X.A (pyNext (.ref it)) (fun r s1=>∃ u,r=some u /\
   wpAny (model P w) X.A (letOwnedTupleGo tg (.ref it) u) (fun _ s2=>∃ x H',Inv X pins U H' s2/\RelV x u/\J.yld i H x H'/\tn (i+1) s2.heap/\∀ b∈fp,H' b=none) E s1) E s
 done:∀ (X:Cx),X.prog=P->X.w=w->X.K=K->X.calm=true->∀ (i:Nat) (pins:List (Addr × Obj)) (s:Shared) (U:St) (H:Hp) (E:Value->Shared->Prop),Inv X pins U H s->(∀ b∈fp,qT X pins H b)->tn i s.heap->J.stop i H ->
  wpAny (model P w) X.A (pyNext (.ref it)) (fun r s1=>r=none/\Inv X pins U H s1) E s
 self:∀ (A:Around) (i:Nat) (s:Shared) (Q:Value->Shared->Prop) (E:Value->Shared->Prop),tn i s.heap->Q (.ref it) s->wpAny (model P w) A (pyIter (.ref it)) Q E s
abbrev TI:=St->Hp->(It->Hp->Prop)->Prop
def PIE(X:Cx)(pins:List (Addr × Obj))(U:St)(tg:Expr)(R:It->Hp->Prop)(itv:Value)(s2:Shared):Prop:=
 ∃ (it:Addr) (fp:List Addr) (tn:Nat->Heap->Prop) (J:It) (H':Hp),itv=.ref it/\Inv X pins U H' s2/\Turn X.prog X.w X.K tg J fp it tn/\tn 0 s2.heap/\(∀ b∈fp,qT X pins H' b)/\R J H'
def PI(X:Cx)(tg iter:Expr)(wi:TI):Prop:=
 ∀ (pins:List (Addr × Obj)) (s:Shared) (U:St) (H:Hp) (R:It->Hp->Prop),Inv X pins U H s->wi U H R ->
  wpAny (model X.prog X.w) X.A (eval iter X.env) (fun v s1=>wpAny (model X.prog X.w) X.A (pyIter v) (PIE X pins U tg R) X.xe s1) X.xe s
theorem go_of(ho:s.heap.get? it=some o)(hc:o.cls=.type n)(hd:o.data=.fields vs)
    (hn:["enumerate","zip","dict_itemiterator","dict_reverseitemiterator","odict_iterator","itertools.zip_longest","itertools.pairwise"].contains n=false) (hQ:Q () s):wpAny M A (letOwnedTupleGo tg (.ref it) u) Q E s:=by
  unfold letOwnedTupleGo
  cases tg <;> first
    |exact wpAny_pure hQ
    | (cases u <;> first
        |exact wpAny_pure hQ
        | (refine wpAny_bind (wpAny_load ho ?_)
           rw[hc,hd];show wpAny M A (if (["enumerate","zip","dict_itemiterator","dict_reverseitemiterator","odict_iterator","itertools.zip_longest","itertools.pairwise"].contains n&&vs[0]? == some (rawInt _))=true then _ else _) Q E s;rw[if_neg (by intro h;rw[hn,Bool.false_and] at h;cases h)]
           exact wpAny_pure hQ))
def Itl(K:PySem.W.Frag)(a:Addr):It:=
 ⟨fun i H=>∃ xs x,SqL K H a xs/\xs[i]?=some x,fun i H x H'=>H'=H/\∀ xs,SqL K H a xs->xs[i]?=some x,fun i H=>∃ xs,SqL K H a xs/\xs.length<=i⟩
def Itt(K:PySem.W.Frag)(a:Addr):It:=
 ⟨fun i H=>∃ xs x,SqT K H a xs/\xs[i]?=some x,fun i H x H'=>H'=H/\∀ xs,SqT K H a xs->xs[i]?=some x,fun i H=>∃ xs,SqT K H a xs/\xs.length<=i⟩
def Itr(lo:Int)(n:Nat):It:=⟨fun i _=>i<n,fun i H x H'=>H'=H/\x=.int (lo+i),fun i _=>n<=i⟩
theorem turn_list{P:Program}{w:World}{K:PySem.W.Frag}{tg:Expr}(a it:Addr):Turn P w K tg (Itl K a) [it] it (fun i h=>h.IsListIter it a i) where
 mem:=by simp
 obj:=fun i h st b hb=>by
  have e:b=it:=by simpa using hb
  subst e;obtain ⟨o,e,c,d⟩:=st
  exact⟨o,e,fun v z=>by rw[d] at z;cases z⟩
 keep:=fun i h h' st k=>st.at fun o e=>k it (by simp) o e
 item:=by
  intro X hP hw hK hc i pins s U H E I hf st hg;subst hP hw hK;obtain ⟨xs,x,hq,hx⟩:=hg;obtain ⟨its,rv,p,hz⟩:=I.list hq;obtain ⟨u,hu,ru⟩:=rv.get hx;obtain ⟨f0,f1,f2,f3,f4,f5⟩:=hf it (by simp);refine wpAny_pyNext_list_item st p.isList (x:=u) (by simpa using hu) fun h' st' sb=>?_;have I1:Inv X pins U H { s with heap:=h' }:=I.turned (t':=s.toks) (fun b o hb e=>(sb.2 b hb).trans e) f0 f1 f3 f4 f5;obtain ⟨o,e,c,d⟩:=id st'
  exact⟨u,rfl,go_of (s:={ s with heap:=h' }) e c d (by decide) ⟨x,H,I1,ru,⟨rfl,fun ys hy=>by rw[I.list_inj hy hq];exact hx⟩,st',fun b hb=>(hf b hb).1⟩⟩
 done:=by
  intro X hP hw hK hc i pins s U H E I hf st hg;subst hP hw hK;obtain ⟨xs,hq,hx⟩:=hg;obtain ⟨its,rv,p,hz⟩:=I.list hq;obtain ⟨f0,f1,f2,f3,f4,f5⟩:=hf it (by simp);have hl:=rv.length;exact wpAny_pyNext_list_end (I.ok.hd hc) st p.isList (by simp;lia) fun h' eb=>⟨rfl,I.turned (t':=s.toks) (fun b o hb e=>eb b o hb e) f0 f1 f3 f4 f5⟩
 self:=fun _ _ _ _ _ st h=>wpAny_pyIter_listiter st h
theorem turn_tuple{P:Program}{w:World}{K:PySem.W.Frag}{tg:Expr}(a it:Addr):Turn P w K tg (Itt K a) [it] it (fun i h=>h.IsTupleIter it a i) where
 mem:=by simp
 obj:=fun i h st b hb=>by
  have e:b=it:=by simpa using hb
  subst e;obtain ⟨o,e,c,d⟩:=st
  exact⟨o,e,fun v z=>by rw[d] at z;cases z⟩
 keep:=fun i h h' st k=>st.at fun o e=>k it (by simp) o e
 item:=by
  intro X hP hw hK hc i pins s U H E I hf st hg;subst hP hw hK;obtain ⟨xs,x,hq,hx⟩:=hg;obtain ⟨its,rv,p,hz⟩:=I.tuple hq;obtain ⟨u,hu,ru⟩:=rv.get hx;obtain ⟨f0,f1,f2,f3,f4,f5⟩:=hf it (by simp);refine wpAny_pyNext_tuple_item st (show s.heap.IsTuple a its.toArray from p) (x:=u) (by simpa using hu) fun h' st' sb=>?_;have I1:Inv X pins U H { s with heap:=h' }:=I.turned (t':=s.toks) (fun b o hb e=>(sb.2 b hb).trans e) f0 f1 f3 f4 f5;obtain ⟨o,e,c,d⟩:=id st'
  exact⟨u,rfl,go_of (s:={ s with heap:=h' }) e c d (by decide) ⟨x,H,I1,ru,⟨rfl,fun ys hy=>by rw[I.tuple_inj hy hq];exact hx⟩,st',fun b hb=>(hf b hb).1⟩⟩
 done:=by
  intro X hP hw hK hc i pins s U H E I hf st hg;subst hP hw hK;obtain ⟨xs,hq,hx⟩:=hg;obtain ⟨its,rv,p,hz⟩:=I.tuple hq;obtain ⟨f0,f1,f2,f3,f4,f5⟩:=hf it (by simp);have hl:=rv.length;exact wpAny_pyNext_tuple_end (I.ok.hd hc) st (show s.heap.IsTuple a its.toArray from p) (by simp;lia) fun h' eb=>⟨rfl,I.turned (t':=s.toks) (fun b o hb e=>eb b o hb e) f0 f1 f3 f4 f5⟩
 self:=fun _ _ _ _ _ st h=>wpAny_pyIter_tupleiter st h
theorem qFG{P:Program}{w:World}{K:PySem.W.Frag}{tg:Expr}(it:Addr)(lo:Int)(n:Nat):Turn P w K tg (Itr lo n) [it] it (fun i h=>IsRangeIter h it (lo+(i:Nat)*1) ((n:Int)-(i:Nat)) 1) where
 mem:=by simp
 obj:=fun i h st b hb=>by
  have e:b=it:=by simpa using hb
  subst e
  exact⟨_,st,fun v z=>by
   have z':Data.fields _=Data.cell v:=z
   cases z'⟩
 keep:=fun i h h' st k=>k it (by simp) _ st
 item:=by
  intro X hP hw hK hc i pins s U H E I hf st hg;subst hP hw hK;obtain ⟨f0,f1,f2,f3,f4,f5⟩:=hf it (by simp);have W:=Walks.range (prog:=X.prog) (w:=X.w) (I.ok.hd hc) it lo 1 n;refine W.item i s _ _ hg st fun v h' tk hv st' kk=>?_;obtain ⟨t,rfl⟩:=hv;have I1:Inv X pins U H { s with heap:=h',toks:=tk }:=I.turned (fun b o hb e=>kk b o (by simpa using hb) e) f0 f1 f3 f4 f5;refine⟨_,rfl,go_of (s:={ s with heap:=h',toks:=tk }) (n:="range_iterator") st' rfl rfl (by decide) ⟨.int (lo+i),H,I1,⟨t,?_⟩,⟨rfl,rfl⟩,st',fun b hb=>(hf b hb).1⟩⟩;rw[Int.mul_one]
 done:=by
  intro X hP hw hK hc i pins s U H E I hf st hg;subst hP hw hK;obtain ⟨f0,f1,f2,f3,f4,f5⟩:=hf it (by simp);exact wpAny_pyNext_range_end (I.ok.hd hc) st (by have:n<=i:=hg;lia) fun h' eb=>⟨rfl,I.turned (t':=s.toks) (fun b o hb e=>eb b o hb e) f0 f1 f3 f4 f5⟩
 self:=fun _ _ _ _ _ st h=>wpAny_pyIter_rangeiter st h
section
variable {X:Cx}{tg:Expr}
theorem qAr{lo:Int}(I:Inv X pins U H s)(h1:-(2 ^ 62)<=lo)(h2:lo<2 ^ 62)(h3:-(2 ^ 62)<=hi)(h4:hi<2 ^ 62)
  (q:R (Itr lo (hi-lo).toNat) H):wpAny (model X.prog X.w) X.A (pyIter (.ref s.heap.objs.size)) (PIE X pins U tg R) E { s with heap:=s.heap.push { cls:=.type "range",data:=.fields #[.int lo t,.int hi u,.int 1 v] },toks:=tk }:=by
 refine wpAny_pyIter_range (IsRange.new ..) (small_one h1 h2 h3 h4) ?_;have I1:Inv X pins U H { s with heap:=s.heap.push { cls:=.type "range",data:=.fields #[.int lo t,.int hi u,.int 1 v] },toks:=tk }:=I.kept fun b o e=>Heap.get?_push_of_some _ e
 refine⟨(s.heap.push { cls:=.type "range",data:=.fields #[.int lo t,.int hi u,.int 1 v] }).objs.size,[(s.heap.push { cls:=.type "range",data:=.fields #[.int lo t,.int hi u,.int 1 v] }).objs.size],_,_,H,rfl,
  I1.kept (t':=tk) fun b o e=>Heap.get?_push_of_some _ e,qFG _ lo (hi-lo).toNat,?_,fun b hb=>?_,q⟩
 ·have e1:lo+((0:Nat):Int)*1=lo:=by simp
  have e2:(((hi-lo).toNat:Nat):Int)-((0:Nat):Int)=Builtin.Range.rangeSize lo hi 1:=by rw[rangeSize_one];split <;> lia
  show IsRangeIter _ _ (lo+((0:Nat):Int)*1) ((((hi-lo).toNat:Nat):Int)-((0:Nat):Int)) 1;rw[e1,e2];exact Heap.get?_push_size _ rfl
 ·have e:b=(s.heap.push { cls:=.type "range",data:=.fields #[.int lo t,.int hi u,.int 1 v] }).objs.size:=by simpa using hb
  subst e;exact I1.fpOk (Nat.le_refl _) (I1.hok.fresh (Nat.le_refl _))
def qLv(ta:TA):TI:=fun U H R=>ta U H fun vs H1=>∃ j:Int,vs=[.int j]/\-(2 ^ 62)<=j/\j<2 ^ 62/\R (Itr 0 j.toNat) H1
def qLu(ta:TA):TI:=fun U H R=>ta U H fun vs H1=>∃ i j:Int,vs=[.int i,.int j]/\(-(2 ^ 62)<=i/\i<2 ^ 62/\-(2 ^ 62)<=j/\j<2 ^ 62)/\R (Itr i (j-i).toNat) H1
theorem pi_range1 (hg:Gl X "range") (hm:X.mg "range"=none) (ha:PA X [a] ta) (hs:starEach [a] X.env=[(false,eval a X.env)]:=by rfl):PI X tg (.Call (.Name "range" p) [a] [] pos) (qLv ta):=by
 intro pins s U H R I h;refine Call_ (uZ I hg hm boot_range (PyProof.Rows.callWith_type1 (thn (ha pos pins s U H _ I h) fun us s1 ⟨vs,H1,I1,r1,q1⟩=>?_) hs rfl));obtain ⟨j,e,q1,q2,q⟩:=q1;subst e;cases r1 with
 |cons r rr=>cases rr;obtain ⟨t,rfl⟩:=r;exact call_range_1 (qAr I1 (by lia) (by lia) q1 q2 (by simpa using q))
theorem pi_range2 (hg:Gl X "range") (hm:X.mg "range"=none) (ha:PA X [a,b] ta) (hs:starEach [a,b] X.env=[(false,eval a X.env),(false,eval b X.env)]:=by rfl) (hs2:starEach [b] X.env=[(false,eval b X.env)]:=by rfl) :
  PI X tg (.Call (.Name "range" p) [a,b] [] pos) (qLu ta):=by
 intro pins s U H R I h;refine Call_ (uZ I hg hm boot_range (PyProof.Rows.callWith_type1 (thn (ha pos pins s U H _ I h) fun us s1 ⟨vs,H1,I1,r1,q1⟩=>?_) (by rw[hs,hs2]) (by rw[hs2];rfl)));obtain ⟨i,j,e,⟨q1,q2,q3,q4⟩,q⟩:=q1;subst e;cases r1 with
 |cons r rr=>
  cases rr with
  |cons r' rr=>cases rr;obtain ⟨t,rfl⟩:=r;obtain ⟨t',rfl⟩:=r';exact call_range_2 (qAr I1 q1 q2 q3 q4 q)
def qFr(wi:TI)(g:TG)(tb:TS):TS:=fun D U H=>wi U H fun J H1=>∃ W:Nat->Nat->St->Hp->Prop,(∃ m,W 0 m U H1)/\∀ i m U H,W i m U H ->
 (J.stop i H/\D.nx U H)\/(J.go i H/\∃ N:St->Hp->Prop,(∀ U' H',N U' H'->∃ m',m'<m/\W (i+1) m' U' H')/\∀ x H',J.yld i H x H'->g x U H' fun U2 H2=>tb { D with nx:=N,ct:=N,bk:=D.nx } U2 H2)
def pinsAt(fp:List Addr)(h:Heap):List (Addr × Obj):=fp.filterMap fun b=>(h.get? b).map fun o=>(b,o)
theorem mem_pinsAt(hb:b∈fp)(e:h.get? b=some o):(b,o)∈pinsAt fp h:=List.mem_filterMap.mpr ⟨b,hb,by rw[e];rfl⟩
theorem qHg(hp:p∈pinsAt fp h):p.1∈fp/\h.get? p.1=some p.2:=by
 obtain ⟨b,hb,e⟩:=List.mem_filterMap.mp hp;cases q:h.get? b with
 |none=>rw[q] at e;cases e
 |some o=>
  rw[q] at e;have e':(b,o)=p:=Option.some.inj e;subst e'
  exact⟨hb,q⟩
theorem Inv.pinned(I:Inv X pins U H s)(hf:∀ b∈fp,qT X pins H b)(ho:∀ b∈fp,∃ o,s.heap.get? b=some o/\∀ v,o.data≠.cell v):Inv X (pins++pinsAt fp s.heap) U H s:=
 I.pins_of fun p hp=>(List.mem_append.mp hp).elim (fun z=>I.pin p (List.mem_append_right _ z)) fun z=>by
  obtain ⟨hb,e⟩:=qHg z;obtain ⟨f0,f1,f2,_⟩:=hf p.1 hb;obtain ⟨o,e',d⟩:=ho p.1 hb;rw[e] at e';cases e'
  exact⟨e,f0,f1,f2,d⟩
theorem Inv.unpinned(I:Inv X (pins++pl) U H s):Inv X pins U H s:=I.pins_of fun p hp=>I.pin p (List.mem_append_right _ (List.mem_append_left _ hp))
theorem ps_for(hp:PassesOwn (model X.prog X.w) X.A X.env X.xe)(hc:X.calm=true)(hi:PI X tg iter wi)(hg:PG X tg g)(hb:PSs X body tb)
  (hs:∀ x,foldedSetIterable iter X.env x=pure x:=by intro _;rfl):PS X (.For tg iter body [] pos) (qFr wi g tb):=by
 intro pins s U H D I h;refine wpAny_For (thn (hi pins s U H _ I h) fun v s1 h1=>thn h1 fun itv s2 h2=>?_) hs;obtain ⟨it,fp,tn,J,H2,e,I2,T,st2,f2,W,⟨m0,w0⟩,turn⟩:=h2;subst e;have stat:∀ {H':Hp},(∀ b∈fp,H' b=none)->∀ b∈fp,qT X pins H' b:=fun hn b hb=>⟨hn b hb,(f2 b hb).2⟩;refine codeAny_forLoop_any (fun n s'=>∃ i U' H',Inv X pins U' H' s'/\tn i s'.heap/\(∀ b∈fp,H' b=none)/\W i n U' H') ?_ m0 ⟨0,U,H2,I2,st2,fun b hb=>(f2 b hb).1,w0⟩
 rintro n s3 ⟨i,U3,H3,I3,st3,fr3,w3⟩
 rcases turn i n U3 H3 w3 with⟨stop,qn⟩ | ⟨go,N,hN,step⟩
 ·refine wpAny_passesOwn hp (thn (T.done X rfl rfl rfl hc i pins s3 U3 H3 X.xe I3 (stat fr3) st3 stop) fun r s4 ⟨hr,I4⟩=>?_);subst hr;exact wpAny_execs_nil ⟨U3,H3,I4,qn⟩
 ·refine wpAny_passesOwn hp (thn (T.item X rfl rfl rfl hc i pins s3 U3 H3 X.xe I3 (stat fr3) st3 go) fun r s4 ⟨u,hr,h4⟩=>?_);subst hr;refine wpAny_passesOwn hp (thn h4 fun _ s5 ⟨x,H5,I5,r5,y5,st5,fr5⟩=>?_);have I5':=I5.pinned (stat fr5) (T.obj _ _ st5);refine wpAny_passesOwn hp (thn (hg _ s5 U3 H5 x u _ I5' r5 (step x H5 y5)) fun _ s6 ⟨U6,H6,I6,q6⟩=>?_);refine wpAny_passesOwn hp (thn (hb _ s6 U6 H6 _ I6 q6) fun f s7 q7=>?_)
  have again:∀ {U7:St} {H7:Hp},Inv X (pins++pinsAt fp s5.heap) U7 H7 s7->N U7 H7->∃ m,m<n/\∃ i U' H',Inv X pins U' H' s7/\tn i s7.heap/\(∀ b∈fp,H' b=none)/\W i m U' H':=fun {U7 H7} I7 n7=>by
   obtain ⟨m',hm,w7⟩:=hN U7 H7 n7;refine⟨m',hm,i+1,U7,H7,I7.unpinned,T.keep _ _ _ st5 fun b hb o e=>(I7.pin (b,o) (List.mem_append_right _ (List.mem_append_right _ (mem_pinsAt hb e)))).1,fun b hb=>?_,w7⟩;obtain ⟨o,e,d⟩:=T.obj _ _ st5 b hb;exact (I7.pin (b,o) (List.mem_append_right _ (List.mem_append_right _ (mem_pinsAt hb e)))).2.1
  cases f with
  |next=>obtain ⟨U7,H7,I7,n7⟩:=q7;exact again I7 n7
  |cont=>obtain ⟨U7,H7,I7,n7⟩:=q7;exact again I7 n7
  |brk=>obtain ⟨U7,H7,I7,q7⟩:=q7;exact⟨U7,H7,I7.unpinned,q7⟩
  |ret v=>obtain ⟨x7,U7,H7,I7,r7,q7⟩:=q7;exact⟨x7,U7,H7,I7.unpinned,r7,q7⟩
end
abbrev R2:=V->V->Hp->VK->Prop
def OpR(X:Cx)(f:Value->Value->Sem Value)(r:R2):Prop:=
 ∀ (pins:List (Addr × Obj)) (s:Shared) (U:St) (H:Hp) (x y:V) (v u:Value) (Q:VK),Inv X pins U H s->RelV x v->RelV y u->r x y H Q ->
  wpAny (model X.prog X.w) X.A (f v u) (EP X pins U Q) X.xe s
def UnR(X:Cx)(f:Value->Sem Value)(r:V->Hp->VK->Prop):Prop:=
 ∀ (pins:List (Addr × Obj)) (s:Shared) (U:St) (H:Hp) (x:V) (v:Value) (Q:VK),Inv X pins U H s->RelV x v->r x H Q ->
  wpAny (model X.prog X.w) X.A (f v) (EP X pins U Q) X.xe s
def qM(X:Cx)(f:Value)(r:List V->Hp->VK->Prop):Prop:=
 ∀ (pins:List (Addr × Obj)) (s:Shared) (U:St) (H:Hp) (xs:List V) (us:List Value) (Q:VK),Inv X pins U H s->Vals xs us->r xs H Q ->
  wpAny (model X.prog X.w) X.A (call f us) (EP X pins U Q) X.xe s
def qRA(X:Cx)(r:V->Hp->(Bool->Hp->Prop)->Prop):Prop:=
 ∀ (pins:List (Addr × Obj)) (s:Shared) (U:St) (H:Hp) (x:V) (v:Value) (Q:Bool->Hp->Prop),Inv X pins U H s->RelV x v->r x H Q ->
  wpAny (model X.prog X.w) X.A (truthy v) (TP X pins U Q) X.xe s
def tOp(r:R2)(ta tb:TE):TE:=fun U H Q=>ta U H fun x H1=>tb U H1 fun y H2=>r x y H2 Q
def tUn(r:V->Hp->VK->Prop)(ta:TE):TE:=fun U H Q=>ta U H fun x H1=>r x H1 Q
def rI(C:Int->Int->Prop)(g:Int->Int->V):R2:=fun x y H Q=>∃ i j,x=.int i/\y=.int j/\C i j/\Q (g i j) H
def rI0(g:Int->Int->V):R2:=fun x y H Q=>∃ i j,x=.int i/\y=.int j/\Q (g i j) H
def rU(g:Int->V):V->Hp->VK->Prop:=fun x H Q=>∃ i,x=.int i/\Q (g i) H
section
variable {X:Cx}{a b c:Expr}{ta tb tc:TE}{pos:Pos}
theorem pL(ha:PE X a ta)(hb:PE X b tb){R:V->V->Hp->Prop}(I:Inv X pins U H s)
  (h:ta U H fun x H1=>tb U H1 fun y H2=>R x y H2) {f:Value->Value->Sem Value}
  (hf:∀ v u s2 x y H2,Inv X pins U H2 s2->RelV x v->RelV y u->R x y H2->wpAny (model X.prog X.w) X.A (f v u) Q X.xe s2) :
  wpAny (model X.prog X.w) X.A (eval a X.env) (fun v s₁=>wpAny (model X.prog X.w) X.A (eval b X.env) (fun u s₂=>wpAny (model X.prog X.w) X.A (f v u) Q X.xe s₂) X.xe s₁) X.xe s:=by
 refine thn (ha pins s U H _ I h) fun v s1 ⟨x,H1,I1,r1,q1⟩=>?_;refine thn (hb pins s1 U H1 _ I1 q1) fun u s2 ⟨y,H2,I2,r2,q2⟩=>?_;exact hf v u s2 x y H2 I2 r1 r2 q2
theorem pe_op(ho:OpR X (binaryOp op) r)(ha:PE X a ta)(hb:PE X b tb):PE X (.BinOp a op b pos) (tOp r ta tb):=by
 intro pins s U H Q I h;exact wpAny_BinOp (pL ha hb I h fun v u s2 x y H2 I2 rx ry q=>ho pins s2 U H2 x y v u Q I2 rx ry q)
theorem pe_un(ho:UnR X (unaryOp op) r)(ha:PE X a ta):PE X (.UnaryOp op a pos) (tUn r ta):=by
 intro pins s U H Q I h;exact UnaryOp_ (thn (ha pins s U H _ I h) fun v s1 ⟨x,H1,I1,r1,q1⟩=>ho pins s1 U H1 x v Q I1 r1 q1)
theorem opI{g:Int->Int->Int}
  (rule:∀ (i j:Int) (t u:Tok) (s:Shared) (Q:Value->Shared->Prop) (E:Value->Shared->Prop),C i j->Q (.int (g i j) s.toks) { s with toks:=s.toks+1 }->wpAny (model X.prog X.w) X.A (f (.int i t) (.int j u)) Q E s) :
  OpR X f (rI C fun i j=>.int (g i j)):=by
 intro pins s U H x y v u Q I rx ry h;obtain ⟨i,j,rfl,rfl,hc,q⟩:=h;obtain ⟨t,rfl⟩:=rx;obtain ⟨t',rfl⟩:=ry;exact rule i j t t' s _ _ hc ⟨.int (g i j),H,I.tok _,⟨_,rfl⟩,q⟩
theorem qBE{g:Int->Int->Int}
  (rule:∀ (i j:Int) (t u:Tok) (s:Shared) (Q:Value->Shared->Prop) (E:Value->Shared->Prop),Q (.int (g i j) s.toks) { s with toks:=s.toks+1 }->wpAny (model X.prog X.w) X.A (f (.int i t) (.int j u)) Q E s) :
  OpR X f (rI0 fun i j=>.int (g i j)):=by
 intro pins s U H x y v u Q I rx ry h;obtain ⟨i,j,rfl,rfl,q⟩:=h;obtain ⟨t,rfl⟩:=rx;obtain ⟨t',rfl⟩:=ry;exact rule i j t t' s _ _ ⟨.int (g i j),H,I.tok _,⟨_,rfl⟩,q⟩
theorem bG{g:Int->Int->Bool}
  (rule:∀ (i j:Int) (t u:Tok) (s:Shared) (Q:Value->Shared->Prop) (E:Value->Shared->Prop),Q (.bool (g i j)) s->wpAny (model X.prog X.w) X.A (f (.int i t) (.int j u)) Q E s) :
  OpR X f (rI0 fun i j=>.bl (g i j)):=by
 intro pins s U H x y v u Q I rx ry h;obtain ⟨i,j,rfl,rfl,q⟩:=h;obtain ⟨t,rfl⟩:=rx;obtain ⟨t',rfl⟩:=ry;exact rule i j t t' s _ _ ⟨.bl (g i j),H,I,rfl,q⟩
def qRD(i j:Int):Prop:=0<j/\j<1073741824
def CMul(i j:Int):Prop:=(-(2 ^ 64)<i/\i<2 ^ 64)\/(-(2 ^ 64)<j/\j<2 ^ 64)
theorem CMul.ok(h:CMul i j):IntMulOk i j:=by
 rcases h with⟨h1,h2⟩ | ⟨h1,h2⟩
 ·exact .of_left (intBits_le_64 h1 h2)
 ·exact .of_right (intBits_le_64 h1 h2)
theorem op_add:OpR X (binaryOp .Add) (rI0 fun i j=>.int (i+j)):=qBE fun _ _ _ _ _ _ _ q=>add_int q
theorem op_sub:OpR X (binaryOp .Sub) (rI0 fun i j=>.int (i-j)):=qBE fun _ _ _ _ _ _ _ q=>sub_int q
theorem op_mul:OpR X (binaryOp .Mult) (rI CMul fun i j=>.int (i*j)):=opI fun _ _ _ _ _ _ _ hc q=>mul_int q hc.ok
theorem op_fdiv:OpR X (binaryOp .FloorDiv) (rI qRD fun i j=>.int (i / j)):=opI fun i j _ _ _ _ _ hc q=>by
 have h1:(0:Int)<j:=hc.1;have h2:j<1073741824:=hc.2;exact floordiv_int (by lia) (by rw[Int.fdiv_eq_ediv_of_nonneg i (by lia)];exact q) (.inl (PyProof.noPylong_small (by lia)))
theorem op_mod:OpR X (binaryOp .Mod) (rI (fun _ j=>0<j) fun i j=>.int (i % j)):=opI fun i j _ _ _ _ _ hc q=>by
 have h1:(0:Int)<j:=hc;exact mod_int' (by lia) (by rw[Int.fmod_eq_emod_of_nonneg i (by lia)];exact q)
theorem unI{g:Int->Int}
  (rule:∀ (i:Int) (t:Tok) (s:Shared) (Q:Value->Shared->Prop) (E:Value->Shared->Prop),Q (.int (g i) s.toks) { s with toks:=s.toks+1 }->wpAny (model X.prog X.w) X.A (f (.int i t)) Q E s) :
  UnR X f (rU fun i=>.int (g i)):=by
 intro pins s U H x v Q I rx h;obtain ⟨i,rfl,q⟩:=h;obtain ⟨t,rfl⟩:=rx;exact rule i t s _ _ ⟨.int (g i),H,I.tok _,⟨_,rfl⟩,q⟩
theorem un_neg:UnR X (unaryOp .USub) (rU fun i=>.int (-i)):=unI fun _ _ _ _ _ q=>neg_int q
end
section
variable {X:Cx}{a b c:Expr}{ta tb tc:TE}{pos:Pos}
theorem op_lt:OpR X (compareOp .Lt) (rI0 fun i j=>.bl (decide (i<j))):=bG fun _ _ _ _ _ _ _ q=>lt_int q
theorem op_le:OpR X (compareOp .LtE) (rI0 fun i j=>.bl (decide (i<=j))):=bG fun _ _ _ _ _ _ _ q=>le_int q
theorem op_gt:OpR X (compareOp .Gt) (rI0 fun i j=>.bl (decide (j<i))):=bG fun _ _ _ _ _ _ _ q=>gt_int q
theorem op_ge:OpR X (compareOp .GtE) (rI0 fun i j=>.bl (decide (j<=i))):=bG fun _ _ _ _ _ _ _ q=>ge_int q
theorem qRF(b:Expr)(h:op≠.In:=by decide)(h2:op≠.NotIn:=by decide):behindInMarks op b=false:=by
 have e1:(op == CmpOp.In)=false:=by cases op <;> first | rfl | exact absurd rfl h
 have e2:(op == CmpOp.NotIn)=false:=by cases op <;> first | rfl | exact absurd rfl h2
 cases b <;> simp[behindInMarks,e1,e2]
theorem pe_cmpR(ho:OpR X (compareOp op) r)(ha:PE X a ta)(hb:PE X b tb)(hm:behindInMarks op b=false):PE X (.Compare a [op] [b] pos) (tOp r ta tb):=by
 intro pins s U H Q I h;exact wpAny_Compare1 (pL ha hb I h fun v u s2 x y H2 I2 rx ry q=>ho pins s2 U H2 x y v u Q I2 rx ry q) hm
def qAF(t:TE):TT:=fun U H Q=>t U H fun x H'=>∃ k,x=.bl k/\Q k H'
theorem pt_cmpR(ho:OpR X (compareOp op) r)(ha:PE X a ta)(hb:PE X b tb)(hm:behindInMarks op b=false):PT X (.Compare a [op] [b] pos) (qAF (tOp r ta tb)):=by
 intro pins s U H Q I h
 refine wpAny_isTrue_Compare1 (thn (ha pins s U H _ I h) fun v s1 ⟨x,H1,I1,r1,q1⟩=>thn (hb pins s1 U H1 _ I1 q1) fun u s2 ⟨y,H2,I2,r2,q2⟩=>
  thn (ho pins s2 U H2 x y v u _ I2 r1 r2 q2) fun c s3 ⟨z,H3,I3,r3,k,e,q3⟩=>?_) hm
 subst e;cases r3;exact wpAny_truthy_bool ⟨H3,I3,q3⟩
def tChain(r r':R2)(ta tb tc:TE):TE:=fun U H Q=>ta U H fun x H1=>tb U H1 fun y H2=>r x y H2 fun z H3=>∃ k,z=.bl k /\
 (if k=true then tc U H3 fun w' H4=>r' y w' H4 Q else Q (.bl false) H3)
theorem pe_chain(ho:OpR X (compareOp op) r)(ho':OpR X (compareOp op') r')(ha:PE X a ta)(hb:PE X b tb)(hc:PE X c tc)
  (hm:lastMarks [op,op'] [b,c]=false:=by with_unfolding_all rfl):PE X (.Compare a [op,op'] [b,c] pos) (tChain r r' ta tb tc):=by
 intro pins s U H Q I h
 refine Compare_chain (thn (ha pins s U H _ I h) fun v s1 ⟨x,H1,I1,r1,q1⟩=>chain_link (thn (hb pins s1 U H1 _ I1 q1) fun u s2 ⟨y,H2,I2,r2,q2⟩=>
  thn (ho pins s2 U H2 x y v u _ I2 r1 r2 q2) fun d s3 ⟨z,H3,I3,r3,k,e,q3⟩=>?_)) hm
 subst e;cases r3;refine wpAny_truthy_bool ?_;cases k with
 |false=>exact ite_ff ⟨.bl false,H3,I3,rfl,q3⟩
 |true=>exact ite_tt (chain_last (thn (hc pins s3 U H3 _ I3 q3) fun w' s4 ⟨z',H4,I4,r4,q4⟩=>ho' pins s4 U H4 y z' u w' Q I4 r2 r4 q4))
theorem pt_chain(ho:OpR X (compareOp op) r)(ho':OpR X (compareOp op') r')(ha:PE X a ta)(hb:PE X b tb)(hc:PE X c tc)
  (hm:lastMarks [op,op'] [b,c]=false:=by with_unfolding_all rfl):PT X (.Compare a [op,op'] [b,c] pos) (qAF (tChain r r' ta tb tc)):=by
 intro pins s U H Q I h
 refine isTrue_chain (thn (ha pins s U H _ I h) fun v s1 ⟨x,H1,I1,r1,q1⟩=>test_link (thn (hb pins s1 U H1 _ I1 q1) fun u s2 ⟨y,H2,I2,r2,q2⟩=>
  thn (ho pins s2 U H2 x y v u _ I2 r1 r2 q2) fun d s3 ⟨z,H3,I3,r3,k,e,q3⟩=>?_)) hm
 subst e;cases r3;refine wpAny_truthy_bool ?_;cases k with
 |false=>obtain ⟨k',e',q'⟩:=q3;cases e';exact ite_ff ⟨H3,I3,q'⟩
 |true=>refine ite_tt (test_last (thn (hc pins s3 U H3 _ I3 q3) fun w' s4 ⟨z',H4,I4,r4,q4⟩=>thn (ho' pins s4 U H4 y z' u w' _ I4 r2 r4 q4) fun d' s5 ⟨z2,H5,I5,r5,k2,e2,q5⟩=>?_));subst e2;cases r5;exact wpAny_truthy_bool ⟨H5,I5,q5⟩
def TruV(K:PySem.W.Frag)(x:V)(H:Hp)(k:Bool):Prop:=
 match x with
 | .non=>k=false
 | .bl b=>k=b
 | .int i=>k=(i != 0)
 | .str y=>y.length<=sizeLine/\k=((y.length:Int) != 0)
 | .byt y=>y.size<=sizeLine/\k=((y.size:Int) != 0)
 | .ref p=>(∃ xs,SqL K H p xs/\k=!xs.isEmpty)\/(∃ xs,SqT K H p xs/\k=!xs.isEmpty)\/∃ kvs,H p=some (.dK kvs)/\k=!kvs.isEmpty
 |_=>False
theorem qLB{κ:Type}{kvs:List (κ × V)}{vs:List (κ × Value)}(r:KV kvs vs):(!vs.isEmpty)=!kvs.isEmpty:=by
 cases r <;> rfl
theorem qCI(r:Vals xs its):(!its.toArray.isEmpty)=!xs.isEmpty:=by
 cases r <;> simp
theorem yR:(sizeLine:Nat)<2 ^ 63:=by rw[sizeLine_eq];decide
theorem tru_ok:qRA X (fun x H Q=>∃ k,TruV X.K x H k/\Q k H):=by
 intro pins s U H x v Q I rx h;obtain ⟨k,e,q⟩:=h;have hl:=yR;have hs:sizeLine=16777216:=sizeLine_eq;cases x with
 |non=>cases rx;have e':k=false:=e;subst e';exact truthy_none ⟨H,I,q⟩
 |bl b=>cases rx;have e':k=b:=e;subst e';exact wpAny_truthy_bool ⟨H,I,q⟩
 |int i=>obtain ⟨t,rfl⟩:=rx;have e':k=(i != 0):=e;subst e';exact PySem.P.truthy_int ⟨H,I,q⟩
 |str y=>obtain ⟨t,rfl⟩:=rx;obtain ⟨hy,e'⟩:y.length<=sizeLine/\k=((y.length:Int) != 0):=e;subst e';exact PySem.P.truthy_str (by lia) ⟨H,I.tok _,q⟩
 |byt y=>obtain ⟨t,rfl⟩:=rx;obtain ⟨hy,e'⟩:y.size<=sizeLine/\k=((y.size:Int) != 0):=e;subst e';exact PySem.W.truthy_bytes (by lia) ⟨H,I.tok _,q⟩
 |ref p=>
  cases rx;have e':(∃ xs,SqL X.K H p xs/\k=!xs.isEmpty)\/(∃ xs,SqT X.K H p xs/\k=!xs.isEmpty)\/∃ kvs,H p=some (.dK kvs)/\k=!kvs.isEmpty:=e;rcases e' with⟨xs,hx,e'⟩ | ⟨xs,hx,e'⟩ | ⟨kvs,hx,e'⟩
  ·subst e';obtain ⟨its,r,pl,hz⟩:=I.list hx;have hlen:=r.length;exact wpAny_truthy_list pl.isList (by simp only[List.size_toArray];lia) ⟨H,I.tok _,by rw[qCI r];exact q⟩
  ·subst e';obtain ⟨its,r,pl,hz⟩:=I.tuple hx;have hlen:=r.length;exact truthy_tuple pl (by simp only[List.size_toArray];lia) ⟨H,I.tok _,by rw[qCI r];exact q⟩
  ·subst e';obtain ⟨hz,hS,vs,r,m⟩:kvs.length<=sizeLine/\(p == sysModules)=false/\∃ vs,KV kvs vs/\s.heap.DictOf (mixKind X.prog X.w) p vs:=I.hok p _ hx;have hlen:kvs.length=vs.length:=Paired.length r;exact wpAny_truthy_dict hS m (by lia) ⟨H,I.tok _,by rw[qLB r];exact q⟩
 |_=>exact (show False from e).elim
theorem pt_truth(ha:PE X a ta)(he:∀ whole,isTrue a X.env whole=(do let v <- whole;standAt a.pos;holding [v] (truthy v))) :
  PT X a (fun U H Q=>ta U H fun x H'=>∃ k,TruV X.K x H' k/\Q k H'):=by
 intro pins s U H Q I h;exact isTrue_plain (thn (ha pins s U H _ I h) fun v s1 ⟨x,H1,I1,r1,q1⟩=>tru_ok pins s1 U H1 x v Q I1 r1 q1) (he _)
theorem op_add_str:OpR X (binaryOp .Add) (fun x y H Q=>∃ i j,x=.str i/\y=.str j/\i.length+j.length<=sizeLine/\Q (.str (i++j)) H):=by
 intro pins s U H x y v u Q I rx ry h;obtain ⟨i,j,rfl,rfl,hz,q⟩:=h;obtain ⟨t,rfl⟩:=rx;obtain ⟨t',rfl⟩:=ry;exact add_str (fun t' tk=>⟨.str (i++j),H,I.tok _,⟨_,rfl⟩,q⟩) hz
theorem vals1(r:Vals [x] us):∃ u,us=[u]/\RelV x u:=by
 cases r with
 |cons r1 r2=>cases r2;exact⟨_,rfl,r1⟩
theorem tP(r:Vals [x,y] us):∃ u w',us=[u,w']/\RelV x u/\RelV y w':=by
 cases r with
 |cons r1 r2=>
  cases r2 with
  |cons r3 r4=>cases r4;exact⟨_,_,rfl,r1,r3⟩
theorem call_max2 (hc:X.calm=true):qM X (.builtin "max") (fun xs H Q=>∃ i j,xs=[.int i,.int j]/\Q (.int (if j > i then j else i)) H):=by
 intro pins s U H xs us Q I r h;obtain ⟨i,j,rfl,q⟩:=h;obtain ⟨u,w',rfl,⟨t,rfl⟩,⟨t',rfl⟩⟩:=tP r;refine max_two_ints (I.ok.hd hc) fun h' tk k=>⟨_,H,I.kept k,?_,q⟩
 by_cases hj:j > i
 ·rw[if_pos hj,if_pos hj];exact⟨_,rfl⟩
 ·rw[if_neg hj,if_neg hj];exact⟨_,rfl⟩
theorem call_min2 (hc:X.calm=true):qM X (.builtin "min") (fun xs H Q=>∃ i j,xs=[.int i,.int j]/\Q (.int (if j<i then j else i)) H):=by
 intro pins s U H xs us Q I r h;obtain ⟨i,j,rfl,q⟩:=h;obtain ⟨u,w',rfl,⟨t,rfl⟩,⟨t',rfl⟩⟩:=tP r;refine min_two_ints (I.ok.hd hc) fun h' tk k=>⟨_,H,I.kept k,?_,q⟩
 by_cases hj:j<i
 ·rw[if_pos hj,if_pos hj];exact⟨_,rfl⟩
 ·rw[if_neg hj,if_neg hj];exact⟨_,rfl⟩
theorem call_int1:qM X (.type "int") (fun xs H Q=>(∃ i,xs=[.int i]/\Q (.int i) H)\/∃ k,xs=[.bl k]/\Q (.int (if k then 1 else 0)) H):=by
 intro pins s U H xs us Q I r h;rcases h with⟨i,rfl,q⟩ | ⟨k,rfl,q⟩
 ·obtain ⟨u,rfl,t,rfl⟩:=vals1 r;exact call_int_int ⟨.int i,H,I,⟨_,rfl⟩,q⟩
 ·obtain ⟨u,rfl,r1⟩:=vals1 r;cases r1;exact call_int_bool ⟨.int (if k then 1 else 0),H,I.tok _,⟨_,rfl⟩,q⟩
theorem call_str_int:qM X (.type "str") (fun xs H Q=>∃ i,xs=[.int i]/\i.natAbs.log2<1920/\Q (.str (toString i)) H):=by
 intro pins s U H xs us Q I r h;obtain ⟨i,rfl,hz,q⟩:=h;obtain ⟨u,rfl,t,rfl⟩:=vals1 r;exact PySem.P.str_of_int hz ⟨.str _,H,I.tok _,⟨_,rfl⟩,q⟩
theorem call_ord:qM X (.builtin "ord") (fun xs H Q=>∃ x,xs=[.str x]/\x.length=1/\Q (.int (x.cps.getD 0 0:Nat)) H):=by
 intro pins s U H xs us Q I r h;obtain ⟨x,rfl,hz,q⟩:=h;obtain ⟨u,rfl,t,rfl⟩:=vals1 r;exact ord_of_one hz ⟨.int _,H,I.tok _,⟨_,rfl⟩,q⟩
def qRB(K:PySem.W.Frag)(x:V)(H:Hp)(n:Nat):Prop:=
 match x with
 | .str y=>y.length<=sizeLine/\n=y.length
 | .byt y=>y.size<=sizeLine/\n=y.size
 | .ref p=>(∃ xs,SqL K H p xs/\n=xs.length)\/∃ xs,SqT K H p xs/\n=xs.length
 |_=>False
theorem call_len:qM X (.builtin "len") (fun xs H Q=>∃ x n,xs=[x]/\qRB X.K x H n/\Q (.int n) H):=by
 intro pins s U H xs us Q I r h;obtain ⟨x,n,rfl,e,q⟩:=h;obtain ⟨u,rfl,rx⟩:=vals1 r;have hl:=yR;have hs:sizeLine=16777216:=sizeLine_eq;cases x with
 |str y=>obtain ⟨t,rfl⟩:=rx;obtain ⟨hy,e'⟩:y.length<=sizeLine/\n=y.length:=e;subst e';exact len_str (by lia) ⟨.int _,H,I.tok _,⟨_,rfl⟩,q⟩
 |byt y=>obtain ⟨t,rfl⟩:=rx;obtain ⟨hy,e'⟩:y.size<=sizeLine/\n=y.size:=e;subst e';exact PySem.W.len_bytes (by lia) ⟨.int _,H,I.tok _,⟨_,rfl⟩,q⟩
 |ref p=>
  cases rx;have e':(∃ xs,SqL X.K H p xs/\n=xs.length)\/∃ xs,SqT X.K H p xs/\n=xs.length:=e;rcases e' with⟨xs,hx,e'⟩ | ⟨xs,hx,e'⟩
  ·subst e';obtain ⟨its,r',pl,hz⟩:=I.list hx;have hlen:=r'.length;exact Calls.call_len_list pl.isList (by simp only[List.size_toArray];lia) ⟨.int xs.length,H,I.tok _,⟨_,by simp only[List.size_toArray];rw[hlen]⟩,q⟩
  ·subst e';obtain ⟨its,r',pl,hz⟩:=I.tuple hx;have hlen:=r'.length;exact len_tuple pl (by simp only[List.size_toArray];lia) ⟨.int xs.length,H,I.tok _,⟨_,by simp only[List.size_toArray];rw[hlen]⟩,q⟩
 |_=>exact (show False from e).elim
end
structure ObjM (h:Heap) (x dx C:Addr) (mA:Str->Option Value):Prop where
 obj:h.get? x=some (PySem.W.instObj C dx)
 ns:h.Ns1 dx mA
 ne:dx≠x
theorem qKJ{h:Heap}(n:h.Ns1 dx mA):∃ od,h.get? dx=some od/\∀ name,PySem.W.lookIn name od=some (mA name):=by
 obtain ⟨o,es,ep,ho,hd,hk,_,hm⟩:=n;refine⟨o,ho,fun name=>?_⟩;have e:=hm name;unfold nsFind findBy at e;rw[<- Array.find?_toList] at e;unfold PySem.W.lookIn;rw[hd];dsimp only;split
 ·rename_i y q;rw[q] at e;exact congrArg some e
 ·rename_i q;rw[q] at e
  have a:es.toList.any (·.refKey)=false:=by
   rw[List.any_eq_false];intro y hy;obtain ⟨z,t,hkey⟩:=hk y (Array.mem_toList_iff.mp hy);simp[DictEntry.refKey,hkey]
  have a':¬ es.toList.any (·.refKey)=true:=by rw[a];exact Bool.false_ne_true
  rw[if_neg a'];exact congrArg some e
theorem ObjM.look(I:ObjM h x dx C mA):∃ od,PySem.W.InstAt h x (PySem.W.instObj C dx) C (some od)/\∀ name,PySem.W.lookIn name od=some (mA name):=
 let ⟨od,ho,hl⟩:=qKJ I.ns
 ⟨od,⟨I.obj,rfl,rfl,ho⟩,hl⟩
section
variable {prog:Program}{w:World}{A:Around}{E:Value->Shared->Prop}{s:Shared}{K:PySem.W.Frag}{x dx C f:Addr}{mA:Str->Option Value}{name:Str}{v:Value}
theorem qMJ(X:K.In s.heap)(I:ObjM s.heap x dx C mA)(hg:PySem.W.plainGet K C name=true)(hh:PySem.W.hasDictIn K C=true)
  (ha:PySem.W.findIn K (.ref C) name=some none) (hv:mA name=some v) (hv':PySem.W.handedIn v=true) (h:Q v { s with toks:=s.toks+1 }) :
  wpAny (model prog w) A (getAttr (.ref x) name expr) Q E s:=by
 obtain ⟨od,J,hl⟩:=I.look;exact PySem.W.get_value X J (PySem.W.plainGet_of hg).1 (PySem.W.findObj_own hh ha rfl (by rw[hl,hv])) hv' h
theorem qMI(X:K.In s.heap)(I:ObjM s.heap x dx C mA)(hg:PySem.W.plainGet K C name=true)
  (hf:PySem.W.findIn K (.ref C) name=some (some (.ref f))) (ht:PySem.W.isFn K (.ref f)=true) (hv:mA name=none) (h:Q (.ref f,[.ref x]) s) :
  wpAny (model prog w) A (getMethod (.ref x) name pl) Q E s:=by
 obtain ⟨od,J,hl⟩:=I.look;exact PySem.W.method_fn X J (PySem.W.plainGet_of hg).1 (PySem.W.plainGet_of hg).2 hf (beq_iff_eq.mp ht) (by show (PySem.W.lookIn name od).map (·.isSome)=some false;rw[hl,hv];rfl) h
theorem qGU(X:K.In s.heap)(I:ObjM s.heap x dx C mA)
  (hs:PySem.W.findIn K (.ref C) "__setattr__"=some (some (.builtin "object.__setattr__"))) (hp:PySem.W.plainOver K C=true) (ht:PySem.W.takerIn K C name=some none) (hh:PySem.W.hasDictIn K C=true)
  (hw:PySem.Within mA ns) (hsz:ns.length<=sizeLine)
  (h:∀ h',ObjM h' x dx C (fun y=>if y=name then some v else mA y)->Heap.SameBut dx s.heap h'->Q () { s with heap:=h',toks:=s.toks+2 }) :
  wpAny (model prog w) A (setAttr (.ref x) name v) Q E s:=by
 obtain ⟨od,J,hl⟩:=I.look;refine PySem.W.set_plain X J hs (PySem.W.osa_open (s:={ s with toks:=s.toks+1 }) (r:=none) X J hp ht fun b=>?_);obtain ⟨cd,hc,hd'⟩:=PySem.W.any_some hh;have hx:s.heap.get? x=some ⟨.ref C,some dx,.plain,#[]⟩:=I.obj;refine wpAny_bind (wpAny_pure (wpAny_bind (wpAny_bind (wpAny_loadPart hx (wpAny_bind (PySem.W.Looks.here (s:={ s with toks:=s.toks+1 }) (PySem.W.looks_clsIn X hc) ?_))))));rw[hd'];refine wpAny_pure (a:=some dx) (wpAny_bind (wpAny_pure (wpAny_bind ?_)));refine wpAny_nsSet1 (s:={ s with toks:=s.toks+1 }) I.ns fun h' hn2 hs2=>?_;obtain ⟨oD,esD,epD,hoD,hdD,hcD⟩:=hn2.count (PySem.Within.cons name v hw);refine wpAny_bind (wpAny_lookBehind hoD (by rw[hdD];exact pastItsLine_dict (Nat.le_trans hcD (by rw[List.length_cons];lia))) ?_);exact wpAny_pure (h _ ⟨(hs2.2 _ (Ne.symm I.ne)).trans I.obj,hn2,I.ne⟩ hs2)
theorem make_map(X:K.In s.heap)(hm:PySem.W.makesIn K C=true)
  (hi:PySem.W.findIn K (.ref C) "__init__"=some (some (.ref f))) (hf:PySem.W.typeIn K (.ref f)=some (.type "function"))
  (h:codeAny (model prog w) (A.under (.builtin "type.__call__" ⟨.ref C::vs,kw⟩)) (.call (.ref f) ⟨.ref (s.heap.objs.size+1)::vs,kw⟩) (PySem.W.InitBack (s.heap.objs.size+1) R)
   { s with heap:=(s.heap.push PySem.W.emptyDict).push (PySem.W.instObj C s.heap.objs.size) }) :
  codeAny (model prog w) A (.call (.ref C) ⟨vs,kw⟩) R s:=by
 obtain ⟨hh,g,d,t,os⟩:=s;exact PySem.W.make_core (PySem.W.makes_of X hm) (PySem.W.looks_findIn X hi) (fun self=>PySem.W.bind_fn X self hf) (.inl rfl) h
end
def putF(f:Str)(v:V):List (Str × V)->List (Str × V)
 | []=>[(f,v)]
 | (g,x)::r=>if g=f then (g,v)::r else (g,x)::putF f v r
theorem qBo(f g:Str)(v:V):∀ fs:List (Str × V),(putF f v fs).lookup g=if g=f then some v else fs.lookup g
 | []=>by
  show List.lookup g [(f,v)]=_
  by_cases h:g=f
  ·have hb:(g == f)=true:=beq_iff_eq.mpr h;simp only[List.lookup,hb,if_pos h]
  ·have hb:(g == f)=false:=beq_eq_false_iff_ne.mpr h;simp only[List.lookup,hb,if_neg h]
 | (k,x)::r=>by
  have ih:=qBo f g v r;rw[show putF f v ((k,x)::r)=(if k=f then (k,v)::r else (k,x)::putF f v r) from rfl]
  by_cases hk:k=f
  ·rw[if_pos hk]
   by_cases h:g=k
   ·have hb:(g == k)=true:=beq_iff_eq.mpr h;simp only[List.lookup,hb,if_pos (h.trans hk)]
   ·have hb:(g == k)=false:=beq_eq_false_iff_ne.mpr h;simp only[List.lookup,hb,if_neg (fun e:g=f=>h (e.trans hk.symm))]
  ·rw[if_neg hk]
   by_cases h:g=k
   ·have hb:(g == k)=true:=beq_iff_eq.mpr h;simp only[List.lookup,hb,if_neg (fun e:g=f=>hk (h.symm.trans e))]
   ·have hb:(g == k)=false:=beq_eq_false_iff_ne.mpr h;simp only[List.lookup,hb];exact ih
theorem iJ(f:Str)(v:V):∀ fs:List (Str × V),f∈(putF f v fs).map (·.1)/\∀ g,g∈fs.map (·.1)->g∈(putF f v fs).map (·.1)
 | []=>⟨by simp[putF],fun g h=>by simp at h⟩
 | (k,x)::r=>by
  obtain ⟨i1,i2⟩:=iJ f v r;rw[show putF f v ((k,x)::r)=(if k=f then (k,v)::r else (k,x)::putF f v r) from rfl]
  by_cases hk:k=f
  ·rw[if_pos hk];subst hk
   exact⟨by simp,fun g h=>by simpa using h⟩
  ·rw[if_neg hk];refine⟨?_,fun g h=>?_⟩
   ·rw[List.map_cons];exact List.mem_cons_of_mem _ i1
   ·rw[List.map_cons] at h ⊢;rcases List.mem_cons.mp h with e | e
    ·exact List.mem_cons.mpr (.inl e)
    ·exact List.mem_cons_of_mem _ (i2 g e)
theorem qBp(f:Str)(v:V):∀ fs:List (Str × V),(putF f v fs).length<=fs.length+1
 | []=>by simp[putF]
 | (k,x)::r=>by
  have ih:=qBp f v r;rw[show putF f v ((k,x)::r)=(if k=f then (k,v)::r else (k,x)::putF f v r) from rfl]
  by_cases hk:k=f
  ·rw[if_pos hk,List.length_cons,List.length_cons];lia
  ·rw[if_neg hk,List.length_cons,List.length_cons];lia
theorem RelO.some_of(r:RelO (some v) o):∃ u,o=some u/\RelV v u:=by
 cases o with
 |none=>exact (show False from r).elim
 |some u=>exact⟨u,rfl,r⟩
theorem RelO.none_of(r:RelO none o):o=none:=by
 cases o with
 |none=>rfl
 |some u=>exact (show False from r).elim
theorem qMB(r:RelV v u):PySem.W.handedIn u=true:=by
 cases v with
 |non=>cases (show u=Value.none from r);rfl
 |bl b=>cases (show u=Value.bool b from r);rfl
 |int i=>obtain ⟨t,e⟩:=(show ∃ t,u=Value.int i t from r);cases e;rfl
 |str x=>obtain ⟨t,e⟩:=(show ∃ t,u=Value.str x t from r);cases e;rfl
 |byt b=>obtain ⟨t,e⟩:=(show ∃ t,u=Value.bytes b t from r);cases e;rfl
 |flt b=>obtain ⟨t,e⟩:=(show ∃ t,u=Value.float b t from r);cases e;rfl
 |ref a=>cases (show u=Value.ref a from r);rfl
 |ty n=>cases (show u=Value.type n from r);rfl
section
variable {P:Program}{w:World}{H H':Hp}{h h':Heap}{a C dx:Addr}{fs fs':List (Str × V)}
theorem iY(hok:HOk P w H h)(e:H a=some (.ins C dx fs)):∃ mA,ObjM h a dx C mA/\(∀ f,RelO (fs.lookup f) (mA f))/\PySem.Within mA (fs.map (·.1))/\fs.length<=1000/\H dx=some (.own a):=by
 obtain ⟨d,z,ne,ob,mA,n,r,q⟩:=(show ObjOk P w H h a (.ins C dx fs) from hok a _ e)
 exact⟨mA,⟨ob,n,ne⟩,r,q,z,d⟩
end
structure Cls (K:PySem.W.Frag) (C:Addr):Prop where
 pg:PySem.W.plainGet K C Str.empty=true
 hd:PySem.W.hasDictIn K C=true
 po:PySem.W.plainOver K C=true
 sa:PySem.W.findIn K (.ref C) "__setattr__"=some (some (.builtin "object.__setattr__"))
theorem Cls.get{K:PySem.W.Frag}(c:Cls K C)(f:Str):PySem.W.plainGet K C f=true:=c.pg
def NoAttr(K:PySem.W.Frag)(C:Addr)(f:Str):Prop:=PySem.W.findIn K (.ref C) f=some none
theorem NoAttr.taker{K:PySem.W.Frag}(n:NoAttr K C f):PySem.W.takerIn K C f=some none:=by
 unfold PySem.W.takerIn;rw[show PySem.W.findIn K (.ref C) f=some none from n];rfl
structure Meth (K:PySem.W.Frag) (C:Addr) (m:Str) (f:Addr):Prop where
 at_:PySem.W.findIn K (.ref C) m=some (some (.ref f))
 fn:PySem.W.isFn K (.ref f)=true
 kp:PySem.W.keepIn K (.ref f)=true
section
variable {X:Cx}{pins:List (Addr × Obj)}{U:St}{H:Hp}{s:Shared}{a C dx:Addr}{fs:List (Str × V)}{f:Str}{v:V}{A:Around}{E:Value->Shared->Prop}
theorem qMH(I:Inv X pins U H s)(e:H a=some (.ins C dx fs))(c:Cls X.K C)(n:NoAttr X.K C f)(l:fs.lookup f=some v)
  (h:∀ u s',Inv X pins U H s'->RelV v u->Q u s'):wpAny (model X.prog X.w) A (getAttr (.ref a) f b) Q E s:=by
 obtain ⟨mA,O,r,_,_,_⟩:=iY I.hok e;obtain ⟨u,hu,ru⟩:=RelO.some_of (v:=v) (o:=mA f) (by rw[<- l];exact r f);exact qMJ I.kIn O (c.get f) c.hd n hu (qMB ru) (h u _ (I.tok _) ru)
theorem getmeth_ok(I:Inv X pins U H s)(e:H a=some (.ins C dx fs))(c:Cls X.K C)(k:Meth X.K C m g)(l:fs.lookup m=none)
  (h:Q (.ref g,[.ref a]) s):wpAny (model X.prog X.w) A (getMethod (.ref a) m pl) Q E s:=by
 obtain ⟨mA,O,r,_,_,_⟩:=iY I.hok e;have hn:mA m=none:=RelO.none_of (by rw[<- l];exact r m);exact qMI I.kIn O (c.get m) k.at_ k.fn hn h
theorem qGS(I:Inv X pins U H s)(e:H a=some (.ins C dx fs))(c:Cls X.K C)(n:NoAttr X.K C f)(hl:fs.length<1000)(ry:RelV y u)
  (h:∀ s',Inv X pins U (upd H a (.ins C dx (putF f y fs))) s'->Q () s'):wpAny (model X.prog X.w) A (setAttr (.ref a) f u) Q E s:=by
 obtain ⟨mA,O,r,wi,_,ho⟩:=iY I.hok e;have hz:(fs.map (·.1)).length<=sizeLine:=by rw[List.length_map,sizeLine_eq];lia
 refine qGU I.kIn O c.sa c.po n.taker c.hd wi hz fun h' O' sb=>h _ ?_;have hd:∃ o,h'.get? dx=some o:=let ⟨o,_,_,e',_⟩:=O'.ns;⟨o,e'⟩;refine I.write (x:=a) (e:=dx) (by rw[e];exact True.intro) (.inr ho) (fun b q hb z=>(sb.2 b hb).trans z) hd ?_;refine⟨by rw[qE O.ne];exact ho,?_,O.ne,O'.obj,_,O'.ns,fun g=>?_,fun g hg=>?_⟩
 ·have:=qBp f y fs;lia
 ·show RelO ((putF f y fs).lookup g) (if g=f then some u else mA g);rw[qBo]
  by_cases q:g=f
  ·rw[if_pos q,if_pos q];exact ry
  ·rw[if_neg q,if_neg q];exact r g
 ·by_cases q:g=f
  ·rw[q];exact (iJ f y fs).1
  ·refine (iJ f y fs).2 g (wi g fun z=>hg ?_);show (if g=f then some u else mA g)=none;rw[if_neg q];exact z
theorem Inv.made(I:Inv X pins U H s):Inv X pins U (upd (upd H s.heap.objs.size (.own (s.heap.objs.size+1))) (s.heap.objs.size+1) (.ins C s.heap.objs.size []))
  { s with heap:=(s.heap.push PySem.W.emptyDict).push (PySem.W.instObj C s.heap.objs.size) }:=by
 have e1:(s.heap.push PySem.W.emptyDict).get? s.heap.objs.size=some PySem.W.emptyDict:=Heap.get?_push_size s.heap rfl
 have e2:((s.heap.push PySem.W.emptyDict).push (PySem.W.instObj C s.heap.objs.size)).get? (s.heap.objs.size+1)=some (PySem.W.instObj C s.heap.objs.size):=by
  have:=Heap.get?_push_size (s.heap.push PySem.W.emptyDict) (o:=PySem.W.instObj C s.heap.objs.size) rfl
  rwa [Heap.size_push] at this
 have e3:(s.heap.push PySem.W.emptyDict).Ns s.heap.objs.size (fun _=>none):=⟨PySem.W.emptyDict,#[],_,e1,rfl,(fun e he=>absurd he (by simp)),fun _=>rfl⟩;have I1:=I.laid (a:=s.heap.objs.size) (o:=.own (s.heap.objs.size+1)) (h':=s.heap.push PySem.W.emptyDict) (t':=s.toks) (fun b u q=>Heap.get?_push_of_some _ q) (Nat.le_refl _) ⟨_,e1⟩;refine I1.laid (a:=s.heap.objs.size+1) (o:=.ins C s.heap.objs.size []) (t':=s.toks) (fun b u q=>Heap.get?_push_of_some _ q) (Nat.le_of_eq (Heap.size_push _ _)) ?_;have ne:s.heap.objs.size≠s.heap.objs.size+1:=Nat.ne_of_lt (Nat.lt_succ_self _);refine⟨by rw[qE ne,qI],Nat.zero_le _,ne,e2,fun _=>none,(Heap.Ns1.of_empty e3).at fun o q=>Heap.get?_push_of_some _ q,fun _=>True.intro,fun y hy=>absurd rfl hy⟩
theorem qQ1(hb:attributeBase e f env (eval e env)=eval e env)
  (h:wpAny (model prog w) A (eval e env) (fun o s₁=>wpAny (model prog w) A (getAttr o f true) Q E s₁) E s):wpAny (model prog w) A (eval (.Attribute e f pos) env) Q E s:=
 Attribute_any_ h (by rw[arm_eval_Attribute,hb])
end
def qFs(K:PySem.W.Frag)(ta:TE)(f:Str):TE:=fun U H Q=>ta U H fun x H1=>∃ a C dx fs v,x=.ref a/\H1 a=some (.ins C dx fs)/\Cls K C/\NoAttr K C f/\fs.lookup f=some v/\Q v H1
def qGy(K:PySem.W.Frag)(ta tv:TE)(f:Str):TS:=fun D U H=>tv U H fun y H1=>ta U H1 fun x H2=>∃ a C dx fs,x=.ref a/\H2 a=some (.ins C dx fs)/\Cls K C/\NoAttr K C f/\fs.length<1000 /\
 D.nx U (upd H2 a (.ins C dx (putF f y fs)))
section
variable {X:Cx}{o e value:Expr}{f:Str}{pos pos' tpos:Pos}{ta tv:TE}
theorem pe_fld(he:PE X e ta)(hb:attributeBase e f X.env (eval e X.env)=eval e X.env):PE X (.Attribute e f pos) (qFs X.K ta f):=by
 intro pins s U H Q I h;refine qQ1 hb (thn (he pins s U H _ I h) fun u s1 ⟨x,H1,I1,rx,a,C,dx,fs,v,ex,ea,c,n,l,q⟩=>?_);subst ex;obtain rfl:u=Value.ref a:=rx;exact qMH I1 ea c n l fun u' s2 I2 ru=>⟨v,H1,I2,ru,q⟩
theorem ps_fld(ha:PE X o ta)(hv:PE X value tv)(hs:swapsWith value (some (.Attribute o f pos')) pos.line X.env=pure false):PS X (.Assign [.Attribute o f pos'] value pos) (qGy X.K ta tv f):=by
 intro pins s U H D I h;refine plainObj_wpAny_Assign_Attribute (thn (hv pins s U H _ I h) fun u s1 ⟨y,H1,I1,ry,q⟩=>thn (ha pins s1 U H1 _ I1 q) fun ov s2 ⟨x,H2,I2,rx,a,C,dx,fs,ex,ea,c,n,l,q2⟩=>?_) hs;subst ex;obtain rfl:ov=Value.ref a:=rx;exact qGS I2 ea c n l ry fun s3 I3=>⟨U,_,I3,q2⟩
end
section
variable {X:Cx}{pins:List (Addr × Obj)}{U:St}{H:Hp}{s:Shared}{A:Around}{E:Value->Shared->Prop}{Q:Value->Shared->Prop}{c:Value}{b:Bool}
end
structure Room (k:Nat) (A:Around):Prop where
 hd:A.handled=none
 dp:A.depth+3*k+5<recursionLimit
 un:A.units+16*k+200<cLine
theorem Room.mono(r:Room k A)(h:j<=k):Room j A:=⟨r.hd,by have:=r.dp;lia,by have:=r.un;lia⟩
theorem Room.deeper(r:Room (k+1) A)(env:Env):Room k (A.deeper env):=
 ⟨r.hd,by have:=r.dp;show A.depth+1+3*k+5<_;lia,by have:=r.un;show A.units+3+16*k+200<_;lia⟩
theorem qJf {A:Around}:(A.under (.builtin "type.__call__" ⟨.ref C::us,kw⟩)).depth=A.depth+1:=by
 first | rfl | simp[Around.under,Code.weight,Code.isCreation,Code.isGuard,Code.isCaller,Code.frames,Code.isFrame,guardIds]
theorem qJd {A:Around}:(A.under (.builtin "type.__call__" ⟨.ref C::us,kw⟩)).units=A.units+1:=by
 first | rfl | simp[Around.under,Code.cUnits,Code.frames,Code.isFrame]
theorem Room.make (r:Room (k+1) A) (C:Addr) (us:List Value) (kw:List (Str × Value)):Room k (A.under (.builtin "type.__call__" ⟨.ref C::us,kw⟩)):=
 ⟨r.hd,by have:=r.dp;rw[qJf];lia,by have:=r.un;rw[qJd];lia⟩
theorem Room.depth(r:Room k A):A.depth<recursionLimit:=by have:=r.dp;lia
theorem Room.units(r:Room k A):A.units+64<cLine:=by have:=r.un;lia
def tNil:TA:=fun _ H Q=>Q [] H
def tCons(ta:TE)(tr:TA):TA:=fun U H Q=>ta U H fun x H1=>tr U H1 fun xs H2=>Q (x::xs) H2
section
variable {X:Cx}{e:Expr}{es:List Expr}{te:TE}{t:TA}{pos:Pos}
theorem pa_nil:PA X [] tNil:=fun _ _ _ _ H Q I h=>Calls.spliced_nil ⟨[],H,I,.nil,h⟩
theorem pa_cons(ha:PE X e te)(hr:PA X es t)(hs:starEach (e::es) X.env=(false,eval e X.env)::starEach es X.env:=by rfl):PA X (e::es) (tCons te t):=by
 intro pos pins s U H Q I h;rw[hs];show wpAny _ _ (spliced ((false,eval e X.env)::backTo pos (starEach es X.env))) _ _ s;refine Calls.spliced_cons (thn (ha pins s U H _ I h) fun u s1 ⟨x,H1,I1,r1,q1⟩=>?_);exact thn (hr pos pins s1 U H1 _ I1 q1) fun us s2 ⟨xs,H2,I2,r2,q2⟩=>⟨x::xs,H2,I2,.cons r1 r2,q2⟩
def qFh(t:TA):TE:=fun U H Q=>t U H fun xs H1=>xs.length<=sizeLine/\∀ p,H1 p=none->Q (.ref p) (upd H1 p (.tup xs))
def qFp(t:TA):TE:=fun U H Q=>t U H fun xs H1=>xs.length<=sizeLine/\∀ p,H1 p=none->Q (.ref p) (upd H1 p (.lst xs))
theorem pe_tup{x1}(h:PA X es t):PE X (.Tuple es x1 pos) (qFh t):=by
 intro pins s U H Q I hq;refine wpAny_Tuple_spliced (thn (h pos pins s U H _ I hq) fun us s1 ⟨xs,H1,I1,r,z,q⟩=>⟨by rw[<- r.length];exact z,?_⟩);have hf:H1 s1.heap.objs.size=none:=I1.hok.fresh (Nat.le_refl _);refine⟨.ref s1.heap.objs.size,upd H1 s1.heap.objs.size (.tup xs),I1.laid (t':=s1.toks) (fun b u e=>Heap.get?_push_of_some _ e) (Nat.le_refl _) ?_,rfl,q _ hf⟩
 exact⟨z,us,r,⟨_,Heap.get?_push_size _ rfl,rfl,_,rfl⟩⟩
theorem pe_lst(h:PA X es t):PE X (.List es pos) (qFp t):=by
 intro pins s U H Q I hq;refine wpAny_List_spliced (thn (h pos pins s U H _ I hq) fun us s1 ⟨xs,H1,I1,r,z,q⟩=>⟨by rw[<- r.length];exact z,?_⟩);have hf:H1 s1.heap.objs.size=none:=I1.hok.fresh (Nat.le_refl _);refine⟨.ref s1.heap.objs.size,upd H1 s1.heap.objs.size (.lst xs),I1.laid (t':=s1.toks) (fun b u e=>Heap.get?_push_of_some _ e) (Nat.le_refl _) ?_,rfl,q _ hf⟩
 exact⟨z,us,0,r,Heap.get?_push_size _ rfl⟩
end
abbrev Sp:=List V->Hp->VK->XK->Prop
abbrev CXT:=List Env->Hp->Shared->XK->Value->Shared->Prop
structure Env0 (P:Program) (w:World) (K:PySem.W.Frag) (mg:Str->Option Value) (base:Heap) (A:Around) (outer:List Env) (s:Shared) (H:Hp):Prop where
 frames:A.frames=some outer
 mod:Mod K mg base
 bs:∀ b o,base.get? b=some o->s.heap.get? b=some o/\H b=none
 bsz:base.objs.size<=s.heap.objs.size
 funs:s.heap.FunFrames base outer
 frf:∀ b∈frs outer,H b=none
 hok:HOk P w H s.heap
 bare:AllBare s.gens
def CE(outer:List Env)(P:Program)(w:World)(H:Hp)(s:Shared)(Q:VK)(u:Value)(s':Shared):Prop:=
 ∃ v H',s'.os=s.os/\AllBare s'.gens/\Un (frs outer) [] H H' s.heap s'.heap/\HOk P w H' s'.heap/\RelV v u/\Q v H'
def CR(CX:CXT)(outer:List Env)(P:Program)(w:World)(H:Hp)(s:Shared)(Q:VK)(E:XK)(r:Result)(s':Shared):Prop:=
 match r with
 | .ok (.ret u)=>CE outer P w H s Q u s'
 | .ok _=>False
 | .error e=>CX outer H s E e s'
structure FnOk (P:Program) (w:World) (K:PySem.W.Frag) (mg:Str->Option Value) (base:Heap) (CX:CXT) (k:Nat) (f:Addr) (fd:FuncData) (ps:List Str) (sp:Sp):Prop where
 len:∀ vs H Q E,sp vs H Q E->vs.length=ps.length
 run:∀ (A:Around) (outer:List Env) (s:Shared) (H:Hp) (args:Args) (us:List Value) (vs:List V) (Q:VK) (E:XK),Room k A->Env0 P w K mg base A outer s H->BindsTo s fd args (ps.zip us)->Vals vs us->sp vs H Q E ->
  codeAny (model P w) A (.call (.ref f) args) (CR CX outer P w H s Q E) s
theorem Env0.make{K:PySem.W.Frag}(e:Env0 P w K mg base A outer s H)(C:Addr)(us:List Value)(kw:List (Str × Value)) :
  Env0 P w K mg base (A.under (.builtin "type.__call__" ⟨.ref C::us,kw⟩)) outer s H:=⟨by first | exact e.frames | (simpa [Around.under,Code.envs,Code.isFrame,pushEnvs] using e.frames),e.mod,e.bs,e.bsz,e.funs,e.frf,e.hok,e.bare⟩
section
variable {X:Cx}{pins:List (Addr × Obj)}{U:St}{H:Hp}{s s':Shared}
theorem Inv.env0(I:Inv X pins U H s):Env0 X.prog X.w X.K X.mg X.base X.A X.stack s H:=
 ⟨I.ok.frames,I.ok.mod,I.bs,Nat.le_trans I.ok.bsz I.sz,I.stack,I.stkFree,I.hok,I.bare⟩
theorem Inv.after(I:Inv X pins U H s)(h:CE X.stack X.prog X.w H s Q u s'):EP X pins U Q u s':=by
 obtain ⟨v,H',os,bare,un,hok,r,q⟩:=h;obtain ⟨hh,g,d,t,os'⟩:=s';obtain rfl:os'=s.os:=os
 exact⟨v,H',I.call (h':=hh) (g':=g) (d':=d) (t':=t) (ch:=[]) un hok bare (fun b z=>absurd z (by simp)),r,q⟩
end
def Binds(K:PySem.W.Frag)(fd:FuncData)(ps:List Str)(ds:List Value):Prop:=
 ∀ (s:Shared) (us:List Value),K.In s.heap->(us++ds).length=ps.length->BindsTo s fd ⟨us,[]⟩ (ps.zip (us++ds))
theorem Binds.all{K:PySem.W.Frag}(h:∀ us:List Value,us.length=ps.length->bindArgs fd ⟨us,[]⟩=pure (ps.zip us)):Binds K fd ps []:=fun s us _ hl=>by
 rw[List.append_nil] at hl ⊢;exact .of_eq (h us hl)
section
variable {X:Cx}{CX:CXT}{k:Nat}{f C:Addr}{fd:FuncData}{ps:List Str}{sp:Sp}{dvs:List V}{ds:List Value}{E:XK}{x m:Str}{p pos apos:Pos}{e o:Expr}{es:List Expr}{ta:TE}{t:TA}
structure Mk (K:PySem.W.Frag) (C f:Addr):Prop where
 makes:PySem.W.makesIn K C=true
 init:PySem.W.findIn K (.ref C) "__init__"=some (some (.ref f))
 fn:PySem.W.isFn K (.ref f)=true
 kp:PySem.W.keepIn K (.ref C)=true
end
section
variable {X:Cx}{CX:CXT}{k:Nat}{f C:Addr}{fd:FuncData}{ps ks:List Str}{sp:Sp}{E:XK}{x m:Str}{p pos apos kpos:Pos}{e o:Expr}{es:List Expr}{kws:List Keyword}{te ta:TE}{t tk:TA}{nm:Option Str}
variable {g:List Value->List Value->List Value}{gV:List V->List V->List V}
end
structure FnScope (N P:List Str) (sc:Scope):Prop where
 kind:sc.kind=.function
 co:sc.isCoroutine=false
 gen:sc.isGenerator=false
 nd:N.Nodup
 pre:N.take P.length=P
 par:∀ x∈P,sc.names.lookup x=some .local\/sc.names.lookup x=some .cell
 nofree:∀ y∈sc.names,y.2≠.free
theorem qDZ{kindOf:Str->Option NameKind}:∀ {binds:List (Str × Value)} {m:Str->Option Value},(∀ v,(x,v)∉binds)->bindL kindOf binds m x=m x
 | [],_,_=>rfl
 | (n,v)::r,m,h=>by
  unfold bindL;rw[qDZ fun w hw=>h w (List.mem_cons_of_mem _ hw)];split
  ·have:x≠n:=by rintro rfl;exact h v List.mem_cons_self
   simp[this]
  ·rfl
theorem qDb{kindOf:Str->Option NameKind}:∀ {binds:List (Str × Value)} {m:Str->Option Value},(∀ v,(x,v)∉binds)->bindC kindOf binds m x=m x
 | [],_,_=>rfl
 | (n,v)::r,m,h=>by
  unfold bindC;rw[qDb fun w hw=>h w (List.mem_cons_of_mem _ hw)];split
  ·rfl
  ·have:x≠n:=by rintro rfl;exact h v List.mem_cons_self
   simp[this]
theorem qDa{kindOf:Str->Option NameKind}:∀ {P:List Str} {vs:List Value} {i:Nat} {m:Str->Option Value},P.Nodup->P[i]?=some x->vs[i]?=some v->kindOf x=some .local ->
  bindL kindOf (P.zip vs) m x=some v
 | [],_,_,_,_,h,_,_=>by simp at h
 |_::_,[],_,_,_,_,h,_=>by simp at h
 |p::P,w::vs,0,m,nd,h1,h2,hk=>by
  simp at h1 h2;subst h1;subst h2;show bindL kindOf ((p,w)::P.zip vs) m p=_;unfold bindL;rw[qDZ fun v hv=>(List.nodup_cons.mp nd).1 (List.of_mem_zip hv).1,if_pos hk];simp
 |p::P,w::vs,i+1,m,nd,h1,h2,hk=>by
  show bindL kindOf ((p,w)::P.zip vs) m x=_;unfold bindL;exact qDa (i:=i) (List.nodup_cons.mp nd).2 (by simpa using h1) (by simpa using h2) hk
theorem qDc{kindOf:Str->Option NameKind}:∀ {P:List Str} {vs:List Value} {i:Nat} {m:Str->Option Value},P.Nodup->P[i]?=some x->vs[i]?=some v->kindOf x≠some .local ->
  bindC kindOf (P.zip vs) m x=some v
 | [],_,_,_,_,h,_,_=>by simp at h
 |_::_,[],_,_,_,_,h,_=>by simp at h
 |p::P,w::vs,0,m,nd,h1,h2,hk=>by
  simp at h1 h2;subst h1;subst h2;show bindC kindOf ((p,w)::P.zip vs) m p=_;unfold bindC;rw[qDb fun v hv=>(List.nodup_cons.mp nd).1 (List.of_mem_zip hv).1,if_neg hk];simp
 |p::P,w::vs,i+1,m,nd,h1,h2,hk=>by
  show bindC kindOf ((p,w)::P.zip vs) m x=_;unfold bindC;exact qDc (i:=i) (List.nodup_cons.mp nd).2 (by simpa using h1) (by simpa using h2) hk
def start(N:List Str)(vs:List V):St:=vs.map some++List.replicate (N.length-vs.length) none
def cxOf(CX:CXT)(P:Program)(w:World)(K:PySem.W.Frag)(mg:Str->Option Value)(base:Heap)(N:List Str)(qual:Str)(scope:Scope)(f:Addr)(cd:Value)(A:Around)(outer:List Env)(s:Shared)(H:Hp)(E:XK):Cx where
 prog:=P
 w:=w
 K:=K
 mg:=mg
 base:=base
 A:=A.deeper (envOfC qual scope s.heap.objs.size f cd)
 N:=N
 s₀:=s
 H₀:=H
 env:=envOfC qual scope s.heap.objs.size f cd
 outer:=outer
 stack:=envOfC qual scope s.heap.objs.size f cd::outer
 ex:=[]
 calm:=true
 fn:=fun _=>true
 pn:=[]
 xe:=fun e s'=>wpAny (model P w) (A.deeper (envOfC qual scope s.heap.objs.size f cd)) (leaving (envOfC qual scope s.heap.objs.size f cd) e) (fun _ s''=>CX outer H s E e s'') (fun e' s''=>CX outer H s E e' s'') s'
theorem qDG{sc:Scope}(h:sc.names.lookup x=some .cell):∃ c,(cellsFrom n sc.names []).lookup x=some c:=by
 have q:=PySem.W.cellsFrom_some sc.names n [] (.inl h);exact Option.isSome_iff_exists.mp q
theorem qLC{K:PySem.W.Frag}
  (S:FnScope N ps scope) (hd:A.handled=none) (e0:Env0 P w K mg base A outer s H) (hl:vs.length=ps.length) (r:Vals vs us)
  (x:InCallC s s.heap.objs.size (bindL (envOfC qual scope s.heap.objs.size f cd).kindOf (ps.zip us) fun _=>none) (cellsFrom (s.heap.objs.size+1) scope.names []) (bindC (envOfC qual scope s.heap.objs.size f cd).kindOf (ps.zip us) fun _=>none) s1) :
  Inv (cxOf CX P w K mg base N qual scope f cd A outer s H E) [] (start N vs) H s1:=by
 have hpl:ps.length<=N.length:=by have:=congrArg List.length S.pre;rw[List.length_take] at this;lia
 obtain ⟨h1,tk,rfl,hk⟩:=x.done;have noA:∀ b:Addr,b∉(cxOf CX P w K mg base N qual scope f cd A outer s H E).ex:=fun b z=>absurd (show b∈([]:List Addr) from z) (by simp)
 refine⟨⟨e0.mod,S.kind,rfl,rfl,Nat.le_refl _,fun y z c h1 h2=>?_,fun y hy=>?_,fun y c _ h=>?_,fun _=>hd,Around.frames_deeper e0.frames,.inr ⟨rfl,rfl⟩,fun b z=>absurd z (noA b),e0.bs,e0.bsz,fun b _ _=>noA b,fun b z=>absurd z (noA b),e0.funs,e0.frf⟩,
  rfl,e0.bare,Un.kept hk,⟨_,x.toInCall.ns,fun i y v h1 h2 h3=>?_⟩,fun y c h=>⟨_,x.cell y c h⟩,e0.hok.fresh (Nat.le_refl _),fun y c h=>?_,fun p hp=>absurd (show p∈([]:List (Addr × Obj)) from hp) (by simp),e0.hok.kept hk,?_⟩
 ·exact name_of_addr x.apart (PySem.mem_of_lookup h1) (PySem.mem_of_lookup h2)
 ·have hy:scope.names.lookup y=some .cell\/scope.names.lookup y=some .free:=hy;rcases hy with hy | hy
  ·exact qDG hy
  ·exact absurd rfl (S.nofree _ (PySem.mem_of_lookup hy))
 ·exact Nat.le_of_lt (x.above y c (PySem.mem_of_lookup h))
 ·have hi:i<vs.length:=by
   unfold start at h2
   by_cases hi:i<vs.length
   ·exact hi
   ·rw[List.getElem?_append_right (by simpa using hi)] at h2;rw[List.getElem?_replicate] at h2;split at h2 <;> cases h2
  have ha:vs[i]?=some v:=by
   unfold start at h2;rw[List.getElem?_append_left (by simpa using hi),List.getElem?_map] at h2;cases e:vs[i]? with
   |none=>rw[e] at h2;cases h2
   |some a=>rw[e] at h2;cases h2;rfl
  obtain ⟨u,hu,rv⟩:=r.get ha
  have hp:ps[i]?=some y:=by
   rw[<- S.pre,List.getElem?_take_of_lt (by lia)];exact h1
  have ndP:ps.Nodup:=by rw[<- S.pre];exact S.nd.sublist (List.take_sublist _ _)
  refine⟨u,rv,?_⟩;rcases S.par y (List.mem_of_getElem? hp) with k | k
  ·exact .inl ⟨k,qDa ndP hp hu k⟩
  ·obtain ⟨c,e⟩:=qDG (n:=s.heap.objs.size+1) k;refine .inr ⟨.inl k,c,e,?_⟩;have q:=x.cell y c e;rw[qDc ndP hp hu (by show scope.names.lookup y≠_;rw[k];decide)] at q;exact q
 ·exact e0.hok.fresh (Nat.le_of_lt (x.above y c (PySem.mem_of_lookup h)))
 ·unfold start;show _=N.length;rw[List.length_append,List.length_map,List.length_replicate]
  lia
theorem fn_of{K:PySem.W.Frag}{kV:Value}
     (lk:K.lookup f=some ⟨oc,od,.func (PySem.W.fnOf name qual params body scope dV kV doc pm an cdv ct),osl⟩) (hcd:PySem.W.codeIn K cdv qual=true) (S:FnScope N ps scope)
    (len:∀ vs H Q E,sp vs H Q E->vs.length=ps.length)
    (hbody:∀ (A:Around) (outer:List Env) (s:Shared) (H:Hp) (vs:List V) (Q:VK) (E:XK),Room k (A.deeper (envOfC qual scope s.heap.objs.size f cdv))->sp vs H Q E ->
      ∃ t,PSs (cxOf CX P w K mg base N qual scope f cdv A outer s H E) body t/\t { nx:=fun _ H'=>Q .non H',rt:=Q } (start N vs) H) :
    FnOk P w K mg base CX (k+1) f (PySem.W.fnOf name qual params body scope dV kV doc pm an cdv ct) ps sp:=by
  refine⟨len,fun A outer s H args us vs Q E hr e0 hb r hsp=>?_⟩;have hl:=len _ _ _ _ hsp;have KX:K.In s.heap:=e0.mod.kin.keeps fun b o e=>(e0.bs b o e).1;have lim:s.heap.NoLimit:=e0.mod.nolimit.keeps fun b o e=>(e0.bs b o e).1
  have hkind:∀ y∈ps.zip us,scope.names.lookup y.1=some .local\/(scope.names.lookup y.1=some .cell/\((cellsFrom (s.heap.objs.size+1) scope.names []).lookup y.1).isSome=true):=fun⟨n,v⟩ hy=>by
    rcases S.par n (List.of_mem_zip hy).1 with q | q
    . exact .inl q
    . exact .inr ⟨q,PySem.W.cellsFrom_some _ _ _ (.inl q)⟩
  refine codeAny_call_function hr.depth (KX _ _ lk) rfl S.co S.gen rfl (PySem.W.codeRec_of KX hcd) (hb _ _ _ _ ?_);refine wpAny_newFunctionEnv_cells S.kind hkind fun env he s1 x=>?_;subst he;refine⟨lim.keeps x.toInCall.keep,codeAny_func ?_⟩;obtain ⟨t,ht,hq⟩:=hbody A outer s H vs Q E (hr.deeper _) hsp;have I:Inv (cxOf CX P w K mg base N qual scope f cdv A outer s H E) [] (start N vs) H s1:=qLC S hr.hd e0 hl r x;refine wpAny_mono (ht [] s1 (start N vs) H _ I hq) (fun fl s' hs=>?_) fun e s' hs=>hs
  have fin:∀ {U':St} {H':Hp} {v:V} {u:Value},Inv (cxOf CX P w K mg base N qual scope f cdv A outer s H E) [] U' H' s'->RelV v u->Q v H'->CE outer P w H s Q u s':=
    fun {U' H' v u} J rv q=>⟨v,H',J.os,J.bare,J.base,J.hok,rv,q⟩
  cases fl with
  |ret u=>obtain ⟨v,U',H',J,rv,q⟩:=hs;exact fin J rv q
  |next=>obtain ⟨U',H',J,q⟩:=hs;exact fin (v:=V.non) (u:=Value.none) J rfl q
  |brk=>obtain ⟨_,_,_,q⟩:=hs;cases q
  |cont=>obtain ⟨_,_,_,q⟩:=hs;cases q
section
variable {X:Cx}{x:Str}{p pos:Pos}{e:Expr}{es:List Expr}{t:TA}{id T:String}{r:List V->Hp->VK->Prop}
def tCB(r:List V->Hp->VK->Prop)(t:TA):TE:=fun U H Q=>t U H fun vs H1=>r vs H1 Q
theorem pe_callB (hc:qM X (.builtin id) r) (hg:Gl X x) (hm:X.mg x=none) (hv:bootBuiltins x=some (.builtin id)) (ha:PA X (e::es) t) (hn:x≠"__name__":=by decide) (hdb:(x == ("__debug__":Str))=false:=by decide)
  (he:starEach (e::es) X.env=(false,eval e X.env)::starEach es X.env:=by rfl) (hpl:(backTo pos (starEach es X.env)).any (·.1)=false:=by rfl):PE X (.Call (.Name x p) (e::es) [] pos) (tCB r t):=by
 intro pins s U H Q I h;refine wpAny_Call_Name_kw (uZ I hg hm hv ?_ hn hdb);exact PyProof.Rows.callWith_builtin1 (thn (ha pos pins s U H _ I h) fun us s1 ⟨vs,H1,I1,r1,q1⟩=>hc pins s1 U H1 vs us Q I1 r1 q1) he hpl
theorem pe_callTy (hc:qM X (.type T) r) (hg:Gl X x) (hm:X.mg x=none) (hv:bootBuiltins x=some (.type T)) (ha:PA X (e::es) t) (hn:x≠"__name__":=by decide) (hdb:(x == ("__debug__":Str))=false:=by decide)
  (he:starEach (e::es) X.env=(false,eval e X.env)::starEach es X.env:=by rfl) (hpl:(backTo pos (starEach es X.env)).any (·.1)=false:=by rfl):PE X (.Call (.Name x p) (e::es) [] pos) (tCB r t):=by
 intro pins s U H Q I h;refine wpAny_Call_Name_kw (uZ I hg hm hv ?_ hn hdb);exact PyProof.Rows.callWith_type1 (thn (ha pos pins s U H _ I h) fun us s1 ⟨vs,H1,I1,r1,q1⟩=>hc pins s1 U H1 vs us Q I1 r1 q1) he hpl
end
end L2
namespace HT
open PySem PyProof.Rows
section
open PySem.SeqAt
open PySem.AutoSeq1 (wpAny_loadPart')
open PySem.MeetsSeq PySem.MeetsSeq2 PySem.MeetsSeq3
end
section
variable {prog:Program}{w:World}{A:Around}{E:Value->Shared->Prop}{s:Shared}
theorem cat_tup(ht:IsTup s.heap t vs.toArray)(hb:IsTup s.heap b ws.toArray)(hv:vs≠[])
  (h1:ws=[]->Q (.ref t) s) (h2:ws≠[]->Q (.ref s.heap.objs.size) { s with heap:=s.heap.push { cls:=.type "tuple",data:=.seq (vs++ws).toArray } })
  (hsz:vs.length+ws.length<=sizeLine):wpAny (model prog w) A (binaryOp .Add (.ref t) (.ref b)) Q E s:=by
 obtain ⟨⟨cls,dd,data,sl⟩,ho,hc,n,hd⟩:=id ht;obtain ⟨⟨cls2,dd2,data2,sl2⟩,ho2,hc2,n2,hd2⟩:=id hb;simp only at hc hd hc2 hd2;subst hc hd hc2 hd2;have e:vs.toArray++ws.toArray=(vs++ws).toArray:=by simp
 by_cases hw:ws=[]
 ·exact concat_meets ⟨_,ho,rfl⟩ ⟨_,ho2,rfl⟩ noFill_tuple_add seq_tuple_add PySem.F.slot_tuple_add PySem.F.entry_tuple_add (PySem.F.args_tuple_add_2 _ _)
   (tuple_addW1 t b vs.toArray ws.toArray n n2 dd dd2 sl sl2 (by simpa using hv) (by simp[hw])) ⟨ho,ho2,h1 hw⟩
 ·refine concat_meets ⟨_,ho,rfl⟩ ⟨_,ho2,rfl⟩ noFill_tuple_add seq_tuple_add PySem.F.slot_tuple_add PySem.F.entry_tuple_add (PySem.F.args_tuple_add_2 _ _)
   (tuple_addW2 t b vs.toArray ws.toArray n n2 dd dd2 sl sl2 (by simpa using hv) (by simpa using hw) (by rw[List.size_toArray,List.size_toArray];exact hsz)) ⟨ho,ho2,?_⟩
  rw[e];exact h2 hw
def sIx(n d:Nat):Option Int->Nat
 |none=>d
 |some v=>if v<0 then (v+(n:Int)).toNat else min v.toNat n
theorem sIx_le(n d:Nat)(hd:d<=n)(o:Option Int):sIx n d o<=n:=by
 cases o with
 |none=>exact hd
 |some v=>
  show (if v<0 then (v+(n:Int)).toNat else min v.toNat n)<=n
  by_cases hv:v<0
  ·rw[if_pos hv];lia
  ·rw[if_neg hv];exact Nat.min_le_right _ _
theorem qDD(v:Int)(n d:Nat):(if v<0 then max (v+(n:Int)) 0 else min v (n:Int))=((sIx n d (some v):Nat):Int):=by
 show (if v<0 then max (v+(n:Int)) 0 else min v (n:Int))=(((if v<0 then (v+(n:Int)).toNat else min v.toNat n):Nat):Int)
 by_cases hv:v<0
 ·simp only[if_pos hv];lia
 ·simp only[if_neg hv];lia
theorem qQ8(lo hi:Option Int)(n:Nat):Builtin.Slice.sliceAdjust lo hi 1 (n:Int)=(((sIx n 0 lo:Nat):Int),((sIx n n hi:Nat):Int)):=by
 have h1:¬ ((1:Int)<0):=by lia
 unfold Builtin.Slice.sliceAdjust;simp only[h1,if_false];refine Prod.ext ?_ ?_
 ·cases lo with
  |none=>rfl
  |some v=>exact qDD v n 0
 ·cases hi with
  |none=>rfl
  |some v=>exact qDD v n n
theorem qHL(i j:Nat):Builtin.Slice.slicePlaces (i:Int) (j:Int) 1=j-i:=by
 unfold Builtin.Slice.slicePlaces;have h1:(1:Int) > 0:=by lia
 simp only[h1,if_true,Int.ediv_one]
 split <;> lia
theorem qAU(p:IsPart v o)(h:Q o s):wpAny (model prog w) A (Builtin.Slice.slicePartIndex v) Q E s:=by
 cases p with
 |none=>exact slicePart_none h
 |int i t=>exact slicePart_int h
theorem qAV{lo:Option Int}{Q:Int × Int × Nat->Shared->Prop}(hs:s.heap.IsSliceOf sl vl vu .none)(pl:IsPart vl lo)(pu:IsPart vu hi)
  (h:Q (((sIx n 0 lo:Nat):Int),1,sIx n n hi-sIx n 0 lo) s):wpAny (model prog w) A (Builtin.Slice.sliceApplied (.ref sl) (pure (n:Int))) Q E s:=by
 obtain ⟨os,hos,hcs,hds⟩:=id hs;unfold Builtin.Slice.sliceApplied Builtin.Slice.sliceFields;refine wpAny_bind (wpAny_bind (wpAny_field hos hds (x:=vl) rfl (wpAny_bind (wpAny_field hos hds (x:=vu) rfl (wpAny_bind (wpAny_field hos hds (x:=.none) rfl (wpAny_pure ?_)))))));refine wpAny_bind (slicePart_none ?_);show wpAny _ _ (if ((1:Int) == 0)=true then _ else _) _ _ s;rw[if_neg (by decide)];refine wpAny_bind (qAU pl (wpAny_bind (qAU pu (wpAny_bind (wpAny_pure ?_)))));show wpAny _ _ (match Builtin.Slice.sliceAdjust lo hi 1 (n:Int) with | (lo,hi)=>pure (lo,(1:Int),Builtin.Slice.slicePlaces lo hi 1)) _ _ s;rw[qQ8 lo hi n];show wpAny _ _ (pure (((sIx n 0 lo:Nat):Int),(1:Int),Builtin.Slice.slicePlaces ((sIx n 0 lo:Nat):Int) ((sIx n n hi:Nat):Int) 1)) _ _ s;rw[qHL];exact wpAny_pure h
theorem qHM(xs:Array Value)(i k:Nat):((List.range k).filterMap fun (m:Nat)=>xs[((i:Int)+(m:Int)*1).toNat]?).toArray=((xs.toList.drop i).take k).toArray:=by
 have e:(fun (m:Nat)=>xs[((i:Int)+(m:Int)*1).toNat]?)=fun m=>xs[i+m]?:=by
  funext m
  have:((i:Int)+(m:Int)*1).toNat=i+m:=by lia
  rw[this]
 rw[e]
 have:=pick_run xs i k
 rw[List.filterMap_map] at this;have e2:((fun x=>xs[x]?) ∘ fun x=>i+x)=fun m=>xs[i+m]?:=rfl;rw[e2] at this;rw[this]
theorem getItem_tuple_cut{lo:Option Int}(ht:IsTup s.heap t items)(hs:s.heap.IsSliceOf sl vl vu .none)(pl:IsPart vl lo)(pu:IsPart vu hi)
  (hw:¬ (sIx items.size 0 lo=0/\sIx items.size items.size hi=items.size))
  (h:Q (.ref s.heap.objs.size) { s with heap:=s.heap.push { cls:=.type "tuple",data:=.seq ((items.toList.drop (sIx items.size 0 lo)).take (sIx items.size items.size hi-sIx items.size 0 lo)).toArray } })
  (hsz:items.size<=sizeLine):wpAny (model prog w) A (getItem (.ref t) (.ref sl)) Q E s:=by
 have htake:sizeOk (.seq ((items.toList.drop (sIx items.size 0 lo)).take (sIx items.size items.size hi-sIx items.size 0 lo)).toArray):=by
  show ((items.toList.drop (sIx items.size 0 lo)).take (sIx items.size items.size hi-sIx items.size 0 lo)).toArray.size<=sizeLine;rw[List.size_toArray,List.length_take,List.length_drop,Array.length_toList]
  lia
 have hj:sIx items.size items.size hi<=items.size:=sIx_le _ _ (Nat.le_refl _) hi;obtain ⟨os,hos,hcs,hds⟩:=id hs;have hTs:s.TypeIs (.ref sl) "slice":=⟨os,hos,hcs⟩;unfold getItem
 try with_reducible refine wpAny_holding ?_
 first | refine wpAny_bind (wpAny_pure ?_) | skip
 refine wpAny_bind (wpAny_sequenceKey ht.typeIs (by decide) ?_)
 refine wpAny_bind (wpAny_callSpecial?_slot (name:=Str.ofString "__getitem__") ht.typeIs PyProof.Rows.slot_tuple_getitem
  (wpAny_call_entry PyProof.Rows.slot_tuple_getitem ht.typeIs entry_tuple_getitem ?_ (args_tuple_getitem _ _)))
 show wpAny _ _ (Builtin.Tuple.tupleItemsOf (.ref t) >>= _) _ _ s;refine wpAny_bind (tupleItemsOf_ ht ?_);refine wpAny_bind (wpAny_typeOf hTs ?_);rw[if_pos (by decide)];refine wpAny_bind (qAV hs pl pu ?_)
 have hno:¬ ((((sIx items.size 0 lo:Nat):Int) == 0&&(1:Int) == 1&&(sIx items.size items.size hi-sIx items.size 0 lo) == items.size)=true):=by
  intro q;rw[Bool.and_eq_true,Bool.and_eq_true] at q;have q1:((sIx items.size 0 lo:Nat):Int)=0:=eq_of_beq q.1.1;have q2:sIx items.size items.size hi-sIx items.size 0 lo=items.size:=eq_of_beq q.2;exact hw ⟨by lia,by lia⟩
 show wpAny _ _ (if (((sIx items.size 0 lo:Nat):Int) == 0&&(1:Int) == 1&&(sIx items.size items.size hi-sIx items.size 0 lo) == items.size)=true then _ else _) _ _ s;rw[if_neg hno,qHM]
 first
  |exact wpAny_bind (m:=Builtin.Tuple.tupleExact _) (wpAny_newObj_type (wpAny_pure ⟨_,rfl,wpAny_pure h⟩) htake)
  |exact wpAny_bind (m:=Builtin.Tuple.tupleExact _) (wpAny_newObj_type (wpAny_bind (wpAny_pure (wpAny_pure ⟨_,rfl,wpAny_pure h⟩))) htake)
  |exact wpAny_bind (wpAny_bind (m:=Builtin.Tuple.tupleExact _) (wpAny_newObj_type (wpAny_pure (wpAny_pure ⟨_,rfl,wpAny_pure h⟩)) htake))
  |exact wpAny_bind (wpAny_bind (m:=Builtin.Tuple.tupleExact _) (wpAny_newObj_type (wpAny_pure ⟨_,rfl,wpAny_pure h⟩) htake))
end
end HT
namespace L2
open PySem PySem.Spec PyProof.Rows
abbrev TO:=St->Hp->(Option Int->Hp->Prop)->Prop
def PO(X:Cx)(e:Option Expr)(t:TO):Prop:=
 ∀ (pins:List (Addr × Obj)) (s:Shared) (U:St) (H:Hp) (Q:Option Int->Hp->Prop),Inv X pins U H s->t U H Q ->
  wpAny (model X.prog X.w) X.A (evalPart e X.env) (fun u s'=>∃ o H',Inv X pins U H' s'/\IsPart u o/\Q o H') X.xe s
def qFo:TO:=fun _ H Q=>Q none H
def qFl(t:TE):TO:=fun U H Q=>t U H fun x H1=>∃ i,x=.int i/\Q (some i) H1
theorem intsAre_of:∀ {us:List Value},Vals (ns.map V.int) us->IntsAre us ns:=by
 induction ns with
 |nil=>intro us r;rw[List.map_nil] at r;cases r;exact .nil
 |cons n ns ih=>
  intro us r;rw[List.map_cons] at r;cases r with
  |cons r1 r2=>obtain ⟨t,e⟩:=r1;subst e;exact .cons n t (ih r2)
section
variable {X:Cx}{e:Expr}{te:TE}{lo hi:Option Expr}{tl th:TO}{pos p2:Pos}
theorem po_none:PO X none qFo:=by
 intro pins s U H Q I h;rw[evalPart_none];exact wpAny_pure ⟨none,H,I,.none,h⟩
theorem po_some(h:PE X e te):PO X (some e) (qFl te):=by
 intro pins s U H Q I hw;rw[evalPart_some];refine thn (h pins s U H _ I hw) fun u s1 ⟨x,H1,I1,r1,q1⟩=>?_;obtain ⟨i,rfl,q⟩:=q1;obtain ⟨t,rfl⟩:=r1
 exact⟨some i,H1,I1,.int i t,q⟩
def SlR(X:Cx)(r:V->Option Int->Option Int->Hp->VK->Prop):Prop:=
 ∀ (pins:List (Addr × Obj)) (s:Shared) (U:St) (H:Hp) (x:V) (v vl vu:Value) (lo hi:Option Int) (sl:Addr) (Q:VK),Inv X pins U H s->RelV x v->s.heap.IsSliceOf sl vl vu .none->IsPart vl lo->IsPart vu hi->r x lo hi H Q ->
  ∃ T id,typeLookup (.type T) "__getitem__"=pure (some (.builtin id))/\s.TypeIs v T/\wpAny (model X.prog X.w) X.A (getItem v (.ref sl)) (EP X pins U Q) X.xe s
def tSl(r:V->Option Int->Option Int->Hp->VK->Prop)(te:TE)(tl th:TO):TE:=fun U H Q=>te U H fun x H1=>tl U H1 fun l H2=>th U H2 fun u H3=>r x l u H3 Q
theorem pe_slice(hr:SlR X r)(he:PE X e te)(hl:PO X lo tl)(hu:PO X hi th):PE X (.Subscript e (.Slice lo hi none p2) pos) (tSl r te tl th):=by
 intro pins s U H Q I h;refine Subscript_ (thn (he pins s U H _ I h) fun v s1 ⟨x,H1,I1,r1,q1⟩=>?_);refine wpAny_Slice (thn (hl pins s1 U H1 _ I1 q1) fun vl s2 ⟨l,H2,I2,pl,q2⟩=>thn (hu pins s2 U H2 _ I2 q2) fun vu s3 ⟨u,H3,I3,pu,q3⟩=>?_);rw[evalPart_none];refine wpAny_pure ?_;have I4:Inv X pins U H3 { s3 with heap:=s3.heap.push { cls:=.type "slice",data:=.fields #[vl,vu,.none] } }:=I3.kept (t':=s3.toks) fun b ob q=>Heap.get?_push_of_some _ q;obtain ⟨T,id,hT,ht,hg⟩:=hr pins { s3 with heap:=s3.heap.push { cls:=.type "slice",data:=.fields #[vl,vu,.none] } } U H3 x v vl vu l u s3.heap.objs.size Q I4 r1 (Heap.IsSliceOf.new ..) pl pu q3;show wpAny (model X.prog X.w) X.A (subscriptTail e (.Slice lo hi none p2) v (.ref s3.heap.objs.size)) (EP X pins U Q) X.xe { s3 with heap:=s3.heap.push { cls:=.type "slice",data:=.fields #[vl,vu,.none] } };exact tail_any (ops:=[.ref s3.heap.objs.size,v]) ht hT hg (by with_unfolding_all rfl)
def cutV(xs:List V)(lo hi:Option Int):List V:=(xs.drop (HT.sIx xs.length 0 lo)).take (HT.sIx xs.length xs.length hi-HT.sIx xs.length 0 lo)
theorem qC4(xs:List V)(lo hi:Option Int):(cutV xs lo hi).length<=xs.length:=by
 unfold cutV;rw[List.length_take,List.length_drop]
 lia
def qG6(K:PySem.W.Frag):V->Option Int->Option Int->Hp->VK->Prop:=fun x lo hi H Q=>∃ a xs,x=.ref a/\SqT K H a xs /\
 ¬ (HT.sIx xs.length 0 lo=0/\HT.sIx xs.length xs.length hi=xs.length)/\∀ p,H p=none->Q (.ref p) (upd H p (.tup (cutV xs lo hi)))
theorem sl_tup:SlR X (qG6 X.K):=by
 intro pins s U H x v vl vu lo hi sl Q I rx hs pl pu h;obtain ⟨a,xs,rfl,hx,hw,q⟩:=h;cases rx;obtain ⟨its,r,ht,hz⟩:=I.tuple hx;have hlen:its.toArray.size=xs.length:=by rw[List.size_toArray];exact r.length.symm
 refine⟨"tuple",_,PyProof.Rows.slot_tuple_getitem.lookup,ht.typeIs,?_⟩;refine HT.getItem_tuple_cut ht hs pl pu (by rw[hlen];exact hw) ?_ (by rw[hlen];exact hz);rw[hlen];refine⟨.ref s.heap.objs.size,_,I.laid (t':=s.toks) (o:=.tup (cutV xs lo hi)) (fun b ob q=>Heap.get?_push_of_some _ q) (Nat.le_refl _) ?_,rfl,q _ (I.hok.fresh (Nat.le_refl _))⟩
 exact⟨Nat.le_trans (qC4 xs lo hi) hz,_,(r.drop (HT.sIx xs.length 0 lo)).take (HT.sIx xs.length xs.length hi-HT.sIx xs.length 0 lo),IsTup.new _ _⟩
def qHE(K:PySem.W.Frag):R2:=fun x y H Q=>∃ a b xs ys,x=.ref a/\y=.ref b/\SqT K H a xs/\SqT K H b ys/\xs≠[]/\xs.length+ys.length<=sizeLine /\
 (ys=[]->Q (.ref a) H)/\(ys≠[]->∀ p,H p=none->Q (.ref p) (upd H p (.tup (xs++ys))))
theorem Vals.nil_iff(r:Vals xs us):us=[]↔xs=[]:=by
 cases r with
 |nil=>simp
 |cons _ _=>simp
theorem op_catT:OpR X (binaryOp .Add) (qHE X.K):=by
 intro pins s U H x y v u Q I rx ry h;obtain ⟨a,b,xs,ys,rfl,rfl,ha,hb,hx,hz,q1,q2⟩:=h;cases rx;cases ry;obtain ⟨its,r1,p1,_⟩:=I.tuple ha;obtain ⟨its2,r2,p2,_⟩:=I.tuple hb;refine HT.cat_tup p1 p2 (fun z=>hx (r1.nil_iff.mp z)) (fun z=>⟨.ref a,H,I,rfl,q1 (r2.nil_iff.mp z)⟩) (fun z=>?_) (by rw[<- r1.length,<- r2.length];exact hz);refine⟨.ref s.heap.objs.size,_,I.laid (t':=s.toks) (o:=.tup (xs++ys)) (fun b ob q=>Heap.get?_push_of_some _ q) (Nat.le_refl _) ?_,rfl,q2 (fun w=>z (r2.nil_iff.mpr w)) _ (I.hok.fresh (Nat.le_refl _))⟩
 exact⟨by rw[List.length_append];exact hz,_,r1.append r2,IsTup.new _ _⟩
end
def ixN(n:Nat)(i:Int):Option Nat:=if 0<=i then (if i<n then some i.toNat else none) else if -(n:Int)<=i then some (i+n).toNat else none
def atI{α:Type}(xs:List α)(i:Int):Option α:=(ixN xs.length i).bind fun j=>xs[j]?
theorem qCB(h:ixN n i=some j):seqIndex? i n=some j/\j<n/\-(n:Int)<=i/\i<n:=by
 unfold ixN at h
 by_cases h0:0<=i
 ·rw[if_pos h0] at h
  by_cases h1:i<n
  ·rw[if_pos h1] at h;have e:i.toNat=j:=Option.some.inj h
   exact⟨by rw[seqIndex_of h0 h1,e],by lia,by lia,h1⟩
  ·rw[if_neg h1] at h;cases h
 ·rw[if_neg h0] at h
  by_cases h1:-(n:Int)<=i
  ·rw[if_pos h1] at h;have e:(i+n).toNat=j:=Option.some.inj h
   exact⟨by rw[seqIndex_neg (by lia) h1,e],by lia,h1,by lia⟩
  ·rw[if_neg h1] at h;cases h
theorem tL{α:Type}{xs:List α}{v:α}(h:atI xs i=some v):∃ j,seqIndex? i xs.length=some j/\xs[j]?=some v/\j<xs.length/\-(xs.length:Int)<=i/\i<xs.length:=by
 unfold atI at h;cases e:ixN xs.length i with
 |none=>rw[e] at h;cases h
 |some j=>
  rw[e] at h;obtain ⟨h1,h2,h3,h4⟩:=qCB e
  exact⟨j,h1,h,h2,h3,h4⟩
def PlainIx(b:Expr):Prop:=∀ o i,subscripted b false o i=operate [o,i] (getItem o i)
def IxR(X:Cx)(r:R2):Prop:=
 ∀ (value slice:Expr) (pins:List (Addr × Obj)) (s:Shared) (U:St) (H:Hp) (x y:V) (v u:Value) (Q:VK),Inv X pins U H s->RelV x v->RelV y u->r x y H Q ->
  subscripted slice false v u=operate [v,u] (getItem v u)->wpAny (model X.prog X.w) X.A (subscriptTail value slice v u) (EP X pins U Q) X.xe s
def MtR(X:Cx)(id:String)(r:V->List V->Hp->VK->Prop):Prop:=
 ∀ (pins:List (Addr × Obj)) (s:Shared) (U:St) (H:Hp) (x:V) (xs:List V) (v:Value) (us:List Value) (Q:VK),Inv X pins U H s->RelV x v->Vals xs us->r x xs H Q ->
  wpAny (model X.prog X.w) X.A (call (.builtin id) (v::us)) (EP X pins U Q) X.xe s
section
variable {X:Cx}{a b:Expr}{ta tb:TE}{pos:Pos}
theorem pe_ix(hr:IxR X r)(ha:PE X a ta)(hb:PE X b tb)(hs:PlainIx b):PE X (.Subscript a b pos) (tOp r ta tb):=by
 intro pins s U H Q I h;exact Subscript_ (pL ha hb I h fun v u s2 x y H2 I2 rx ry q=>hr a b pins s2 U H2 x y v u Q I2 rx ry q (hs _ _))
def qHA(K:PySem.W.Frag):R2:=fun x y H Q=>∃ p xs i v,x=.ref p/\y=.int i/\SqL K H p xs/\atI xs i=some v/\Q v H
def qG8(K:PySem.W.Frag):R2:=fun x y H Q=>∃ p xs i v,x=.ref p/\y=.int i/\SqT K H p xs/\atI xs i=some v/\Q v H
def qG9:R2:=fun x y H Q=>∃ z i c,x=.str z/\y=.int i/\z.length<=sizeLine/\atI z.cps.toList i=some c/\Q (.str ⟨#[c]⟩) H
theorem ix_list:IxR X (qHA X.K):=by
 intro value slice pins s U H x y v u Q I rx ry h hs;obtain ⟨p,xs,i,z,rfl,rfl,hq,he,q⟩:=h;cases rx;obtain ⟨t,rfl⟩:=ry;obtain ⟨its,r,pl,hz⟩:=I.list hq;obtain ⟨j,h1,h2,h3,h4,h5⟩:=tL he;obtain ⟨w,ew,rw'⟩:=r.get h2;have hl:=r.length;have hn:=yR;have fin:EP X pins U Q w s:=⟨z,H,I,rw',q⟩
 by_cases h0:0<=i
 ·have hj:i.toNat=j:=by
   rw[seqIndex_of h0 h5] at h1;exact Option.some.inj h1
  exact item_listR pl.isList h0 (by lia) (by rw[hj];simpa using ew) fin hs
 ·have hj:(i+(its.toArray.size:Int)).toNat=j:=by
   rw[seqIndex_neg (by lia) h4] at h1;rw[List.size_toArray,<- hl];exact Option.some.inj h1
  exact subscriptTail_builtinR (x:=w) pl.isList.typeIs slot_list_getitem.lookup
   (wpAny_getItem_list_neg (Q:=fun r s'=>r=w/\EP X pins U Q r s') pl.isList (by lia) (by rw[List.size_toArray] <;> lia) (by lia) (by rw[hj];simpa using ew) ⟨rfl,fin⟩) hs
theorem ix_tup:IxR X (qG8 X.K):=by
 intro value slice pins s U H x y v u Q I rx ry h hs;obtain ⟨p,xs,i,z,rfl,rfl,hq,he,q⟩:=h;cases rx;obtain ⟨t,rfl⟩:=ry;obtain ⟨its,r,pl,hz⟩:=I.tuple hq;obtain ⟨j,h1,h2,h3,h4,h5⟩:=tL he;obtain ⟨w,ew,rw'⟩:=r.get h2;have hl:=r.length;have hn:=yR;have fin:EP X pins U Q w s:=⟨z,H,I,rw',q⟩
 exact subscriptTail_builtinR (x:=w) pl.typeIs slot_tuple_getitem.lookup
  (getItem_tuple (j:=j) (Q:=fun r s'=>r=w/\EP X pins U Q r s') pl (by lia) (by lia) (by rw[List.size_toArray,<- hl];exact h1) (by simpa using ew) ⟨rfl,fin⟩) hs
theorem ix_str:IxR X qG9:=by
 intro value slice pins s U H x y v u Q I rx ry h hs;obtain ⟨z,i,c,rfl,rfl,hz,he,q⟩:=h;obtain ⟨t,rfl⟩:=rx;obtain ⟨t',rfl⟩:=ry;obtain ⟨j,h1,h2,h3,h4,h5⟩:=tL he;have hl:z.cps.toList.length=z.length:=by simp[Str.length]
 rw[hl] at h1 h4 h5;have hn:=yR
 exact tail_any (typeIs_str s z t) slot_str_getitem.lookup (getItem_str (c:=c) (by
  have e1:decide (i < -(2 ^ 63:Int))=false:=decide_eq_false (by lia);have e2:decide (i ≥ 2 ^ 63)=false:=decide_eq_false (by lia)
  rw[e1,e2,Bool.or_false]) (by rw[h1];simpa using h2) ⟨.str ⟨#[c]⟩,H,I.tok _,⟨_,rfl⟩,q⟩) hs
theorem qJa(its:List Value)(n j:Nat)(u:Value):Obj.mapSeq (·.setIfInBounds j u) { cls:=.type "list",data:=.seq its.toArray n }={ cls:=.type "list",data:=.seq (its.set j u).toArray n }:=by
 simp[Obj.mapSeq]
theorem Inv.lst(I:Inv X pins U H s)(h:H p=some (.lst xs)) :
  ∃ (its:List Value) (n:Nat),Vals xs its/\s.heap.get? p=some { cls:=.type "list",data:=.seq its.toArray n }/\xs.length<=sizeLine:=by
 obtain ⟨z,its,n,r,e⟩:=I.hok p _ h
 exact⟨its,n,r,e,z⟩
theorem Inv.lstUpd{its:List Value}(I:Inv X pins U H s)(h:H p=some (.lst xs))
  (ho:s.heap.get? p=some { cls:=.type "list",data:=.seq its.toArray n }) (hf:f { cls:=.type "list",data:=.seq its.toArray n }={ cls:=.type "list",data:=.seq its'.toArray n' }) (r:Vals ys its') (hz:ys.length<=sizeLine) (t:Nat) :
  Inv X pins U (upd H p (.lst ys)) { s with heap:=s.heap.update p f,toks:=t }:=by
 have e:(s.heap.update p f).get? p=some { cls:=.type "list",data:=.seq its'.toArray n' }:=by
  rw[Heap.get?_update_self f ho (by rw[hf] <;> rfl),hf]
 refine I.write (x:=p) (e:=p) (by rw[h];trivial) (.inl rfl) (fun b u hb q=>(Heap.get?_update_other _ _ (Ne.symm hb)).trans q) ⟨_,e⟩ ?_
 exact⟨hz,its',n',r,e⟩
def rSetL:V->V->V->Hp->(Hp->Prop)->Prop:=fun o i v H Q=>∃ p xs k j,o=.ref p/\i=.int k/\H p=some (.lst xs)/\ixN xs.length k=some j/\Q (upd H p (.lst (xs.set j v)))
theorem set_list:PSet X rSetL:=by
 intro pins s U H o i v ov iv u Q I ro ri rv h;obtain ⟨p,xs,k,j,rfl,rfl,hp,hj,q⟩:=h;cases ro;obtain ⟨t,rfl⟩:=ri;obtain ⟨its,n,r,ho,hz⟩:=I.lst hp;obtain ⟨h1,h2,h3,h4⟩:=qCB hj;have hl:=r.length;have hn:=yR
 have I':Inv X pins U (upd H p (.lst (xs.set j v))) { s with heap:=s.heap.update p (Obj.mapSeq (·.setIfInBounds j u)) }:=
  I.lstUpd hp ho (qJa its n j u) (r.set rv j) (by rw[List.length_set];exact hz) s.toks
 by_cases h0:0<=k
 ·have hk:k.toNat=j:=by
   rw[seqIndex_of h0 h4] at h1;exact Option.some.inj h1
  exact PySem.W.ki_setAt ho h0 (by lia) (by rw[List.size_toArray,<- hl];exact h4) (by rw[hk];exact⟨_,I',q⟩)
 ·have hk:(k+(its.toArray.size:Int)).toNat=j:=by
   rw[seqIndex_neg (by lia) h3] at h1;rw[List.size_toArray,<- hl];exact Option.some.inj h1
  exact PySem.W.ki_setBack ho (by lia) (by rw[List.size_toArray,<- hl];exact h3) (by lia) (by rw[hk];exact⟨_,I',q⟩)
theorem qGJ(lo hi:Option Int)(n:Nat):(sliceBounds lo hi none n).1=((HT.sIx n 0 lo:Nat):Int)/\(sliceBounds lo hi none n).2.1=((HT.sIx n n hi:Nat):Int)/\(sliceBounds lo hi none n).2.2=1:=by
 refine⟨?_,?_,rfl⟩
 ·cases lo with
  |none=>simp[sliceBounds,HT.sIx]
  |some i=>
   simp only[sliceBounds,HT.sIx,Option.getD_none,show (1:Int) > 0 by decide,if_true]
   by_cases h:i<0
   ·simp only[h,if_true] <;> lia
   ·simp only[h,if_false] <;> lia
 ·cases hi with
  |none=>simp[sliceBounds,HT.sIx]
  |some i=>
   simp only[sliceBounds,HT.sIx,Option.getD_none,show (1:Int) > 0 by decide,if_true]
   by_cases h:i<0
   ·simp only[h,if_true] <;> lia
   ·simp only[h,if_false] <;> lia
theorem qGK(its:List Value)(lo hi:Option Int):slicePick its.toArray lo hi none=((its.drop (HT.sIx its.length 0 lo)).take (HT.sIx its.length its.length hi-HT.sIx its.length 0 lo)).toArray:=by
 obtain ⟨h1,h2,h3⟩:=qGJ lo hi its.toArray.size;unfold slicePick;rw[h1,h2,h3];simp only[sliceRange_one,pick_run,List.size_toArray] <;> rfl
def qG7(K:PySem.W.Frag):V->Option Int->Option Int->Hp->VK->Prop:=fun x lo hi H Q=>∃ a xs,x=.ref a/\SqL K H a xs/\∀ p,H p=none->Q (.ref p) (upd H p (.lst (cutV xs lo hi)))
theorem sl_list:SlR X (qG7 X.K):=by
 intro pins s U H x v vl vu lo hi sl Q I rx hs pl pu h;obtain ⟨a,xs,rfl,hx,q⟩:=h;cases rx;obtain ⟨its,r,ht,hz⟩:=I.list hx;have hlen:=r.length;refine⟨"list",_,slot_list_getitem.lookup,ht.isList.typeIs,?_⟩;refine wpAny_getItem_list_slice ht.isList hs pl pu .none (by simp) ?_ (by rw[List.size_toArray] <;> lia);rw[qGK,<- hlen];refine⟨.ref s.heap.objs.size,_,I.laid (t':=s.toks) (o:=.lst (cutV xs lo hi)) (fun b ob q=>Heap.get?_push_of_some _ q) (Nat.le_refl _) ?_,rfl,q _ (I.hok.fresh (Nat.le_refl _))⟩
 exact⟨Nat.le_trans (qC4 xs lo hi) hz,_,0,(r.drop (HT.sIx xs.length 0 lo)).take (HT.sIx xs.length xs.length hi-HT.sIx xs.length 0 lo),Heap.get?_push_size _ rfl⟩
def flatV:V->Bool
 | .non=>true
 | .bl _=>true
 | .int _=>true
 | .str _=>true
 |_=>false
def eqV:V->V->Bool
 | .non,.non=>true
 | .bl a,.bl b=>a == b
 | .bl a,.int b=>(if a then 1 else 0) == b
 | .int a,.bl b=>a == (if b then 1 else 0)
 | .int a,.int b=>a == b
 | .str a,.str b=>a == b
 |_,_=>false
theorem qMV(ry:RelV y u)(rx:RelV x v)(fy:flatV y=true)(fx:flatV x=true):SeqAt.EqAt A s u v (eqV y x):=by
 cases y with
 |non=>
  cases ry;cases x with
  |non=>cases rx;exact SeqAt.EqAt.same _
  |bl b=>cases rx;exact SeqAt.EqAt.none_bool b
  |int b=>obtain ⟨t,rfl⟩:=rx;exact SeqAt.EqAt.none_int b t
  |str b=>obtain ⟨t,rfl⟩:=rx;exact SeqAt.EqAt.none_str b t
  |_=>exact absurd (show false=true from fx) Bool.false_ne_true
 |bl a=>
  cases ry;cases x with
  |non=>cases rx;exact SeqAt.EqAt.bool_none a
  |bl b=>cases rx;exact SeqAt.EqAt.bool_bool a b
  |int b=>obtain ⟨t,rfl⟩:=rx;exact SeqAt.EqAt.bool_int a b t
  |str b=>obtain ⟨t,rfl⟩:=rx;exact SeqAt.EqAt.bool_str a b t
  |_=>exact absurd (show false=true from fx) Bool.false_ne_true
 |int a=>
  obtain ⟨t',rfl⟩:=ry;cases x with
  |non=>cases rx;exact SeqAt.EqAt.int_none a t'
  |bl b=>cases rx;exact SeqAt.EqAt.int_bool a t' b
  |int b=>obtain ⟨t,rfl⟩:=rx;exact SeqAt.EqAt.int_int a t' b t
  |str b=>obtain ⟨t,rfl⟩:=rx;exact SeqAt.EqAt.int_str a t' b t
  |_=>exact absurd (show false=true from fx) Bool.false_ne_true
 |str a=>
  obtain ⟨t',rfl⟩:=ry;cases x with
  |non=>cases rx;exact SeqAt.EqAt.str_none a t'
  |bl b=>cases rx;exact SeqAt.EqAt.str_bool a t' b
  |int b=>obtain ⟨t,rfl⟩:=rx;exact SeqAt.EqAt.str_int a t' b t
  |str b=>obtain ⟨t,rfl⟩:=rx;exact SeqAt.EqAt.str_str a t' b t
  |_=>exact absurd (show false=true from fx) Bool.false_ne_true
 |_=>exact absurd (show false=true from fy) Bool.false_ne_true
def eqU(x:V)(u:Value):Bool:=match u with
 | .none=>eqV .non x
 | .bool b=>eqV (.bl b) x
 | .int i _=>eqV (.int i) x
 | .str z _=>eqV (.str z) x
 |_=>false
theorem qCw(r:RelV y u)(f:flatV y=true):eqU x u=eqV y x:=by
 cases y with
 |non=>cases r;rfl
 |bl b=>cases r;rfl
 |int i=>obtain ⟨t,rfl⟩:=r;rfl
 |str z=>obtain ⟨t,rfl⟩:=r;rfl
 |_=>exact absurd (show false=true from f) Bool.false_ne_true
theorem aF:∀ {xs:List V} {us:List Value},Vals xs us->xs.all flatV=true->us.any (eqU x)=xs.any fun y=>eqV y x
 |_,_,.nil,_=>rfl
 |y::xs,u::us,.cons r t,f=>by
  rw[List.all_cons,Bool.and_eq_true] at f;rw[List.any_cons,List.any_cons,qCw r f.1,aF t f.2]
theorem uX(rx:RelV x v)(fx:flatV x=true):∀ {xs:List V} {us:List Value},Vals xs us->xs.all flatV=true->∀ u∈us,SeqAt.EqAt A s u v (eqU x u)
 |_,_,.nil,_=>fun u hu=>by cases hu
 |y::xs,u::us,.cons r t,f=>fun u' hu=>by
  rw[List.all_cons,Bool.and_eq_true] at f;rcases List.mem_cons.mp hu with rfl | hu
  ·rw[qCw r f.1];exact qMV r rx f.1 fx
  ·exact uX rx fx t f.2 u' hu
def inV(x:V)(xs:List V):Bool:=xs.any fun y=>eqV y x
def rIn(K:PySem.W.Frag)(neg:Bool):R2:=fun x y H Q=>∃ p xs,y=.ref p/\(SqL K H p xs\/SqT K H p xs)/\flatV x=true/\xs.all flatV=true/\Q (.bl (if neg then !inV x xs else inV x xs)) H
theorem op_in_seq:OpR X (compareOp .In) (rIn X.K false):=by
 intro pins s U H x y v u Q I rx ry h;obtain ⟨p,xs,rfl,hq,fx,fs,q⟩:=h;cases ry;rcases hq with hq | hq
 ·obtain ⟨its,r,pl,hz⟩:=I.list hq;refine SeqAt.in_listAt (eqU x) pl.isList (fun w hw=>uX rx fx r fs w (by simpa using hw)) ⟨.bl _,H,I,rfl,?_⟩;rw[show its.toArray.any (eqU x)=its.any (eqU x) by simp,aF r fs];exact q
 ·obtain ⟨its,r,pl,hz⟩:=I.tuple hq;refine SeqAt.in_tupleAt (eqU x) pl (fun w hw=>uX rx fx r fs w (by simpa using hw)) ⟨.bl _,H,I,rfl,?_⟩;rw[show its.toArray.any (eqU x)=its.any (eqU x) by simp,aF r fs];exact q
theorem op_notIn_seq:OpR X (compareOp .NotIn) (rIn X.K true):=by
 intro pins s U H x y v u Q I rx ry h;obtain ⟨p,xs,rfl,hq,fx,fs,q⟩:=h;cases ry;rcases hq with hq | hq
 ·obtain ⟨its,r,pl,hz⟩:=I.list hq;refine SeqAt.notIn_listAt (eqU x) pl.isList (fun w hw=>uX rx fx r fs w (by simpa using hw)) ⟨.bl _,H,I,rfl,?_⟩;rw[show its.toArray.any (eqU x)=its.any (eqU x) by simp,aF r fs];exact q
 ·obtain ⟨its,r,pl,hz⟩:=I.tuple hq;refine SeqAt.notIn_tupleAt (eqU x) pl (fun w hw=>uX rx fx r fs w (by simpa using hw)) ⟨.bl _,H,I,rfl,?_⟩;rw[show its.toArray.any (eqU x)=its.any (eqU x) by simp,aF r fs];exact q
theorem call_tuple_of:qM X (.type "tuple") (fun xs H Q=>∃ p ys,xs=[.ref p]/\((SqL X.K H p ys/\∀ l,H l=none->Q (.ref l) (upd H l (.tup ys)))\/(SqT X.K H p ys/\Q (.ref p) H))):=by
 intro pins s U H xs us Q I r h;obtain ⟨p,ys,rfl,h⟩:=h;obtain ⟨u,rfl,rx⟩:=vals1 r;cases rx;rcases h with⟨hq,q⟩ | ⟨hq,q⟩
 ·obtain ⟨its,r',pl,hz⟩:=I.list hq;have hlen:=r'.length;refine call_tuple_list pl.isList (fun h' kp=>?_) (by simp only[List.size_toArray] <;> lia);have I1:Inv X pins U H { s with heap:=h' }:=I.kept (t':=s.toks) kp
  have I2:Inv X pins U (upd H h'.objs.size (.tup ys)) { s with heap:=h'.push { cls:=.type "tuple",data:=.seq its.toArray } }:=
   I1.laid (t':=s.toks) (fun b o e=>Heap.get?_push_of_some _ e) (Nat.le_refl _) (show ObjOk X.prog X.w _ _ _ (.tup ys) from ⟨hz,its,r',IsTup.new _ _⟩)
  exact⟨.ref h'.objs.size,_,I2,rfl,q _ (I1.hok.fresh (Nat.le_refl _))⟩
 ·obtain ⟨its,r',pl,hz⟩:=I.tuple hq;exact call_tuple_same pl ⟨.ref p,H,I,rfl,q⟩
def tyV(K:PySem.W.Frag)(T:String)(x:V)(H:Hp):Prop:=match x with
 | .str _=>T="str"
 | .int _=>T="int"
 | .ref p=>(T="list"/\∃ xs,SqL K H p xs)\/(T="tuple"/\∃ o,K.lookup p=some o/\o.cls=.type "tuple"/\o.dict=none) \/
   (T="dict"/\((∃ kvs,H p=some (.dK kvs))\/∃ kvs,H p=some (.dT kvs)))\/(T="set"/\∃ S n,H p=some (.set S n))
 |_=>False
theorem qFA(I:Inv X pins U H s)(r:RelV x v)(ty:tyV X.K T x H) :
  s.TypeIs v T/\∀ a,v=.ref a->∃ ob,s.heap.get? a=some ob/\ob.dict=none:=by
 cases x with
 |str z=>
  obtain ⟨t,rfl⟩:=r;cases (show T="str" from ty)
  exact⟨typeIs_str s z t,fun _ e=>nomatch e⟩
 |int i=>
  obtain ⟨t,rfl⟩:=r;cases (show T="int" from ty)
  exact⟨typeIs_int s i t,fun _ e=>nomatch e⟩
 |ref p=>
  cases r;rcases ty with⟨rfl,xs,hq⟩ | ⟨rfl,o,hk,hc,hd⟩ | ⟨rfl,hk⟩ | ⟨rfl,S,n,hk⟩
  ·obtain ⟨its,_,pl,_⟩:=I.list hq;refine⟨pl.isList.typeIs,fun a e=>?_⟩;cases e;obtain ⟨o,n,e,c,hd,_⟩:=pl
   exact⟨o,e,hd⟩
  ·refine⟨⟨o,I.kIn p o hk,hc⟩,fun a e=>?_⟩;cases e
   exact⟨o,I.kIn _ o hk,hd⟩
  ·have z:∃ o,s.heap.get? p=some o/\o.ExactDict:=by
    rcases hk with⟨kvs,hk⟩ | ⟨kvs,hk⟩
    ·obtain ⟨_,_,_,_,o,_,_,e,ex,_⟩:=I.hok p _ hk
     exact⟨o,e,ex⟩
    ·obtain ⟨_,_,_,_,o,_,_,e,ex,_⟩:=I.hok p _ hk
     exact⟨o,e,ex⟩
   obtain ⟨o,e,ex⟩:=z;refine⟨⟨o,e,ex.1⟩,fun a e2=>?_⟩;cases e2
   exact⟨o,e,ex.2.1⟩
  ·obtain ⟨o,_,_,_,e,ex,_⟩:=I.hok p _ hk;refine⟨⟨o,e,ex.1⟩,fun a e2=>?_⟩;cases e2
   exact⟨o,e,ex.2.1⟩
 |_=>cases ty
def tBM(K:PySem.W.Frag)(T:String)(r:V->List V->Hp->VK->Prop)(to:TE)(t:TA):TE:=fun U H Q=>to U H fun x H1=>tyV K T x H1/\t U H1 fun xs H2=>r x xs H2 Q
variable {o e:Expr}{es:List Expr}{to:TE}{t:TA}{name:Str}{apos cpos:Pos}{T id:String}{r:V->List V->Hp->VK->Prop}
theorem pe_bm (pa:PlainAttrs T) (slot:Slot T name id) (hty:typeOf (.builtin id)=pure (.type "method_descriptor")) (hm:MtR X id r) (ho:PE X o to) (ha:PA X (e::es) t)
  (hbase:attributeBase o name X.env (eval o X.env)=eval o X.env:=by rfl)
  (hfew:((backTo cpos (starEach (e::es) X.env)).all (fun x=>!x.1)&&(backToKw cpos (keywordEach [] X.env)).all (fun x=>x.1.isSome)
  &&decide ((e::es).length+([]:List Keyword).length+(if ([]:List Keyword).isEmpty then 0 else 1)<30))=true:=by rfl)
  (hline:(apos.endLine == cpos.line)=true:=by rfl) (hs:starEach (e::es) X.env=(false,eval e X.env)::starEach es X.env:=by rfl) (hplain:(backTo cpos (starEach es X.env)).any (·.1)=false:=by rfl) :
  PE X (.Call (.Attribute o name apos) (e::es) [] cpos) (tBM X.K T r to t):=by
 intro pins s U H Q I h;refine wpAny_Call_method_late hbase hfew hline rfl (thn (ho pins s U H _ I h) fun v s1 ⟨x,H1,I1,r1,ty,q1⟩=>?_);obtain ⟨h1,h2⟩:=qFA I1 r1 ty;refine⟨T,id,pa,slot,hty,h1,h2,?_⟩;have hA:=ha cpos pins s1 U H1 _ I1 q1;rw[hs] at hA ⊢;refine Calls.callWith_builtin (by show (false || (backTo cpos (starEach es X.env)).any (·.1))=false;rw[hplain] <;> rfl) (Calls.evalArgs_plain ?_);exact thn hA fun us s2 ⟨vs,H2,I2,r2,q2⟩=>hm pins s2 U H2 x vs v us Q I2 r1 r2 q2
end
def MtM(X:Cx)(id:String)(r:V->List V->Hp->VK->Prop):Prop:=
 ∀ (pins:List (Addr × Obj)) (s:Shared) (U:St) (H:Hp) (x:V) (xs:List V) (v:Value) (us:List Value) (Q:VK),Inv X pins U H s->RelV x v->Vals xs us->r x xs H Q ->
  wpAny (model X.prog X.w) X.A (call (.builtin id) (v::us)) (EP X pins U Q) X.xe s
theorem Vals.one(h:Vals [x] us):∃ u,us=[u]/\RelV x u:=by
 cases h with
 |cons r t=>cases t;exact⟨_,rfl,r⟩
theorem Vals.two(h:Vals [x,y] us):∃ u v,us=[u,v]/\RelV x u/\RelV y v:=by
 cases h with
 |cons r t=>cases t with
  |cons q z=>cases z;exact⟨_,_,rfl,r,q⟩
section
variable {X:Cx}{pins:List (Addr × Obj)}{U:St}{H:Hp}{s:Shared}{l b:Addr}{xs ys zs:List V}
theorem Inv.lset{its:List Value}(I:Inv X pins U H s)(hH:H l=some (.lst xs))
  (e:s.heap.get? l=some { cls:=.type "list",data:=.seq its.toArray n }) (hf:f its.toArray=its'.toArray) (hv:Vals ys its') (hz:ys.length<=sizeLine) :
  Inv X pins U (upd H l (.lst ys)) { s with heap:=s.heap.update l (Obj.mapSeq f),toks:=t' }:=by
 have q:=PySem.IsL.update e f;rw[hf] at q;refine I.write (x:=l) (e:=l) (by rw[hH];exact trivial) (.inl rfl) (fun b' u hb hu=>(Heap.get?_update_other s.heap (Obj.mapSeq f) (Ne.symm hb)).trans hu) ⟨_,q⟩ ?_
 exact⟨hz,its',_,hv,q⟩
theorem Inv.lnew(I:Inv X pins U H s)(hv:Vals ys its)(hz:ys.length<=sizeLine) :
  Inv X pins U (upd H s.heap.objs.size (.lst ys)) { s with heap:=s.heap.push { cls:=.type "list",data:=.seq its.toArray },toks:=t' }:=
 I.laid (fun _ _ q=>Heap.get?_push_of_some _ q) (Nat.le_refl _) ⟨hz,its,0,hv,Heap.get?_push_size _ rfl⟩
theorem Inv.fresh(I:Inv X pins U H s):H s.heap.objs.size=none:=I.hok.fresh (Nat.le_refl _)
theorem Inv.lstM(I:Inv X pins U H s)(hH:H l=some (.lst xs)):xs.length<=sizeLine/\∃ (its:List Value) (n:Nat),Vals xs its/\xs.length=its.length/\s.heap.get? l=some { cls:=.type "list",data:=.seq its.toArray n }:=by
 obtain ⟨z,its,n,r,e⟩:=I.hok l _ hH
 exact⟨z,its,n,r,r.length,e⟩
theorem qIM(h:n<=sizeLine):Builtin.List.listTooLong n=false:=by
 unfold Builtin.List.listTooLong;exact decide_eq_false (by lia)
end
section
variable {X:Cx}
def qHG:V->List V->Hp->VK->Prop:=fun x vs H Q=>∃ l xs y,x=.ref l/\vs=[y]/\H l=some (.lst xs)/\xs.length<sizeLine/\Q .non (upd H l (.lst (xs++[y])))
theorem mt_append:MtM X "list.append" qHG:=by
 intro pins s U H x vs v us Q I rx rv h;obtain ⟨l,xs,y,rfl,rfl,hH,hz,q⟩:=h;cases rx;obtain ⟨u,rfl,ru⟩:=rv.one;obtain ⟨z,its,n,r,hl,e⟩:=I.lstM hH;refine call_meets F.slot_list_append ⟨_,e,rfl⟩ F.entry_list_append (F.args_list_append_2 _ _) (PySem.list_append l its.toArray n u (by rw[List.size_toArray];lia)) ⟨e,?_⟩;refine⟨.non,_,I.lset (its':=its++[u]) hH e (by simp) (r.append (.cons ru .nil)) ?_,rfl,q⟩;rw[List.length_append,List.length_singleton]
 lia
def qHD:V->List V->Hp->VK->Prop:=fun x vs H Q=>∃ l b xs zs,x=.ref l/\vs=[.ref b]/\H l=some (.lst xs)/\H b=some (.lst zs)/\xs.length+zs.length<=sizeLine/\Q .non (upd H l (.lst (xs++zs)))
theorem mt_extend:MtM X "list.extend" qHD:=by
 intro pins s U H x vs v us Q I rx rv h;obtain ⟨l,b,xs,zs,rfl,rfl,hH,hB,hz,q⟩:=h;cases rx;obtain ⟨u,rfl,ru⟩:=rv.one;cases ru;obtain ⟨z,its,n,r,hl,e⟩:=I.lstM hH;obtain ⟨z2,its2,n2,r2,hl2,e2⟩:=I.lstM hB;have hsz:its.toArray.size+its2.toArray.size<=sizeLine:=by rw[List.size_toArray,List.size_toArray];lia
 have hlong:¬ (!its.toArray.isEmpty&&Builtin.List.listTooLong (its.toArray.size+its2.toArray.size))=true:=by
  rw[qIM hsz,Bool.and_false];exact Bool.false_ne_true
 refine call_meets F.slot_list_extend ⟨_,e,rfl⟩ F.entry_list_extend (F.args_list_extend_2 _ _)
  (AutoSeq1.list_extend_list_list_0 l its.toArray n b its2.toArray n2 hlong (by rw[List.size_toArray];lia) (by lia)) ⟨e,e2,?_⟩
 refine⟨.non,_,I.lset (its':=its++its2) hH e (by simp) (r.append r2) ?_,rfl,q⟩;rw[List.length_append]
 lia
def qHF:R2:=fun x y H Q=>∃ l b xs zs,x=.ref l/\y=.ref b/\H l=some (.lst xs)/\H b=some (.lst zs)/\xs.length+zs.length<=sizeLine/\∀ p,H p=none->Q (.ref p) (upd H p (.lst (xs++zs)))
theorem op_cat:OpR X (binaryOp .Add) qHF:=by
 intro pins s U H x y v u Q I rx ry h;obtain ⟨l,b,xs,zs,rfl,rfl,hH,hB,hz,q⟩:=h;cases rx;cases ry;obtain ⟨z,its,n,r,hl,e⟩:=I.lstM hH;obtain ⟨z2,its2,n2,r2,hl2,e2⟩:=I.lstM hB;refine PySem.P.add_list e e2 ?_ (by rw[List.size_toArray,List.size_toArray];lia);have ea:its.toArray++its2.toArray=(its++its2).toArray:=by simp
 rw[ea]
 exact⟨.ref _,_,I.lnew (t':=s.toks) (r.append r2) (by rw[List.length_append];lia),rfl,q _ I.fresh⟩
end
section
variable {prog:Program}{w:World}{A:Around}{E:Value->Shared->Prop}{s:Shared}
end
section
variable {X:Cx}
end
end L2
namespace Att
open PySem PySem.W PySem.Calls PyProof.Rows
theorem qLD:∀ (ns:List Int) (vs:List Value),WellAll P h vs (ns.map WData.int)->IntsAre vs ns:=by
 intro ns
 induction ns with
 |nil=>intro vs w;rw[List.map_nil] at w;cases w;exact .nil
 |cons n ns ih=>
  intro vs w;rw[List.map_cons] at w;cases w with
  |cons a b=>cases a;exact .cons _ _ (ih _ b)
theorem qGZ{l:OpenLaw}(hn:l.most=some n)
  (hpre:l.row.toRowW.claim.pre args=true) (hwl:WellAll P h vals args) :
  ∃ a vs ns,vals=[Value.ref a]/\args=[WData.list (ns.map WData.int)]/\h.get? a=some { cls:=.type "list",data:=.seq vs.toArray }/\IntsAre vs ns/\ns.length<=n:=by
 have hsh:WShape.hasAll [] args [.list .int]=true:=(pre_splitW hpre).1;have hc:l.pre.holds [] { args:=args }=true:=(pre_splitW hpre).2;obtain ⟨d,r,rfl,h1,h2⟩:=hasAllW_cons hsh;obtain rfl:=hasAllW_nil h2;obtain ⟨xs,rfl,h3⟩:=hasW_list h1;obtain ⟨ns,rfl⟩:=items_int h3
 have hlen:ns.length<=n:=by
  unfold OpenLaw.pre at hc
  have h4:(WTm.not (.lt (.lit (.int (n:Int))) (.len (.arg 0)))).holds [] { args:=[.list (ns.map .int)] }=true:=by
   have h4:=(holds_andW hc).1;rw[hn] at h4;exact h4
  have h5:=condW_of h4 (w_not (w_lt w_lit (w_len_list (w_arg rfl))));rw[List.length_map] at h5;refine Nat.le_of_not_lt fun q=>?_;have q':(n:Int)<((ns.length:Nat):Int):=by lia
  first
   | (rw[decide_eq_true q'] at h5;exact absurd h5 (by decide))
   | (simp at h5;lia)
 cases hwl with
 |cons w1 w2=>
  cases w2;cases w1 with
  |list ho hall=>exact⟨_,_,ns,rfl,rfl,ho,qLD ns _ hall,hlen⟩
theorem qHI(l:OpenLaw)(args:List WData):l.row.toRowW.claim.post args (.bool true) args=true:=
 postW_of (r:=l.row.toRowW) (X:=(true == true))
  (show WShape.has [] (.bool true) .bool=true by first | rfl | decide | simp[WShape.has,WShape.arms,WShape.armsAll])
  (show (WTm.eq .res (.lit (.bool true))).value [] { args:=args,res:=some (.bool true),after:=args }=some (.bool (true == true)) from w_eq_bool (w_res rfl) w_lit) rfl
theorem attach_call{l:OpenLaw}
  (hn:l.most=some n) (hdf:d.params.defaults=[])
  (call:∀ (w:World) (s₀ s₁:Shared) (mg mb:Str->Option Value) (fa:Addr) (o:Obj) (pm cd doc:Value) (a:Addr) (vs:List Value) (ns:List Int),
   Ground q loose [] XP w s₀ mg mb s₁.heap->YP w s₁.heap ->
   s₁.heap.get? fa=some o->o.data=.func (docDef d.name d.params d.body d.scope pm cd doc)->s₁.heap.CodeRec cd d.name->mg d.name=some (.ref fa) ->
   s₁.heap.get? a=some { cls:=.type "list",data:=.seq vs.toArray }->IntsAre vs ns->ns.length<=n->s₁.gens=#[] ->
   codeAny (model l.prog w) callerA (.call (.ref fa) ⟨[.ref a],[]⟩) (fun r s'=>r=.ok (.ret (.bool true))/\OldK s₁.heap s'.heap/\s'.os=s₁.os/\AllBare s'.gens) s₁) :
  WalkO q loose XP YP l.row.toRowW d [] (fun f vs=>PySem.call f vs):=by
 intro w s₀ s₁ mg mb G Yy fa o pm cd doc dV kV ho hd hcd hD hmg hg args vals as hpre hlay hrd hwl hlo;obtain rfl:dV=.none:=Dflts.none hD hdf;obtain rfl:kV=.none:=Dflts.noKw hD;obtain ⟨a,vs,ns,rfl,rfl,hobj,hints,hlen⟩:=qGZ hn hpre hwl;refine enter_call (codeAny_mono (call w s₀ s₁ mg mb fa o pm cd doc a vs ns G Yy ho (fd_plain hd) hcd hmg hobj hints hlen hg) fun r s' hq=>?_);obtain ⟨rfl,h2,h3,h4⟩:=hq
 exact⟨.inl ⟨.bool true,.bool true,[],rfl,fun _=>rfl,.bool true,qHI l _,fun _=>⟨List.Pairwise.nil,fun _ hm=>(nomatch hm)⟩⟩,h2,h3,h4⟩
section
variable {prog:Program}{w:World}{A:Around}{E:Value->Shared->Prop}{s:Shared}{K:Frag}
def qRG(h:Heap)(L d:Addr):List (Addr × Obj):=(List.range h.objs.size).filterMap fun a=>if a=L\/a=d then none else (h.get? a).map fun o=>(a,o)
end
end Att
namespace L2
open PySem PySem.Spec PyProof.Rows
theorem vals_ints:∀ {vs:List Value} {ns:List Int},IntsAre vs ns->Vals (ns.map V.int) vs
 |_,_,.nil=>.nil
 |_,_,.cons n t h=>.cons ⟨t,rfl⟩ (vals_ints h)
def Only(H:Hp):Prop:=∀ b,H b=none\/∃ o xs,H b=some (.frz o (.lst xs))
theorem qKQ{K:PySem.W.Frag}
  (KX:K.In s₁.heap) (hns:s₁.heap.Ns mainGlobals mg) (hb:s₁.heap.Ns builtinsNs mb) (hbb:∀ x:Str,x≠"__name__"->mb x=bootBuiltins x) (hlim:s₁.heap.NoLimit) (hg:s₁.gens=#[])
  (ha:s₁.heap.get? a=some { cls:=.type "list",data:=.seq vs.toArray }) (hi:IntsAre vs ns) (hl:ns.length<=sizeLine) (hr:Room k callerA)
  (F:∀ base:Heap,K.In base->base.Ns mainGlobals mg->FnOk P w K mg base CX k fa fd [x] sp) (hbind:∀ (s:Shared) (u:Value),BindsTo s fd ⟨[u],[]⟩ [(x,u)])
  (hsp:∀ H:Hp,Only H->SqL K H a (ns.map V.int)->sp [.ref a] H (fun v _=>v=.bl true) fun _ _ _=>False)
  (hCX:∀ H e s',CX [] H s₁ (fun _ _ _=>False) e s'->False) :
  codeAny (model P w) callerA (.call (.ref fa) ⟨[.ref a],[]⟩) (fun r s'=>r=.ok (.ret (.bool true))/\OldK s₁.heap s'.heap/\s'.os=s₁.os/\AllBare s'.gens) s₁:=by
 have rv:=vals_ints hi;have lenV:=hi.length
 have core:∀ H:Hp,Only H->SqL K H a (ns.map V.int)->HOk P w H s₁.heap->(∀ b,H b≠none->b=a)->(H a≠none->K.lookup a=none) ->
   codeAny (model P w) callerA (.call (.ref fa) ⟨[.ref a],[]⟩) (fun r s'=>r=.ok (.ret (.bool true))/\OldK s₁.heap s'.heap/\s'.os=s₁.os/\AllBare s'.gens) s₁:=by
  intro H hO hS hok hA hK;have base_of:∀ {b:Addr} {o:Obj},s₁.heap.get? b=some o->H b=none->(vG s₁.heap H).get? b=some o:=fun e n=>qL8 e n
  have noA:∀ {b:Addr} {o:Obj} {es:Array DictEntry} {ep:Nat},s₁.heap.get? b=some o->o.data=.dict es ep->H b=none:=fun {b o es ep} e d=>by
   cases q:H b with
   |none=>rfl
   |some u=>have e':b=a:=hA b (by rw[q];simp);subst e';rw[ha] at e;cases e;have d':Data.seq vs.toArray _=Data.dict es ep:=d;cases d'
  have nsK:∀ {b:Addr} {m:Str->Option Value},s₁.heap.Ns b m->(vG s₁.heap H).Ns b m:=fun {b m} ⟨o,es,ep,e,d,r⟩=>⟨o,es,ep,base_of e (noA e d),d,r⟩
  have hKb:K.In (vG s₁.heap H):=fun b o e=>base_of (KX b o e) (by
   cases q:H b with
   |none=>rfl
   |some u=>
    have e':b=a:=hA b (by rw[q];simp);subst e'
    rw[hK (by rw[q];simp)] at e;cases e)
  have hM:Mod K mg (vG s₁.heap H):=⟨hKb,nsK hns,⟨mb,nsK hb,hbb⟩,let ⟨mc,h1,h2⟩:=hlim;⟨mc,nsK h1,h2⟩⟩;have e0:Env0 P w K mg (vG s₁.heap H) callerA [] s₁ H:=⟨rfl,hM,fun b o e=>qHh e,Nat.le_of_eq (qL7 _ _),trivial,fun b hb=>absurd (show b∈([]:List Addr) from hb) (by simp),hok,.of_eq hg⟩;refine codeAny_mono ((F _ hKb (nsK hns)).run callerA [] s₁ H ⟨[.ref a],[]⟩ [.ref a] [.ref a] _ _ hr e0 (hbind s₁ (.ref a)) (.cons rfl .nil) (hsp H hO hS)) fun r s' h=>?_;cases r with
  |error e=>exact (hCX H e s' h).elim
  |ok fl=>
   cases fl with
   |next=>cases h
   |brk=>cases h
   |cont=>cases h
   |ret u=>
    obtain ⟨v,H',os,bare,un,hok',r',q⟩:=h;have q':v=.bl true:=q;subst q';obtain rfl:u=Value.bool true:=r';refine⟨rfl,OldK.of_keep fun b o e=>?_,os,bare⟩;cases q:H b with
    |none=>exact un.keep b o e q (by intro z;exact absurd (show b∈([]:List Addr) from z) (by simp)) (by simp)
    |some u=>
     rcases hO b with z | ⟨ob,xs,z⟩
     ·rw[q] at z;cases z
     ·have z2:=un.frzs b ob _ z;obtain ⟨e1,_⟩:=hok b _ z;obtain ⟨e2,_⟩:=hok' b _ z2;rw[e] at e1;cases e1;exact e2
 cases hk:K.lookup a with
 |some o=>have e:=KX a o hk;rw[ha] at e;cases e;refine core (fun _=>none) (fun _=>.inl rfl) (.inr ⟨_,vs.toArray,_,hk,rfl,rfl,rfl,by rw[List.size_toArray,lenV];exact hl,by simpa using rv⟩) (fun b u z=>by have z':(none:Option HO)=some u:=z;cases z') (fun b z=>absurd rfl z) fun z=>absurd rfl z
 |none=>
  refine core (fun b=>if b=a then some (.frz { cls:=.type "list",data:=.seq vs.toArray } (.lst (ns.map V.int))) else none) (fun b=>?_) (.inl (.inr ⟨{ cls:=.type "list",data:=.seq vs.toArray },if_pos rfl⟩)) (fun b u z=>?_) (fun b z=>?_) fun _=>hk
  ·by_cases hb:b=a
   ·exact .inr ⟨_,_,if_pos hb⟩
   ·exact .inl (if_neg hb)
  ·by_cases hb:b=a
   ·have z':=(if_pos hb).symm.trans z;cases z';subst hb
    exact⟨ha,by rw[List.length_map];exact hl,vs,_,rv,ha⟩
   ·have z':=(if_neg hb).symm.trans z;cases z'
  ·by_cases hb:b=a
   ·exact hb
   ·exact absurd (if_neg hb) z
abbrev KOf{K:PySem.W.Frag}{h:Heap}(_:K.In h):PySem.W.Frag:=K
theorem walk_of{l:PySem.W.OpenLaw}{K:Params->PySem.W.Frag}{CX:World->CXT}{sp:World->Sp}
  (hn:l.most=some n) (hn2:n<=sizeLine) (hdf:d.params.defaults=[]) (hr:Room k callerA)
  (hY:∀ (w:World) (h:Heap),YP w h->(K w.params).In h)
  (F:∀ (w:World) (mg:Str->Option Value) (fa:Addr) (h:Heap),(K w.params).In h->h.Ns mainGlobals mg->mg d.name=some (.ref fa) ->
   ∃ fd:FuncData,(∀ (s:Shared) (u:Value),BindsTo s fd ⟨[u],[]⟩ [(x,u)]) /\
    ∀ base:Heap,(K w.params).In base->base.Ns mainGlobals mg->FnOk l.prog w (K w.params) mg base (CX w) k fa fd [x] (sp w))
  (hsp:∀ (w:World) (H:Hp) (a:Addr) (ns:List Int),ns.length<=n->Only H->SqL (K w.params) H a (ns.map V.int)->sp w [.ref a] H (fun v _=>v=.bl true) fun _ _ _=>False)
  (hCX:∀ (w:World) (H:Hp) (s:Shared) (e:Value) (s':Shared),CX w [] H s (fun _ _ _=>False) e s'->False) :
  PySem.W.WalkO q loose XP YP l.row.toRowW d [] (fun f vs=>PySem.call f vs):=by
 refine Att.attach_call hn hdf fun w s₀ s₁ mg mb fa o pm cd doc a vs ns G Yy ho hd hcd hmg hobj hints hlen hg=>?_;have KX:=hY w _ Yy;obtain ⟨fd,hb,hF⟩:=F w mg fa _ KX G.T.g hmg;exact qKQ KX G.T.g G.T.b G.T.builtins G.T.nolimit hg hobj hints (Nat.le_trans hlen hn2) hr hF hb (fun H hO hS=>hsp w H a ns hlen hO hS) fun H e s'=>hCX w H s₁ e s'
def defArgs(s:Stmt):Arguments:=match s with
 | .FunctionDef _ a _ _ _ _ _ _ _ _=>a
 |_=>{ posonlyargs:=[],args:=[],vararg:=none,kwonlyargs:=[],kw_defaults:=[],kwarg:=none,defaults:=[] }
def defBody(s:Stmt):List Stmt:=match s with
 | .FunctionDef _ _ b _ _ _ _ _ _ _=>b
 |_=>[]
def defScope(s:Stmt):Scope:=match s with
 | .FunctionDef _ _ _ _ _ _ sc _ _ _=>sc
 |_=>{ kind:=.function,names:=[],isGenerator:=false,isCoroutine:=false }
structure Fun (K:PySem.W.Frag) (x qual:Str) (st:Stmt) (f:Addr) (fd:FuncData):Prop where
 ex:∃ (oc:Value) (od:Option Addr) (kV doc pm:Value) (an:Option Addr) (cdv ct:Value) (osl:Array (Option Value)),
  fd=PySem.W.fnOf x qual (defArgs st) (defBody st) (defScope st) .none kV doc pm an cdv ct/\K.lookup f=some ⟨oc,od,.func fd,osl⟩/\PySem.W.codeIn K cdv qual=true
 kp:PySem.W.keepIn K (.ref f)=true
section
variable {P:Program}{w:World}{K:PySem.W.Frag}{mg:Str->Option Value}{base:Heap}
theorem Fun.binds{st:Stmt}(F:Fun K x qual st f fd)
  (h:∀ (kV doc pm:Value) (an:Option Addr) (cdv ct:Value) (us:List Value),us.length=ps.length->bindArgs (PySem.W.fnOf x qual (defArgs st) (defBody st) (defScope st) .none kV doc pm an cdv ct) ⟨us,[]⟩=pure (ps.zip us)):Binds K fd ps []:=by
 obtain ⟨oc,od,kV,doc,pm,an,cdv,ct,osl,rfl,lk,hcd⟩:=F.ex;exact .all (h kV doc pm an cdv ct)
theorem fun_mk{st:Stmt}{kV:Value}(l:K.lookup f=some ⟨oc,od,.func (PySem.W.fnOf x qual (defArgs st) (defBody st) (defScope st) .none kV doc pm an cdv ct),osl⟩)
  (c:PySem.W.codeIn K cdv qual=true) (k:PySem.W.keepIn K (.ref f)=true):Fun K x qual st f (PySem.W.fnOf x qual (defArgs st) (defBody st) (defScope st) .none kV doc pm an cdv ct):=⟨⟨oc,od,kV,doc,pm,an,cdv,ct,osl,rfl,l,c⟩,k⟩
end
section
variable {X:Cx}
theorem pv(i:Nat)(hN:X.N[i]?=some x:=by rfl)(hv:Vis X.env.scope x:=by first | exact Or.inl rfl | exact Or.inr (Or.inl rfl) | exact Or.inr (Or.inr rfl))(hd:(x == ("__debug__":Str))=false:=by decide)
  (hcd:(x == ("__classdict__":Str))=false:=by decide):PE X (.Name x pos) (tVar i):=pe_var hN hv hd hcd
end
theorem iteF{B:Prop}(h:B):if false=true then A else B:=by
 rw[if_neg Bool.false_ne_true];exact h
theorem iteT{B:Prop}(h:A):if true=true then A else B:=by
 rw[if_pos rfl];exact h
section
variable {κ:Type}[DecidableEq κ]
def valV(kvs:List (κ × V))(k:κ):Option V:=(kvs.find? fun kv=>decide (kv.1=k)).map (·.2)
def putK(kvs:List (κ × V))(k:κ)(v:V):List (κ × V):=
 if (kvs.any fun kv=>decide (kv.1=k))=true then kvs.map (fun kv=>if kv.1=k then (kv.1,v) else kv) else kvs++[(k,v)]
def dropK(kvs:List (κ × V))(k:κ):List (κ × V):=kvs.filter fun kv=>decide (kv.1≠k)
theorem valV_pos{k:κ}(e:p.1=k):valV (p::r) k=some p.2:=by simp[valV,List.find?_cons,e]
theorem valV_neg{k:κ}(e:¬ p.1=k):valV (p::r) k=valV r k:=by simp[valV,List.find?_cons,e]
theorem length_putK(kvs:List (κ × V))(k:κ)(v:V):(putK kvs k v).length<=kvs.length+1:=by
 unfold putK;split
 ·rw[List.length_map];lia
 ·rw[List.length_append,List.length_cons,List.length_nil];lia
theorem RelO.isSome_eq(r:RelO o u):o.isSome=u.isSome:=by
 cases o with
 |none=>cases u with
  |none=>rfl
  |some _=>exact (show False from r).elim
 |some _=>cases u with
  |none=>exact (show False from r).elim
  |some _=>rfl
theorem RelO.getD(r:RelO o u)(rd:RelV d d'):RelV (o.getD d) (u.getD d'):=by
 cases o with
 |none=>cases u with
  |none=>exact rd
  |some _=>exact (show False from r).elim
 |some _=>cases u with
  |none=>exact (show False from r).elim
  |some _=>exact r
theorem KV.val(r:KV kvs vs)(k:κ):RelO (valV kvs k) (valueAt vs k):=by
 unfold KV at r
 induction r with
 |nil=>exact True.intro
 | @cons p q ps qs h t ih=>
  obtain ⟨h1,h2⟩:=h
  by_cases e:p.1=k
  ·have e':q.1=k:=h1.symm.trans e;have b:valueAt (q::qs) k=some q.2:=by simp[valueAt,List.find?_cons,e']
   rw[valV_pos e,b];exact h2
  ·have e':¬ q.1=k:=fun z=>e (h1.trans z);have b:valueAt (q::qs) k=valueAt qs k:=by simp[valueAt,List.find?_cons,e']
   rw[valV_neg e,b];exact ih
theorem KV.any(r:KV kvs vs)(k:κ):(kvs.any fun kv=>decide (kv.1=k))=vs.any fun kv=>decide (kv.1=k):=by
 unfold KV at r
 induction r with
 |nil=>rfl
 |cons h t ih=>rw[List.any_cons,List.any_cons,ih,h.1]
theorem KV.repl(r:KV kvs vs)(k:κ)(ry:RelV y u) :
  KV (kvs.map fun kv=>if kv.1=k then (kv.1,y) else kv) (vs.map fun kv=>if kv.1=k then (kv.1,u) else kv):=by
 unfold KV at r ⊢
 induction r with
 |nil=>exact .nil
 | @cons p q ps qs h t ih=>
  rw[List.map_cons,List.map_cons];refine .cons ?_ ih;obtain ⟨h1,h2⟩:=h
  by_cases e:p.1=k
  ·rw[if_pos e,if_pos (h1.symm.trans e)];exact⟨h1,ry⟩
  ·rw[if_neg e,if_neg (fun z=>e (h1.trans z))];exact⟨h1,h2⟩
theorem KV.put(r:KV kvs vs)(k:κ)(ry:RelV y u):KV (putK kvs k y) (stored vs k u):=by
 unfold putK stored;rw[r.any k]
 by_cases e:(vs.any fun kv=>decide (kv.1=k))=true
 ·rw[if_pos e,if_pos e];exact r.repl k ry
 ·rw[if_neg e,if_neg e];exact Paired.snoc r ⟨rfl,ry⟩
theorem KV.drop(r:KV kvs vs)(k:κ):KV (dropK kvs k) (without vs k):=by
 unfold KV at r ⊢;unfold dropK without
 induction r with
 |nil=>exact .nil
 | @cons p q ps qs h t ih=>
  obtain ⟨h1,h2⟩:=h;rw[List.filter_cons,List.filter_cons]
  by_cases e:p.1=k
  ·have a:¬ decide (p.1≠k)=true:=by simp[e]
   have b:¬ decide (q.1≠k)=true:=by simp[h1.symm.trans e]
   rw[if_neg a,if_neg b];exact ih
  ·have e':¬ q.1=k:=fun z=>e (h1.trans z);have a:decide (p.1≠k)=true:=by simp[e]
   have b:decide (q.1≠k)=true:=by simp[e']
   rw[if_pos a,if_pos b];exact .cons ⟨h1,h2⟩ ih
theorem KV.keys{vs:List (κ × Value)}(r:KV kvs vs):kvs.map (·.1)=vs.map (·.1):=by
 unfold KV at r
 induction r with
 |nil=>rfl
 |cons h t ih=>rw[List.map_cons,List.map_cons,ih,h.1]
theorem KV.length{vs:List (κ × Value)}(r:KV kvs vs):kvs.length=vs.length:=Paired.length r
theorem qMh(kvs:List (κ × V))(k:κ):(dropK kvs k).length<=kvs.length:=List.length_filter_le _ _
end
theorem kV_is(r:RelV (kV k) u):(mixKind P w).is k u=true:=by
 cases k with
 |inl i=>obtain ⟨t,e⟩:=(show ∃ t,u=Value.int i t from r);subst e;exact qJI P w i t
 |inr x=>obtain ⟨t,e⟩:=(show ∃ t,u=Value.str x t from r);subst e;exact qJH P w x t
section
variable {P:Program}{w:World}{H:Hp}{h:Heap}{a:Addr}
theorem qG2(ok:HOk P w H h)(e:Rd H a u):ObjOk P w H h a u:=e.ok ok
theorem dk_rd(ok:HOk P w H h)(e:Rd H a (.dK kvs)):kvs.length<=sizeLine/\(a == sysModules)=false/\∃ vs,KV kvs vs/\h.DictOf (mixKind P w) a vs:=
 show ObjOk P w H h a (.dK kvs) from qG2 ok e
theorem dk_of(ok:HOk P w H h)(e:H a=some (.dK kvs)):kvs.length<=sizeLine/\(a == sysModules)=false/\∃ vs,KV kvs vs/\h.DictOf (mixKind P w) a vs:=dk_rd ok (.inl e)
end
section
variable {X:Cx}{pins:List (Addr × Obj)}{U:St}{H:Hp}{s:Shared}{a:Addr}{y v:V}{u r:Value}{o:Option V}{A:Around}{E:Value->Shared->Prop}
theorem Inv.big(I:Inv X pins U H s):sysModules<s.heap.objs.size:=by
 have h:mainGlobals<s.heap.objs.size:=(I.mod.glob.keeps I.bk).lt;exact Nat.lt_trans (by decide) h
theorem d_write(I:Inv X pins U H s)(mu:Mut (H a))(hs:Heap.SameBut a s.heap h')(he:∃ q,h'.get? a=some q)(new:ObjOk X.prog X.w (upd H a ob) h' a ob) :
  Inv X pins U (upd H a ob) { s with heap:=h',toks:=t' }:=
 I.write (x:=a) (e:=a) mu (.inl rfl) (fun b q hb z=>(hs.2 b hb).trans z) he new
theorem dk_new(z:kvs.length<=sizeLine)(hd:(a == sysModules)=false)(rel:KV kvs vs)(dd:h'.DictOf (mixKind P w) a vs) :
  ObjOk P w H' h' a (.dK kvs):=⟨z,hd,vs,rel,dd⟩
end
section
variable {X:Cx}{pins:List (Addr × Obj)}{U:St}{H:Hp}{s:Shared}{a:Addr}{kvs:List (Key × V)}{k:Key}{u:Value}{A:Around}{E:Value->Shared->Prop}
theorem d_pop(I:Inv X pins U H s)(e:H a=some (.dK kvs))(ry:RelV (kV k) u)(l:valV kvs k=some v)(hm:more=[]\/∃ x,more=[x])
  (h:∀ w' s',Inv X pins U (upd H a (.dK (dropK kvs k))) s'->RelV v w'->Q w' s'):wpAny (model X.prog X.w) A (call (.builtin "dict.pop") (.ref a::u::more)) Q E s:=by
 obtain ⟨z,hd,vs,rel,dd⟩:=dk_of I.hok e;obtain ⟨w',hw,rw'⟩:=RelO.some_of (v:=v) (o:=valueAt vs k) (by rw[<- l];exact rel.val k)
 have hp:(keyPart u).isSome=true:=by
  cases k with
  |inl i=>obtain ⟨t,q⟩:=(show ∃ t,u=Value.int i t from ry);subst q;rfl
  |inr x=>obtain ⟨t,q⟩:=(show ∃ t,u=Value.str x t from ry);subst q;rfl
 have ha:argsOk "dict.pop" ⟨.ref a::u::more,[]⟩:=by
  rcases hm with q | ⟨x,q⟩
  ·subst q;exact PySem.F.args_dict_pop_2 _ _
  ·subst q;exact PySem.F.args_dict_pop_3 _ _ _
 refine call_meetsIn PySem.F.slot_dict_pop dd.typeIs PySem.F.entry_dict_pop ha (meets_dict_pop_there (mixKind X.prog X.w) a (kV_is ry) more hm hp)
  ⟨vs,w',dd,by rw[<- rel.length];exact z,hw,fun h' dd' hs=>h w' _ ?_ rw'⟩
 have he:∃ q,h'.get? a=some q:=let ⟨q,_,_,hq,_⟩:=dd';⟨q,hq⟩;exact d_write I (by rw[e];exact True.intro) hs he (dk_new (Nat.le_trans (qMh kvs k) z) hd (rel.drop k) dd')
end
theorem dk_empty(h:Heap)(hb:sysModules<h.objs.size):ObjOk P w H (h.push { cls:=.type "dict",data:=.dict #[] }) h.objs.size (.dK []):=
 ⟨Nat.zero_le _,beq_eq_false_iff_ne.mpr (Ne.symm (Nat.ne_of_lt hb)),[],.nil,Heap.DictOf.new h⟩
def qFv:TE:=fun _ H Q=>∀ p,H p=none->Q (.ref p) (upd H p (.dK []))
section
variable {X:Cx}{pos:Pos}
theorem pe_dnewK:PE X (.Dict [] [] pos) qFv:=fun pins s U H Q I h=>
 wpAny_Dict_empty ⟨.ref s.heap.objs.size,_,I.laid (a:=s.heap.objs.size) (o:=.dK []) (t':=s.toks) (fun _ _ q=>Heap.get?_push_of_some _ q) (Nat.le_refl _) (dk_empty s.heap I.big),rfl,h _ (I.hok.fresh (Nat.le_refl _))⟩
end
def tPairs:List (TE × TE)->St->Hp->(List (V × V)->Hp->Prop)->Prop
 | [],_,H,Q=>Q [] H
 | (tk,tv)::r,U,H,Q=>tk U H fun x H1=>tv U H1 fun y H2=>tPairs r U H2 fun ps H3=>Q ((x,y)::ps) H3
abbrev VV:List (V × V)->List (Value × Value)->Prop:=Paired fun p q=>RelV p.1 q.1/\RelV p.2 q.2
def PPs(X:Cx)(pos:Pos)(keys:List (Option Expr))(values:List Expr)(trs:List (TE × TE)):Prop:=
 ∀ (pins:List (Addr × Obj)) (s:Shared) (U:St) (H:Hp) (Q:List (V × V)->Hp->Prop),Inv X pins U H s->tPairs trs U H Q ->
  wpAny (model X.prog X.w) X.A (evalPairs (pairTrees keys values X.env pos)) (fun vs s'=>∃ ps H',Inv X pins U H' s'/\VV ps vs/\Q ps H') X.xe s
theorem pps_nil:PPs X pos [] [] []:=fun pins s U H Q I h=>pairTrees_nil_walk ⟨[],H,I,.nil,h⟩
theorem pps_cons(hk:PE X k tk)(hv:PE X v tv)(hr:PPs X pos ks vs trs) :
  PPs X pos (some k::ks) (v::vs) ((tk,tv)::trs):=fun pins s U H Q I h=>
 pairTrees_cons_walk (thn (hk pins s U H _ I h) fun u s1 ⟨x,H1,I1,rx,q1⟩=>thn (hv pins s1 U H1 _ I1 q1) fun w2 s2 ⟨y,H2,I2,ry,q2⟩=>
  thn (hr pins s2 U H2 _ I2 q2) fun ws s3 ⟨ps,H3,I3,rel,q3⟩=>⟨(x,y)::ps,H3,I3,.cons ⟨rx,ry⟩ rel,q3⟩)
def mergeK(kvs more:List (Key × V)):List (Key × V):=more.foldl (fun acc kv=>putK acc kv.1 kv.2) kvs
theorem KV.merge:∀ {more:List (Key × V)} {rs:List (Key × Value)} {kvs:List (Key × V)} {vs:List (Key × Value)},KV more rs->KV kvs vs->KV (mergeK kvs more) (merged vs rs):=by
 intro more rs kvs vs r;unfold KV at r
 induction r generalizing kvs vs with
 |nil=>intro q;exact q
 | @cons p q ps qs h t ih=>
  intro r0
  have e:KV (putK kvs p.1 p.2) (stored vs q.1 q.2):=by
   have:=r0.put p.1 h.2
   rw[<- h.1];exact this
  exact ih e
theorem length_mergeK:∀ (more kvs:List (Key × V)),(mergeK kvs more).length<=kvs.length+more.length
 | [],kvs=>by show kvs.length<=kvs.length+0;lia
 |p::r,kvs=>by
  have h1:=length_mergeK r (putK kvs p.1 p.2);have h2:=length_putK kvs p.1 p.2;show (mergeK (putK kvs p.1 p.2) r).length<=_;rw[List.length_cons];lia
theorem qDH:∀ {kvs:List (Key × V)} {ws:List (Value × Value)},VV (kvs.map fun kv=>(kV kv.1,kv.2)) ws->∃ rs,Carries (mixKind P w) ws rs/\KV kvs rs
 | [],_,r=>by rw[List.map_nil] at r;cases r;exact⟨[],True.intro,.nil⟩
 |p::kvs,_,r=>by
  rw[List.map_cons] at r;cases r with
  | @cons a b as bs h t=>
   obtain ⟨rs,c,q⟩:=qDH (P:=P) (w:=w) t;obtain ⟨b1,b2⟩:=b
   exact⟨(p.1,b2)::rs,⟨kV_is h.1,rfl,c⟩,.cons ⟨rfl,h.2⟩ q⟩
def qFu(trs:List (TE × TE)):TE:=fun U H Q=>∀ p,H p=none->tPairs trs U (upd H p (.dK [])) fun ps H2=>H2 p=some (.dK [])/\∃ kvs:List (Key × V),ps=kvs.map (fun kv=>(kV kv.1,kv.2))/\kvs.length<=15/\Q (.ref p) (upd H2 p (.dK (mergeK [] kvs)))
theorem pe_disp(h:PPs X pos keys values trs)(hall:keys.all (·.isSome)=true)(hl:keys.length=values.length)(h0:keys≠[])
  (h15:keys.length<=15):PE X (.Dict keys values pos) (qFu trs):=by
 intro pins s U H Q I q;have hn:=I.hok.fresh (Nat.le_refl s.heap.objs.size);have I1:=I.laid (a:=s.heap.objs.size) (o:=.dK []) (h':=s.heap.push { cls:=.type "dict",data:=.dict #[] }) (t':=s.toks) (fun _ _ q=>Heap.get?_push_of_some _ q) (Nat.le_refl _) (dk_empty s.heap I.big);refine wpAny_Dict_walk (knd:=mixKind X.prog X.w) hall hl h0 h15 (thn (h pins _ U _ _ I1 (q _ hn)) fun ws s2 ⟨ps,H2,I2,rel,e,kvs,ep,lk,q2⟩=>?_);subst ep;obtain ⟨rs,c,rk⟩:=qDH (P:=X.prog) (w:=X.w) rel;obtain ⟨z,hd,vs0,r0,dd⟩:=dk_of I2.hok e;cases r0;refine⟨rs,c,dd,fun h' dd' hs=>⟨.ref s.heap.objs.size,_,?_,rfl,q2⟩⟩
 have hz:(mergeK [] kvs).length<=sizeLine:=by
  have h1:=length_mergeK kvs [];rw[List.length_nil] at h1;rw[sizeLine_eq];lia
 have he:∃ q,h'.get? s.heap.objs.size=some q:=let ⟨q,_,_,hq,_⟩:=dd';⟨q,hq⟩;exact d_write I2 (by rw[e];exact True.intro) hs he (dk_new hz hd (rk.merge .nil) dd')
end L2
set_option genSizeOf false
set_option genSizeOfSpec false
set_option genInjectivity false
namespace Fy
open PySem
abbrev Tx:=List Nat
inductive D where
 |non | bl (b:Bool) | int (i:Int) | str (x:Tx) | tup (xs:List D) | ref (i:Nat)
 deriving Inhabited
inductive Ky where
 |int (i:Int) | str (x:Tx)
 deriving DecidableEq
inductive O where
 |lst (xs:List D) | rol (xs:List D) | ins (c:Nat) (fs:List (Nat × D)) | dct (kvs:List (Ky × D)) | xc (c:Nat) | rod (kvs:List (Ky × D))
 deriving Inhabited
def vX:Nat->Nat->List Nat->List Nat
 |0,_,acc=>acc
 |f+1,n,acc=>if n=0 then acc else vX f (n / 256) (n % 256::acc)
def qD(n:Nat):Str:=⟨(vX 60 n []).toArray⟩
abbrev AH:=List O
abbrev Env:=List (Option D)
inductive R (α:Type) where
 |ok (a:α) (h:AH) | exc (c:Nat) (h:AH) | bad
abbrev M(α:Type):=AH->R α
def R.bind{α β:Type}:R α->(α->AH->R β)->R β
 | .ok a h,f=>f a h
 | .exc c h,_=>.exc c h
 | .bad,_=>.bad
def M.bind{α β:Type}(m:M α)(f:α->M β):M β:=fun h=>(m h).bind f
def R.calm{α:Type}:R α->R α
 | .exc _ _=>.bad
 |r=>r
def M.calm{α:Type}(m:M α):M α:=fun h=>(m h).calm
def M.ret{α:Type}(a:α):M α:=fun h=>.ok a h
def M.bad{α:Type}:M α:=fun _=>.bad
def M.when{α:Type}(c:Prop)[Decidable c](m:M α):M α:=fun h=>if c then m h else .bad
def wF(o:O):M D:=fun h=>.ok (.ref h.length) (h++[o])
def getL(h:AH)(i:Nat):Option (List D):=match h[i]? with
 |some (.lst xs)=>some xs
 |some (.rol xs)=>some xs
 |_=>none
def zS(h:AH)(i:Nat):Nat:=((getL h i).getD []).length+1
def newL(xs:List D):M D:=M.when (xs.length<=16777216) (wF (.lst xs))
inductive Ty where
 |int | str | bool | list | tuple
 deriving DecidableEq
inductive Un where
 |neg | len | str | int | ord | tuple | list | all | any | isN | notN | isB (b:Bool) | isi (t:Ty) | fmt | upper | sum | clear | isx (cs xl:List Nat) | fld (k:Nat) | nsB (b:Bool) | rev | sorted | lrng | dictl
inductive Bi where
 |add | sub | mul | fdiv | mod | pow | eq | ne | lt | le | gt | ge | isin | notin | ix | min2 | max2 | find | split | join | append | zfill | remove | get | pop | starts | index | part | rpart | lpop | lrng | extend | update
 deriving DecidableEq
def b2i(b:Bool):Int:=if b then 1 else 0
def kP(h:AH)(t:Ty)(d:D):Option Bool:=match d with
 | .non=>some false
 | .bl _=>some (t == .bool || t == .int)
 | .int _=>some (t == .int)
 | .str _=>some (t == .str)
 | .tup _=>some (t == .tuple)
 | .ref i=>(getL h i).map fun _=>t == .list
def txI(i:Int):Tx:=(toString i).toList.map Char.toNat
def wL(d:D):M Bool:=fun h=>match d with
 | .non=>.ok false h
 | .bl b=>.ok b h
 | .int i=>.ok (i != 0) h
 | .str x=>if x.length<=16777216 then .ok (!x.isEmpty) h else .bad
 | .tup xs=>.ok (!xs.isEmpty) h
 | .ref i=>match getL h i with
  |some xs=>.ok (!xs.isEmpty) h
  |none=>.bad
def vL:List D->Option (List Bool)
 | []=>some []
 | .bl b::r=>(vL r).map (b::·)
 |_::_=>none
def uD(xs:List D):Option Bool:=(vL xs).map (·.all id)
def eqW(f:D->D->Option Bool):List D->List D->Option Bool
 | [],[]=>some true
 | [],_::_=>some false
 |_::_,[]=>some false
 |x::xs,y::ys=>match f x y,eqW f xs ys with
  |some a,some b=>some (a&&b)
  |_,_=>none
def eqD(h:AH):Nat->D->D->Option Bool
 |_,.non,.non=>some true
 |_,.bl a,.bl b=>some (a == b)
 |_,.int a,.int b=>some (a == b)
 |_,.str a,.str b=>some (a == b)
 |_,.bl a,.int b=>some (b2i a == b)
 |_,.int a,.bl b=>some (a == b2i b)
 |n+1,.tup xs,.tup ys=>eqW (eqD h n) xs ys
 |n+1,.ref i,.ref j=>match getL h i,getL h j with
  |some xs,some ys=>eqW (eqD h n) xs ys
  |_,_=>none
 |_,.int _,.non=>some false
 |_,_,_=>none
def ixN(n:Nat)(i:Int):Option Nat:=if 0<=i then (if i<n then some i.toNat else none) else if -(n:Int)<=i then some (i+n).toNat else none
def qY(n d:Nat):Option Int->Nat
 |none=>d
 |some v=>if v<0 then (v+n).toNat else min v.toNat n
def qN{α:Type}(xs:List α)(lo hi:Option Int):List α:=(xs.drop (qY xs.length 0 lo)).take (qY xs.length xs.length hi-qY xs.length 0 lo)
def jN(x:Tx):Bool:=x.all fun c=>decide (48<=c/\c<=57)
def kM(x:Tx):Nat:=x.foldl (fun acc c=>acc*10+(c-48)) 0
def qL(k:Nat):List (Nat × D)->Option D
 | []=>none
 | (g,x)::r=>if g == k then some x else qL k r
def zP(k:Nat)(d:D):List (Nat × D)->List (Nat × D)
 | []=>[(k,d)]
 | (g,x)::r=>if g == k then (g,d)::r else (g,x)::zP k d r
def tbN:List (Nat × Nat)->Nat->Option Nat
 | [],_=>none
 | (g,x)::r,k=>if g == k then some x else tbN r k
def zX:List D->Option (List Int)
 | []=>some []
 | .int x::r=>(zX r).map (x::·)
 |_::_=>none
def yV(x:Int):List Int->List Int
 | []=>[x]
 |y::r=>if x<=y then x::y::r else y::yV x r
def zO:List Int->List Int
 | []=>[]
 |x::r=>yV x (zO r)
def jJ(i:Int):Prop:=-4611686018427387904<=i/\i<4611686018427387904
instance (i:Int):Decidable (jJ i):=by unfold jJ;exact inferInstance
def bP(k:Nat):M D:=fun h=>match h[k]? with
 |some (.dct kvs)=>.ok (.int kvs.length) h
 |_=>.bad
def qH(kvs:List (Ky × D))(k:Ky):Option D:=(kvs.find? fun kv=>decide (kv.1=k)).map (·.2)
def zE(kvs:List (Ky × D))(k:Ky)(d:D):List (Ky × D):=if (kvs.any fun kv=>decide (kv.1=k))=true then kvs.map (fun kv=>if kv.1=k then (kv.1,d) else kv) else kvs++[(k,d)]
def zI(kvs more:List (Ky × D)):List (Ky × D):=more.foldl (fun acc kv=>zE acc kv.1 kv.2) kvs
def kG:List D->Option (List (Ky × D))
 | []=>some []
 | .tup [.int k,v]::r=>(kG r).map ((.int k,v)::·)
 |_::_=>none
def aL(k j:Nat):M D:=fun h=>match h[k]?,h[j]? with
 |some (.dct a),some (.dct b)=>if k≠j/\a.length+b.length<16777216 then .ok .non (h.set k (.dct (zI a b))) else .bad
 |_,_=>.bad
def aU(ds:List D):M D:=fun h=>match zX ds with
 |some xs=>if xs.length<64 then newL ((zO xs).map .int) h else .bad
 |none=>.bad
def wZ:List (Ky × D)->Option (List Int)
 | []=>some []
 | (.int i,_)::r=>(wZ r).map (i::·)
 | (.str _,_)::_=>none
def yN(k:Nat):M D:=fun h=>match h[k]? with
 |some (.dct kvs)=>match wZ kvs with
  |some ns=>if ns.length<64 then newL ((zO ns).map .int) h else .bad
  |none=>.bad
 |_=>.bad
def jD(lo:Int)(n:Nat):List D:=(List.range n).map fun (k:Nat)=>D.int (lo+k)
def unD(o:Un)(d:D):M D:=fun h=>match o,d with
 | .neg,.int i=>.ok (.int (-i)) h
 | .len,.str x=>if x.length<=16777216 then .ok (.int x.length) h else .bad
 | .len,.tup xs=>.ok (.int xs.length) h
 | .len,.ref i=>match getL h i with
  |some xs=>.ok (.int xs.length) h
  |none=>bP i h
 | .str,.int i=>if i.natAbs.log2<1920 then .ok (.str (txI i)) h else .bad
 | .int,.int i=>.ok (.int i) h
 | .int,.bl b=>.ok (.int (b2i b)) h
 | .int,.str x=>if x≠[]/\x.length<=640/\jN x=true then .ok (.int (kM x)) h else .bad
 | .ord,.str x=>match x with
  | [c]=>.ok (.int c) h
  |_=>.bad
 | .tuple,.tup xs=>.ok (.tup xs) h
 | .tuple,.ref i=>match getL h i with
  |some xs=>.ok (.tup xs) h
  |none=>.bad
 | .list,.tup xs=>newL xs h
 | .list,.ref i=>match getL h i with
  |some xs=>newL xs h
  |none=>.bad
 | .all,.ref i=>match (getL h i).bind uD with
  |some b=>.ok (.bl b) h
  |none=>.bad
 | .sorted,.ref i=>match getL h i with
  |some ds=>aU ds h
  |none=>yN i h
 | .dictl,.ref i=>match (getL h i).bind kG with
  |some kvs=>if kvs.length<16777216 then .ok (.ref h.length) (h++[.dct (zI [] kvs)]) else .bad
  |none=>.bad
 | .fld k,.ref i=>match h[i]? with
  |some (.ins _ fs)=>match qL k fs with
   |some d=>.ok d h
   |none=>.bad
  |_=>.bad
 | .isx cs xl,.ref i=>match h[i]? with
  |some (.xc c)=>if xl.contains c then .ok (.bl (cs.contains c)) h else .bad
  |_=>.bad
 | .isN,d=>.ok (.bl (match d with | .non=>true | _=>false)) h
 | .notN,d=>.ok (.bl (match d with | .non=>false | _=>true)) h
 | .isi t,d=>match kP h t d with
  |some b=>.ok (.bl b) h
  |none=>.bad
 |_,_=>.bad
def kI(i j:Int):Prop:=(-18446744073709551616<i/\i<18446744073709551616)\/(-18446744073709551616<j/\j<18446744073709551616)
instance (i j:Int):Decidable (kI i j):=by unfold kI;exact inferInstance
def kL(h:AH)(x y:D):Option Bool:=eqD h 40 x y
def bZ(x y:Tx):Option Bool:=match x with
 | [c]=>some (y.contains c)
 |_=>none
def qR(c:Nat):Nat->Tx->List Nat
 |_,[]=>[]
 |k,x::r=>if x=c then k::qR c (k+1) r else qR c (k+1) r
def jC(c:Nat):Nat->Tx->Option Nat
 |_,[]=>none
 |k,x::r=>match jC c (k+1) r with
  |some i=>some i
  |none=>if x=c then some k else none
def jA(a:Tx)(cuts:List Nat):List Tx:=((0::cuts.map (·+1)).zip (cuts++[a.length])).map fun p=>(a.drop p.1).take (p.2-p.1)
def kB(a:Tx)(c:Nat):List Tx:=match qR c 0 a with
 |i::_=>[a.take i,[c],a.drop (i+1)]
 | []=>[a,[],[]]
def kA(a:Tx)(c:Nat):List Tx:=match jC c 0 a with
 |some i=>[a.take i,[c],a.drop (i+1)]
 |none=>[[],[],a]
def zU:List D->Option (List Tx)
 | []=>some []
 | .str x::r=>(zU r).map (x::·)
 |_::_=>none
def qZ(sep:Tx):List Tx->Tx
 | []=>[]
 | [x]=>x
 |x::y::r=>x++sep++qZ sep (y::r)
def jS(sep:Tx)(xs:List Tx):Nat:=(xs.map List.length).sum+xs.length*sep.length
def ixK(k:Nat)(y:Ky):M D:=fun h=>match h[k]? with
 |some (.dct kvs)=>match qH kvs y with
  |some d=>.ok d h
  |none=>.bad
 |some (.rod kvs)=>match qH kvs y with
  |some d=>.ok d h
  |none=>.bad
 |_=>.bad
def kW(k:Nat)(y:Ky):M D:=fun h=>match h[k]? with
 |some (.dct kvs)=>.ok (.bl (qH kvs y).isSome) h
 |_=>.bad
def kE(k:Nat)(y:Ky):M D:=fun h=>match h[k]? with
 |some (.dct kvs)=>.ok (.bl (!(qH kvs y).isSome)) h
 |_=>.bad
def kN(d:D)(k:Nat)(y:Ky):M Unit:=fun h=>match h[k]? with
 |some (.dct kvs)=>if kvs.length<16777216 then .ok () (h.set k (.dct (zE kvs y d))) else .bad
 |_=>.bad
def yX(k:Nat)(y:Ky):M D:=fun h=>match h[k]? with
 |some (.dct kvs)=>.ok ((qH kvs y).getD .non) h
 |_=>.bad
def wA(kvs:List (Ky × D))(k:Ky):List (Ky × D):=kvs.filter fun kv=>decide (kv.1≠k)
def bC(k:Nat)(y:Ky):M D:=fun h=>match h[k]? with
 |some (.dct kvs)=>match qH kvs y with
  |some d=>.ok d (h.set k (.dct (wA kvs y)))
  |none=>.bad
 |_=>.bad
def aV(k:Nat)(y:Ky)(d:D):M D:=fun h=>match h[k]? with
 |some (.dct kvs)=>match qH kvs y with
  |some x=>.ok x h
  |none=>if kvs.length<16777216 then .ok d (h.set k (.dct (zE kvs y d))) else .bad
 |_=>.bad
def lH(x y z:D):M D:=fun h=>match x,y with
 | .ref k,.int i=>match h[k]? with
  |some (.dct kvs)=>.ok ((qH kvs (.int i)).getD z) h
  |_=>.bad
 |_,_=>.bad
def fB(x y z:D):M D:=match x,y with
 | .ref k,.int i=>aV k (.int i) z
 |_,_=>M.bad
def fA(x y z:D):M D:=fun h=>match x,y,z with
 | .str a,.str b,.int k=>match b with
  | [c]=>if (c<256/\a.length<=1000000)/\0<=k/\k<=1000000 then newL ((jA a ((qR c 0 a).take k.toNat)).map .str) h else .bad
  |_=>.bad
 |_,_,_=>.bad
def vJ(ks:List Ky)(ds:List D)(p:Nat):M D:=fun h=>match h[p]? with
 |some (.dct [])=>if ks.length=ds.length/\ks.length<=15 then .ok (.ref p) (h.set p (.dct (zI [] (ks.zip ds)))) else .bad
 |_=>.bad
def kyD:Ky->D
 | .int i=>.int i
 | .str x=>.str x
def jE(kvs:List (Ky × D)):List D:=kvs.map fun kv=>kyD kv.1
def yK{α:Type}(i:Nat):R α->R α
 | .ok a h=>match h[i]? with
  |some (.rod kvs)=>.ok a (h.set i (.dct kvs))
  |_=>.bad
 |_=>.bad
def tO(x:D)(k:List D->M D):M D:=fun h=>match x with
 | .ref i=>match h[i]? with
  |some (.dct kvs)=>if kvs.length<16777216 then yK i (k (jE kvs) (h.set i (.rod kvs))) else .bad
  |_=>.bad
 |_=>.bad
def biD(o:Bi)(x y:D):M D:=fun h=>match o,x,y with
 | .add,.int i,.int j=>.ok (.int (i+j)) h
 | .add,.str a,.str b=>if a.length+b.length<=16777216 then .ok (.str (a++b)) h else .bad
 | .add,.tup a,.tup b=>if a.length+b.length<=16777216 then .ok (.tup (a++b)) h else .bad
 | .add,.ref i,.ref j=>match h[i]?,h[j]? with
  |some (.lst xs),some (.lst ys)=>newL (xs++ys) h
  |_,_=>.bad
 | .sub,.int i,.int j=>.ok (.int (i-j)) h
 | .mul,.int i,.int j=>if kI i j then .ok (.int (i*j)) h else .bad
 | .fdiv,.int i,.int j=>if 0<j/\j<1073741824 then .ok (.int (i / j)) h else .bad
 | .mod,.int i,.int j=>if 0<j then .ok (.int (i % j)) h else .bad
 | .eq,x,y=>match kL h x y with
  |some b=>.ok (.bl b) h
  |none=>.bad
 | .ne,x,y=>match kL h x y with
  |some b=>.ok (.bl (!b)) h
  |none=>.bad
 | .lt,.int i,.int j=>.ok (.bl (decide (i<j))) h
 | .le,.int i,.int j=>.ok (.bl (decide (i<=j))) h
 | .gt,.int i,.int j=>.ok (.bl (decide (j<i))) h
 | .ge,.int i,.int j=>.ok (.bl (decide (j<=i))) h
 | .isin,.str a,.str b=>match bZ a b with
  |some r=>.ok (.bl r) h
  |none=>.bad
 | .isin,.int a,.ref i=>match (getL h i).bind zX with
  |some xs=>.ok (.bl (xs.contains a)) h
  |none=>kW i (.int a) h
 | .notin,.int a,.ref i=>match (getL h i).bind zX with
  |some xs=>.ok (.bl (!xs.contains a)) h
  |none=>kE i (.int a) h
 | .notin,.str a,.str b=>match bZ a b with
  |some r=>.ok (.bl (!r)) h
  |none=>.bad
 | .ix,.tup xs,.int i=>match (ixN xs.length i).bind (xs[·]?) with
  |some d=>.ok d h
  |none=>.bad
 | .ix,.str x,.int i=>if x.length<=16777216 then match (ixN x.length i).bind (x[·]?) with
  |some c=>.ok (.str [c]) h
  |none=>.bad
  else .bad
 | .ix,.ref k,.int i=>match (getL h k).bind fun xs=>(ixN xs.length i).bind (xs[·]?) with
  |some d=>.ok d h
  |none=>ixK k (.int i) h
 | .ix,.ref k,.str x=>ixK k (.str x) h
 | .min2,.int i,.int j=>.ok (.int (if j<i then j else i)) h
 | .max2,.int i,.int j=>.ok (.int (if j > i then j else i)) h
 | .zfill,.str x,.int n=>if 0<=n/\n<=1000/\jN x=true/\x.length<=1000 then .ok (.str (List.replicate (n.toNat-x.length) 48++x)) h else .bad
 | .join,.str x,.ref i=>match (getL h i).bind zU with
  |some xs=>if jS x xs<=16777216 then .ok (.str (qZ x xs)) h else .bad
  |none=>.bad
 | .append,.ref k,d=>match h[k]? with
  |some (.lst xs)=>if xs.length<16777216 then .ok .non (h.set k (.lst (xs++[d]))) else .bad
  |_=>.bad
 | .split,.str a,.str b=>match b with
  | [c]=>if c<256/\a.length<=1000000 then newL ((jA a (qR c 0 a)).map .str) h else .bad
  |_=>.bad
 | .part,.str a,.str b=>match b with
  | [c]=>if a.length<=1000000 then .ok (.tup ((kB a c).map .str)) h else .bad
  |_=>.bad
 | .rpart,.str a,.str b=>match b with
  | [c]=>if a.length<=1000000 then .ok (.tup ((kA a c).map .str)) h else .bad
  |_=>.bad
 | .get,.ref k,.int i=>yX k (.int i) h
 | .pop,.ref k,.int i=>bC k (.int i) h
 | .extend,.ref k,.ref j=>match h[k]?,h[j]? with
  |some (.lst xs),some (.lst ys)=>if xs.length+ys.length<=16777216 then .ok .non (h.set k (.lst (xs++ys))) else .bad
  |_,_=>.bad
 | .update,.ref k,.ref j=>aL k j h
 |_,_,_=>.bad
def slD(x:D)(l u:Option Int):M D:=fun h=>match x with
 | .str x=>if x.length<=16777216 then .ok (.str (qN x l u)) h else .bad
 | .tup xs=>.ok (.tup (qN xs l u)) h
 | .ref i=>match getL h i with
  |some xs=>newL (qN xs l u) h
  |none=>.bad
 |_=>.bad
def zJ(o:Bi)(x:D):M Unit:=fun h=>match o,x with
 | .append,.ref i=>match getL h i with
  |some _=>.ok () h
  |none=>.bad
 | .extend,.ref i=>match getL h i with
  |some _=>.ok () h
  |none=>.bad
 | .split,.str _=>.ok () h
 | .part,.str _=>.ok () h
 | .rpart,.str _=>.ok () h
 | .join,.str _=>.ok () h
 | .zfill,.str _=>.ok () h
 | .get,.ref i=>match h[i]? with
  |some (.dct _)=>.ok () h
  |_=>.bad
 | .pop,.ref i=>match h[i]? with
  |some (.dct _)=>.ok () h
  |_=>.bad
 | .update,.ref i=>match h[i]? with
  |some (.dct _)=>.ok () h
  |_=>.bad
 |_,_=>.bad
def hZ(m:Nat)(x:D):M Nat:=fun h=>match x with
 | .ref i=>match h[i]? with
  |some (.ins c fs)=>if (qL m fs).isNone then .ok c h else .bad
  |_=>.bad
 |_=>.bad
def aW(k:Nat)(cs:List Nat)(d x:D):M Unit:=fun h=>match x with
 | .ref i=>match h[i]? with
  |some (.ins c fs)=>if cs.contains c=true/\fs.length<1000 then .ok () (h.set i (.ins c (zP k d fs))) else .bad
  |_=>.bad
 |_=>.bad
def uQ(d x y:D):M Unit:=fun h=>match x,y with
 | .ref k,.int j=>match h[k]? with
  |some (.lst xs)=>match ixN xs.length j with
   |some p=>.ok () (h.set k (.lst (xs.set p d)))
   |none=>.bad
  |_=>kN d k (.int j) h
 | .ref k,.str x=>kN d k (.str x) h
 |_,_=>.bad
def iB(F:Nat->List D->M D)(c f:Nat)(xs:List D):M D:=fun h=>(F f (.ref h.length::xs) (h++[.ins c []])).bind fun d h'=>match d with
 | .non=>.ok (.ref h.length) h'
 |_=>.bad
def qCU(d:D):M (Option Int):=fun h=>match d with
 | .int i=>.ok (some i) h
 |_=>.bad
mutual
inductive CE where
 |lit (d:D) | var (i:Nat) | un (o:Un) (a:CE) | bi (o:Bi) (a b:CE) | sl (a:CE) (lo hi:CP)
 |and (a b:CE) | or (a b:CE) | not (a:CE) | ite (c:CT) (a b:CE) | chain (o p:Bi) (a b c:CE) | me (o:Bi) (a b:CE) | setd (a b c:CE) | getd (a b c:CE) | splm (a b c:CE)
 |tup (es:CL) | lst (es:CL) | disp (ks:List Ky) (es:CL) | call (f:Nat) (es:CL) | meth (m:Nat) (tb:List (Nat × Nat)) (a:CE) (es:CL) | make (c f:Nat) (es:CL) | comp (elt:CE) (it:CI) | compIf (elt:CE) (c:CT) (it:CI) | compD (elt:CE) (c:CT) (d:CE)
inductive CT where
 |val (e:CE) | and (a b:CT) | or (a b:CT) | not (a:CT)
inductive CL where
 |nil | cons (e:CE) (r:CL)
inductive CI where
 |of (e:CE) | rng1 (e:CE) | rng2 (a b:CE) | rng3 (a b c:CE)
inductive CP where
 |no | at (e:CE)
end
inductive TG where
 |nm (i:Nat) | two (i j:Nat)
mutual
inductive CS where
 |skip | opq | seq (a b:CS) | set (t:TG) (e:CE) | exp (e:CE) | ret (e:CE) | retN | ite (c:CT) (a b:CS)
 |fori (t:TG) (it:CI) (b:CS) | forD (i:Nat) (e:CE) (b:CS) | whil (c:CT) (b:CS) | brk | cnt | raise (c:Nat) | setF (a:CE) (k:Nat) (cs:List Nat) (e:CE) | setIx (a i e:CE) | tryx (b:CS) (hs:CH)
inductive CH where
 |nil | cons (cs:List Nat) (k:CS) (r:CH) | as (cs:List Nat) (i:Nat) (k:CS) (r:CH)
end
inductive It where
 |row (xs:List D) | live (i:Nat) | pairs (xs:List D)
def nS(i j k:Int):Nat:=if i<j then ((j-i-1) / k+1).toNat else 0
def qG4(lo st:Int)(n:Nat):List D:=(List.range n).map fun (k:Nat)=>D.int (lo+k*st)
def bV(d:D):M It:=fun h=>match d with
 | .str x=>.ok (.row (x.map fun c=>.str [c])) h
 | .tup xs=>.ok (.row xs) h
 | .ref i=>match getL h i with
  |some _=>.ok (.live i) h
  |none=>.bad
 |_=>.bad
def jH(m:Env->M D)(U:Env)(x:D):M (Option D):=(m (U++[some x])).calm.bind fun y=>M.ret (some y)
def jW(m:Env->M D)(c:Env->M Bool)(U:Env)(x:D):M (Option D):=(c (U++[some x])).calm.bind fun k=>if k then (m (U++[some x])).calm.bind fun y=>M.ret (some y) else M.ret none
def zG(f:D->M (Option D)):List D->M (List D)
 | []=>M.ret []
 |x::xs=>(f x).bind fun y=>(zG f xs).bind fun ys=>M.ret (match y with | some y=>y::ys | none=>ys)
def zR(f:D->M (Option D))(i:Nat):Nat->Nat->M (List D)
 |0,_=>M.bad
 |n+1,k=>fun h=>match getL h i with
  |none=>.bad
  |some xs=>match xs[k]? with
   |none=>.ok [] h
   |some x=>((f x).bind fun y=>(zR f i n (k+1)).bind fun ys=>M.ret (match y with | some y=>y::ys | none=>ys)) h
def yO(f:D->M (Option D)):It->M (List D)
 | .row xs=>M.when (xs.length<16777216) (zG f xs)
 | .live i=>fun h=>M.when (zS h i<16777216) (zR f i (zS h i) 0) h
 | .pairs _=>M.bad
section
variable (F:Nat->List D->M D)
mutual
def den:CE->Env->M D
 | .lit d,_=>M.ret d
 | .var i,U=>fun h=>match U[i]? with
  |some (some d)=>.ok d h
  |_=>.bad
 | .un o a,U=>(den a U).bind (unD o)
 | .bi o a b,U=>(den a U).bind fun x=>(den b U).bind fun y=>biD o x y
 | .sl a lo hi,U=>(den a U).bind fun x=>(kR lo U).bind fun l=>(kR hi U).bind fun u=>slD x l u
 | .and a b,U=>(den a U).bind fun x=>match x with
  | .bl true=>den b U
  | .bl false=>M.ret (.bl false)
  |_=>M.bad
 | .or a b,U=>(den a U).bind fun x=>match x with
  | .bl true=>M.ret (.bl true)
  | .bl false=>den b U
  |_=>M.bad
 | .not a,U=>((den a U).bind wL).bind fun b=>M.ret (.bl (!b))
 | .ite c a b,U=>(qJ c U).bind fun k=>if k then den a U else den b U
 | .chain o p a b c,U=>(den a U).bind fun x=>(den b U).bind fun y=>(biD o x y).bind fun z=>match z with
  | .bl true=>(den c U).bind fun w=>biD p y w
  | .bl false=>M.ret (.bl false)
  |_=>M.bad
 | .me o a b,U=>(den a U).bind fun x=>(zJ o x).bind fun _=>(den b U).bind fun y=>biD o x y
 | .setd a b c,U=>(den a U).bind fun x=>(zJ .get x).bind fun _=>(den b U).bind fun y=>(den c U).bind fun z=>fB x y z
 | .getd a b c,U=>(den a U).bind fun x=>(zJ .get x).bind fun _=>(den b U).bind fun y=>(den c U).bind fun z=>lH x y z
 | .splm a b c,U=>(den a U).bind fun x=>(zJ .split x).bind fun _=>(den b U).bind fun y=>(den c U).bind fun z=>fA x y z
 | .tup es,U=>(zA es U).bind fun xs=>M.when (xs.length<=16777216) (M.ret (.tup xs))
 | .lst es,U=>(zA es U).bind newL
 | .disp ks es,U=>fun h=>(zA es U (h++[.dct []])).bind fun ds=>vJ ks ds h.length
 | .call f es,U=>(zA es U).bind (F f)
 | .meth m tb a es,U=>(den a U).bind fun x=>(hZ m x).bind fun c=>match tbN tb c with
  |some f=>(zA es U).bind fun xs=>F f (x::xs)
  |none=>M.bad
 | .make c f es,U=>(zA es U).bind (iB F c f)
 | .comp e it,U=>(jF it U).bind fun r=>(yO (jH (den e) U) r).bind newL
 | .compIf e c it,U=>(jF it U).bind fun r=>(yO (jW (den e) (qJ c) U) r).bind newL
 | .compD e c d,U=>(den d U).bind fun x=>tO x fun ks=>(zG (jW (den e) (qJ c) U) ks).bind newL
def zA:CL->Env->M (List D)
 | .nil,_=>M.ret []
 | .cons e r,U=>(den e U).bind fun x=>(zA r U).bind fun xs=>M.ret (x::xs)
def jF:CI->Env->M It
 | .of e,U=>(den e U).bind bV
 | .rng1 e,U=>(den e U).bind fun x=>match x with
  | .int j=>M.when (jJ j) (M.ret (.row (jD 0 j.toNat)))
  |_=>M.bad
 | .rng2 a b,U=>(den a U).bind fun x=>(den b U).bind fun y=>match x,y with
  | .int i,.int j=>M.when (jJ i/\jJ j) (M.ret (.row (jD i (j-i).toNat)))
  |_,_=>M.bad
 | .rng3 a b c,U=>(den a U).bind fun x=>(den b U).bind fun y=>(den c U).bind fun z=>match x,y,z with
  | .int i,.int j,.int k=>M.when ((jJ i/\jJ j)/\0<k/\k<1073741824) (M.ret (.row (qG4 i k (nS i j k))))
  |_,_,_=>M.bad
def kR:CP->Env->M (Option Int)
 | .no,_=>M.ret none
 | .at e,U=>(den e U).bind qCU
def qJ:CT->Env->M Bool
 | .val e,U=>(den e U).bind wL
 | .and a b,U=>(qJ a U).bind fun x=>if x then qJ b U else M.ret false
 | .or a b,U=>(qJ a U).bind fun x=>if x then M.ret true else qJ b U
 | .not a,U=>(qJ a U).bind fun b=>M.ret (!b)
end
end
inductive SR where
 |nx (U:Env) (h:AH) | rt (d:D) (h:AH) | bk (U:Env) (h:AH) | ct (U:Env) (h:AH) | exc (c:Nat) (U:Env) (h:AH) | bad
def SR.ofR{α:Type}(U:Env):R α->(α->AH->SR)->SR
 | .ok a h,f=>f a h
 | .exc c h,_=>.exc c U h
 | .bad,_=>.bad
def SR.andThen:SR->(Env->AH->SR)->SR
 | .nx U h,f=>f U h
 |r,_=>r
def uK(t:TG)(d:D)(U:Env):Option Env:=match t with
 | .nm i=>some (U.set i (some d))
 | .two i j=>match d with
  | .tup [a,b]=>some ((U.set i (some a)).set j (some b))
  |_=>none
def SR.calm:SR->SR
 | .exc _ _ _=>.bad
 |r=>r
def SR.rtO:SR->SR
 | .rt d h=>.rt d h
 |_=>.bad
def SR.catch:SR->(Nat->Env->AH->SR)->SR
 | .exc c U h,f=>f c U h
 |r,_=>r
def SR.turn:SR->(Env->AH->SR)->SR
 | .nx U h,f=>f U h
 | .ct U h,f=>f U h
 | .bk U h,_=>.nx U h
 | .exc _ _ _,_=>.bad
 |r,_=>r
def zT(t:TG)(b:Env->AH->SR)(x:D)(U:Env)(h:AH):SR:=match uK t x U with
 |some U'=>b U' h
 |none=>.bad
def jP(step:D->Env->AH->SR):List D->Env->AH->SR
 | [],U,h=>.nx U h
 |x::xs,U,h=>(step x U h).turn (jP step xs)
def vI(step:D->Env->AH->SR)(i:Nat):Nat->Nat->Env->AH->SR
 |0,_,_,_=>.bad
 |n+1,k,U,h=>match getL h i with
  |none=>.bad
  |some xs=>match xs[k]? with
   |none=>.nx U h
   |some x=>(step x U h).turn (vI step i n (k+1))
def qCr(step:D->Env->AH->SR):It->Env->AH->SR
 | .row xs,U,h=>jP step xs U h
 | .live i,U,h=>vI step i (zS h i) 0 U h
 | .pairs _,_,_=>.bad
def SR.thaw(i:Nat):SR->SR
 | .nx U h=>match h[i]? with
  |some (.rod kvs)=>.nx U (h.set i (.dct kvs))
  |_=>.bad
 | .rt d h=>match h[i]? with
  |some (.rod kvs)=>.rt d (h.set i (.dct kvs))
  |_=>.bad
 |_=>.bad
def qCs(step:D->Env->AH->SR)(x:D)(U:Env)(h:AH):SR:=match x with
 | .ref i=>match h[i]? with
  |some (.dct kvs)=>(jP step (jE kvs) U (h.set i (.rod kvs))).thaw i
  |_=>.bad
 |_=>.bad
def yG(c:Env->M Bool)(step:Env->AH->SR):Nat->Env->AH->SR
 |0,_,_=>.bad
 |n+1,U,h=>match c U h with
  | .ok b h1=>if b then (step U h1).turn (yG c step n) else .nx U h1
  |_=>.bad
section
variable (F:Nat->List D->M D)(B:Nat)
mutual
def qB:CS->Env->AH->SR
 | .skip,U,h=>.nx U h
 | .opq,_,_=>.bad
 | .seq a b,U,h=>(qB a U h).andThen (qB b)
 | .set t e,U,h=>SR.ofR U (den F e U h) fun d h1=>match uK t d U with
  |some U'=>.nx U' h1
  |none=>.bad
 | .exp e,U,h=>SR.ofR U (den F e U h) fun _ h1=>.nx U h1
 | .ret e,U,h=>SR.ofR U (den F e U h) fun d h1=>.rt d h1
 | .retN,_,h=>.rt .non h
 | .ite c a b,U,h=>SR.ofR U (qJ F c U h) fun k h1=>if k then qB a U h1 else qB b U h1
 | .fori t it b,U,h=>SR.ofR U (jF F it U h).calm fun r h1=>qCr (zT t (qB b)) r U h1
 | .forD i e b,U,h=>SR.ofR U (den F e U h).calm fun d h1=>qCs (zT (.nm i) (qB b)) d U h1
 | .whil c b,U,h=>yG (qJ F c) (qB b) B U h
 | .brk,U,h=>.bk U h
 | .cnt,U,h=>.ct U h
 | .raise c,U,h=>.exc c U h
 | .setF a k cs e,U,h=>SR.ofR U (den F e U h) fun d h1=>SR.ofR U ((den F a U).bind (aW k cs d) h1) fun _ h2=>.nx U h2
 | .setIx a i e,U,h=>SR.ofR U (den F e U h) fun d h1=>SR.ofR U ((den F a U).bind (fun x=>(den F i U).bind fun y=>uQ d x y) h1) fun _ h2=>.nx U h2
 | .tryx b hs,U,h=>(qB b U h).catch fun c U' h'=>wB hs c U' h'
def wB:CH->Nat->Env->AH->SR
 | .nil,_,_,_=>.bad
 | .cons cs k r,c,U,h=>if cs.contains c then (qB k U h).calm else wB r c U h
 | .as cs i k r,c,U,h=>if cs.contains c then (qB k (U.set i (some (.ref h.length))) (h++[.xc c])).rtO else wB r c U h
end
end
structure Fn where
 ar:Nat
 sl:Nat
 body:CS
def fin:SR->R D
 | .nx _ h'=>.ok .non h'
 | .rt d h'=>.ok d h'
 | .exc c _ h'=>.exc c h'
 |_=>.bad
def fI(F:Nat->List D->M D)(B:Nat)(f:Fn)(as:List D):M D:=fun h=>
 if as.length=f.ar then fin (qB F B f.body (as.map some++List.replicate (f.sl-f.ar) none) h) else .bad
def qA(fs:List Fn)(B:Nat):Nat->Nat->List D->M D
 |0,_,_=>M.bad
 |n+1,f,as=>match fs[f]? with
  |some fn=>fI (qA fs B n) B fn as
  |none=>M.bad
theorem M.bind_eq{α β:Type}(m:M α)(f:α->M β)(h:AH):M.bind m f h=(m h).bind f:=(rfl)
theorem R.bind_ok{α β:Type}(a:α)(h:AH)(f:α->AH->R β):R.bind (.ok a h) f=f a h:=(rfl)
theorem R.bind_exc{α β:Type}(c:Nat)(h:AH)(f:α->AH->R β):R.bind (.exc c h) f=.exc c h:=(rfl)
theorem M.ret_eq{α:Type}(a:α)(h:AH):M.ret a h=.ok a h:=(rfl)
theorem qHi{α:Type}(U:Env)(a:α)(h:AH)(f:α->AH->SR):SR.ofR U (.ok a h) f=f a h:=(rfl)
theorem qHj{α:Type}(U:Env)(c:Nat)(h:AH)(f:α->AH->SR):SR.ofR U (.exc c h) f=.exc c U h:=(rfl)
theorem wJ{α:Type}(c:Prop)[Decidable c](m:M α)(h:AH):M.when c m h=if c then m h else .bad:=(rfl)
theorem tM(U:Env)(h:AH)(f:Env->AH->SR):SR.andThen (.nx U h) f=f U h:=(rfl)
theorem qQ3(d:D)(h:AH)(f:Env->AH->SR):SR.andThen (.rt d h) f=.rt d h:=(rfl)
theorem qQ4(c:Nat)(U:Env)(h:AH)(f:Env->AH->SR):SR.andThen (.exc c U h) f=.exc c U h:=(rfl)
theorem tY(U:Env)(h:AH)(f:Env->AH->SR):SR.turn (.nx U h) f=f U h:=(rfl)
theorem uI(i:Nat)(b:Env->AH->SR)(x:D)(U:Env)(h:AH):zT (.nm i) b x U h=b (U.set i (some x)) h:=(rfl)
theorem qBO{i j:Int}(h:-18446744073709551616<j/\j<18446744073709551616):kI i j:=.inr h
theorem bL{i j:Int}(h:-18446744073709551616<i/\i<18446744073709551616):kI i j:=.inl h
theorem jO{h:AH}{i:Nat}{xs:List D}(g:AH)(e:getL h i=some xs):getL (h++g) i=some xs:=by
 unfold getL at e ⊢;cases q:h[i]? with
 |none=>rw[q] at e;cases e
 |some o=>have hl:=(List.getElem?_eq_some_iff.mp q).1;rw[List.getElem?_append_left hl,q];rw[q] at e;exact e
theorem qJX(m i:Nat)(h:AH):hZ m (.ref i) h=(match h[i]? with | some (.ins c fs)=>if (qL m fs).isNone then .ok c h else .bad | _=>.bad):=(rfl)
theorem qGX(k:Nat)(cs:List Nat)(d:D)(i:Nat)(h:AH):aW k cs d (.ref i) h=(match h[i]? with | some (.ins c fs)=>if cs.contains c=true/\fs.length<1000 then .ok () (h.set i (.ins c (zP k d fs))) else .bad | _=>.bad):=(rfl)
theorem qGW(d:D)(k:Nat)(j:Int)(h:AH):uQ d (.ref k) (.int j) h=(match h[k]? with | some (.lst xs)=>(match ixN xs.length j with | some p=>.ok () (h.set k (.lst (xs.set p d))) | none=>.bad) | _=>kN d k (.int j) h):=(rfl)
theorem qGz(d:D)(h:AH):SR.rtO (.rt d h)=.rt d h:=(rfl)
theorem qN0(U:Env)(h:AH)(f:Nat->Env->AH->SR):SR.catch (.nx U h) f=.nx U h:=(rfl)
theorem qNz(d:D)(h:AH)(f:Nat->Env->AH->SR):SR.catch (.rt d h) f=.rt d h:=(rfl)
theorem qN1(c:Nat)(U:Env)(h:AH)(f:Nat->Env->AH->SR):SR.catch (.exc c U h) f=f c U h:=(rfl)
theorem qMQ(U:Env)(h:AH):fin (.nx U h)=.ok .non h:=(rfl)
theorem qMP(d:D)(h:AH):fin (.rt d h)=.ok d h:=(rfl)
theorem qMR(c:Nat)(U:Env)(h:AH):fin (.exc c U h)=.exc c h:=(rfl)
theorem cG(I:Nat->Env->AH->Prop)(step:D->Env->AH->SR):∀ (xs:List D) (k:Nat) (U:Env) (h:AH),I k U h ->
  (∀ j x U h,xs[j]?=some x->I (k+j) U h->∃ U' h',step x U h=.nx U' h'/\I (k+j+1) U' h')->∃ U' h',jP step xs U h=.nx U' h'/\I (k+xs.length) U' h'
 | [],k,U,h,i0,_=>⟨U,h,rfl,i0⟩
 |x::xs,k,U,h,i0,H=>by
  obtain ⟨U1,h1,e1,i1⟩:=H 0 x U h rfl i0
  obtain ⟨U2,h2,e2,i2⟩:=cG I step xs (k+1) U1 h1 i1 fun j y U h hy i=>by
   have:=H (j+1) y U h (by simpa using hy) (by rw[show k+(j+1)=k+1+j by lia];exact i)
   rwa [show k+(j+1)=k+1+j by lia] at this
  refine⟨U2,h2,?_,by rw[List.length_cons,show k+(xs.length+1)=k+1+xs.length by lia];exact i2⟩;rw[jP,e1];exact e2
theorem qCq(I:Nat->Env->AH->Prop)(step:D->Env->AH->SR)(i:Nat)(xs:List D)(hg:∀ k U h,I k U h->getL h i=some xs)
  (H:∀ j x U h,xs[j]?=some x->I j U h->∃ U' h',step x U h=.nx U' h'/\I (j+1) U' h') :
  ∀ (n k:Nat) (U:Env) (h:AH),n+k=xs.length+1->k<=xs.length->I k U h->∃ U' h',vI step i n k U h=.nx U' h'/\I xs.length U' h'
 |0,k,U,h,hn,hk,i0=>by lia
 |n+1,k,U,h,hn,hk,i0=>by
  unfold vI;rw[hg k U h i0];simp only
  by_cases hlt:k<xs.length
  ·have e:xs[k]?=some xs[k]:=by simp[hlt]
   rw[e];simp only;obtain ⟨U1,h1,e1,i1⟩:=H k _ U h e i0;rw[e1];exact qCq I step i xs hg H n (k+1) U1 h1 (by lia) hlt i1
  ·have e:k=xs.length:=by lia
   subst e;have e2:xs[xs.length]?=none:=by simp
   rw[e2]
   exact⟨U,h,rfl,i0⟩
theorem qMN(I:Nat->Env->AH->Prop)(step:D->Env->AH->SR)(i:Nat)(xs:List D)(U:Env)(h:AH)(i0:I 0 U h)(hg:∀ k U h,I k U h->getL h i=some xs)
  (H:∀ j x U h,xs[j]?=some x->I j U h->∃ U' h',step x U h=.nx U' h'/\I (j+1) U' h'):∃ U' h',vI step i (zS h i) 0 U h=.nx U' h'/\I xs.length U' h':=by
 unfold zS;rw[hg 0 U h i0];exact qCq I step i xs hg H _ 0 U h rfl (Nat.zero_le _) i0
theorem qAs{lo:Int}{n j:Nat}{x:D}(h:(jD lo n)[j]?=some x):j<n/\x=.int (lo+j):=by
 unfold jD at h;rw[List.getElem?_map] at h
 by_cases hj:j<n
 ·rw[List.getElem?_range hj] at h
  exact⟨hj,(Option.some.inj h).symm⟩
 ·rw[List.getElem?_eq_none (by simp;lia)] at h;cases h
theorem qAq(lo:Int)(n:Nat):(jD lo n).length=n:=by
 unfold jD;simp
theorem uY(f:D->M (Option D))(g:D->D)(h:AH):∀ xs:List D,(∀ x∈xs,f x h=.ok (some (g x)) h)->zG f xs h=.ok (xs.map g) h
 | [],_=>rfl
 |x::xs,H=>by
  have h1:=H x (List.mem_cons_self ..);have h2:=uY f g h xs fun y hy=>H y (List.mem_cons_of_mem _ hy);unfold zG;simp only[M.bind_eq,h1,R.bind_ok,h2,M.ret_eq,List.map_cons]
theorem lM(h:AH)(xs:List D):getL (h++[.lst xs]) h.length=some xs:=by
 unfold getL;simp
theorem qO9{α:Type}(f:α->Bool)(xs:List α):vL (xs.map fun c=>.bl (f c))=some (xs.map f):=by
 induction xs with
 |nil=>rfl
 |cons x xs ih=>simp only[List.map_cons,vL,ih,Option.map_some]
theorem eK{α:Type}(f:α->Bool)(xs:List α):uD (xs.map fun c=>.bl (f c))=some (xs.all f):=by
 unfold uD;rw[qO9,Option.map_some,List.all_map];rfl
theorem qJc(f:D->M (Option D))(xs:List D)(h:AH):yO f (.row xs) h=if xs.length<16777216 then zG f xs h else .bad:=(rfl)
theorem iA(f:D->M (Option D))(i:Nat)(h:AH):yO f (.live i) h=if zS h i<16777216 then zR f i (zS h i) 0 h else .bad:=(rfl)
theorem yE(m:Env->M D)(U:Env)(x:D)(h:AH):jH m U x h=R.bind (m (U++[some x]) h).calm fun y h'=>.ok (some y) h':=(rfl)
theorem qN2{α:Type}(a:α)(h:AH):(R.ok a h).calm=.ok a h:=(rfl)
theorem qN3{α:Type}(m:M α)(h:AH):M.calm m h=(m h).calm:=(rfl)
theorem gD(a c:Nat):decide ((a:Int)<=(c:Int))=decide (a<=c):=by
 rw[Bool.eq_iff_iff];simp
theorem qLE(a c:Nat):decide ((a:Int)<(c:Int))=decide (a<c):=by
 rw[Bool.eq_iff_iff];simp
theorem qLF(a c:Nat):((a:Int) == (c:Int))=decide (a=c):=by
 rw[Bool.eq_iff_iff];simp
 lia
theorem iT{n k:Nat}(h:k<n):ixN n (k:Int)=some k:=by
 unfold ixN;rw[if_pos (by lia),if_pos (by lia),Int.toNat_natCast]
theorem qEz(i:Int)(h:AH):unD .neg (.int i) h=(.ok (.int (-i)) h):=(rfl)
theorem qE2(x:Tx)(h:AH):unD .len (.str x) h=(if x.length<=16777216 then .ok (.int x.length) h else .bad):=(rfl)
theorem qE1(xs:List D)(h:AH):unD .len (.tup xs) h=(.ok (.int xs.length) h):=(rfl)
theorem qE0(i:Nat)(h:AH):unD .len (.ref i) h=(match getL h i with | some xs=>.ok (.int xs.length) h | none=>bP i h):=(rfl)
theorem qEv(i:Int)(h:AH):unD .str (.int i) h=(if i.natAbs.log2<1920 then .ok (.str (txI i)) h else .bad):=(rfl)
theorem qE6(x:Tx)(h:AH):unD .int (.str x) h=(if x≠[]/\x.length<=640/\jN x=true then .ok (.int (kM x)) h else .bad):=(rfl)
theorem qEx(c:Nat)(h:AH):unD .ord (.str [c]) h=(.ok (.int c) h):=(rfl)
theorem qEu(i:Nat)(h:AH):unD .tuple (.ref i) h=(match getL h i with | some xs=>.ok (.tup xs) h | none=>.bad):=(rfl)
theorem qE9(i:Nat)(h:AH):unD .all (.ref i) h=(match (getL h i).bind uD with | some b=>.ok (.bl b) h | none=>.bad):=(rfl)
theorem qEw(i:Nat)(h:AH):unD .sorted (.ref i) h=(match getL h i with | some ds=>aU ds h | none=>yN i h):=(rfl)
theorem qE8(i:Nat)(h:AH):unD .dictl (.ref i) h=(match (getL h i).bind kG with | some kvs=>if kvs.length<16777216 then .ok (.ref h.length) (h++[.dct (zI [] kvs)]) else .bad | none=>.bad):=(rfl)
theorem qE3(cs xl:List Nat)(i:Nat)(h:AH):unD (.isx cs xl) (.ref i) h=(match h[i]? with | some (.xc c)=>if xl.contains c then .ok (.bl (cs.contains c)) h else .bad | _=>.bad):=(rfl)
theorem qE7(k i:Nat)(h:AH):unD (.fld k) (.ref i) h=(match h[i]? with | some (.ins _ fs)=>(match qL k fs with | some d=>.ok d h | none=>.bad) | _=>.bad):=(rfl)
theorem qE5(d:D)(h:AH):unD .isN d h=(.ok (.bl (match d with | .non=>true | _=>false)) h):=(rfl)
theorem qEy(d:D)(h:AH):unD .notN d h=(.ok (.bl (match d with | .non=>false | _=>true)) h):=(rfl)
theorem qE4(t:Ty)(d:D)(h:AH):unD (.isi t) d h=(match kP h t d with | some b=>.ok (.bl b) h | none=>.bad):=(rfl)
theorem qIG(i j:Int)(h:AH):biD .add (.int i) (.int j) h=(.ok (.int (i+j)) h):=(rfl)
theorem qIF(a b:Tx)(h:AH):biD .add (.str a) (.str b) h=(if a.length+b.length<=16777216 then .ok (.str (a++b)) h else .bad):=(rfl)
theorem qIE(a b:List D)(h:AH):biD .add (.tup a) (.tup b) h=(if a.length+b.length<=16777216 then .ok (.tup (a++b)) h else .bad):=(rfl)
theorem qID(i j:Nat)(h:AH):biD .add (.ref i) (.ref j) h=(match h[i]?,h[j]? with | some (.lst xs),some (.lst ys)=>newL (xs++ys) h | _,_=>.bad):=(rfl)
theorem qHn(i j:Int)(h:AH):biD .sub (.int i) (.int j) h=(.ok (.int (i-j)) h):=(rfl)
theorem qHu(i j:Int)(h:AH):biD .mul (.int i) (.int j) h=(if kI i j then .ok (.int (i*j)) h else .bad):=(rfl)
theorem qHo(a:Tx)(c:Nat)(h:AH):biD .split (.str a) (.str [c]) h=(if c<256/\a.length<=1000000 then newL ((jA a (qR c 0 a)).map .str) h else .bad):=(rfl)
theorem qHr(a:Tx)(c:Nat)(h:AH):biD .part (.str a) (.str [c]) h=(if a.length<=1000000 then .ok (.tup ((kB a c).map .str)) h else .bad):=(rfl)
theorem qHp(a:Tx)(c:Nat)(h:AH):biD .rpart (.str a) (.str [c]) h=(if a.length<=1000000 then .ok (.tup ((kA a c).map .str)) h else .bad):=(rfl)
theorem qH7(k:Nat)(i:Int)(h:AH):biD .get (.ref k) (.int i) h=(yX k (.int i) h):=(rfl)
theorem qHq(k:Nat)(i:Int)(h:AH):biD .pop (.ref k) (.int i) h=(bC k (.int i) h):=(rfl)
theorem qHm(k j:Nat)(h:AH):biD .update (.ref k) (.ref j) h=(aL k j h):=(rfl)
theorem qIA(k j:Nat)(h:AH):biD .extend (.ref k) (.ref j) h=(match h[k]?,h[j]? with | some (.lst xs),some (.lst ys)=>if xs.length+ys.length<=16777216 then .ok .non (h.set k (.lst (xs++ys))) else .bad | _,_=>.bad):=(rfl)
theorem qH9(i j:Int)(h:AH):biD .fdiv (.int i) (.int j) h=(if 0<j/\j<1073741824 then .ok (.int (i / j)) h else .bad):=(rfl)
theorem qHv(i j:Int)(h:AH):biD .mod (.int i) (.int j) h=(if 0<j then .ok (.int (i % j)) h else .bad):=(rfl)
theorem qIB(x y:D)(h:AH):biD .eq x y h=(match kL h x y with | some b=>.ok (.bl b) h | none=>.bad):=(rfl)
theorem qHt(x y:D)(h:AH):biD .ne x y h=(match kL h x y with | some b=>.ok (.bl (!b)) h | none=>.bad):=(rfl)
theorem qHy(i j:Int)(h:AH):biD .lt (.int i) (.int j) h=(.ok (.bl (decide (i<j))) h):=(rfl)
theorem qHz(i j:Int)(h:AH):biD .le (.int i) (.int j) h=(.ok (.bl (decide (i<=j))) h):=(rfl)
theorem qH6(i j:Int)(h:AH):biD .gt (.int i) (.int j) h=(.ok (.bl (decide (j<i))) h):=(rfl)
theorem qH8(i j:Int)(h:AH):biD .ge (.int i) (.int j) h=(.ok (.bl (decide (j<=i))) h):=(rfl)
theorem qH5(c:Nat)(b:Tx)(h:AH):biD .isin (.str [c]) (.str b) h=(.ok (.bl (b.contains c)) h):=(rfl)
theorem qH4(a:Int)(i:Nat)(h:AH):biD .isin (.int a) (.ref i) h=(match (getL h i).bind zX with | some xs=>.ok (.bl (xs.contains a)) h | none=>kW i (.int a) h):=(rfl)
theorem qHs(a:Int)(i:Nat)(h:AH):biD .notin (.int a) (.ref i) h=(match (getL h i).bind zX with | some xs=>.ok (.bl (!xs.contains a)) h | none=>kE i (.int a) h):=(rfl)
theorem qH3(xs:List D)(i:Int)(h:AH):biD .ix (.tup xs) (.int i) h=(match (ixN xs.length i).bind (xs[·]?) with | some d=>.ok d h | none=>.bad):=(rfl)
theorem qH2(x:Tx)(i:Int)(h:AH):biD .ix (.str x) (.int i) h=(if x.length<=16777216 then (match (ixN x.length i).bind (x[·]?) with | some c=>.ok (.str [c]) h | none=>.bad) else .bad):=(rfl)
theorem qH1(k:Nat)(i:Int)(h:AH):biD .ix (.ref k) (.int i) h=(match (getL h k).bind fun xs=>(ixN xs.length i).bind (xs[·]?) with | some d=>.ok d h | none=>ixK k (.int i) h):=(rfl)
theorem qHw(i j:Int)(h:AH):biD .min2 (.int i) (.int j) h=(.ok (.int (if j<i then j else i)) h):=(rfl)
theorem qHx(i j:Int)(h:AH):biD .max2 (.int i) (.int j) h=(.ok (.int (if j > i then j else i)) h):=(rfl)
theorem qHl(x:Tx)(n:Int)(h:AH):biD .zfill (.str x) (.int n) h=(if 0<=n/\n<=1000/\jN x=true/\x.length<=1000 then .ok (.str (List.replicate (n.toNat-x.length) 48++x)) h else .bad):=(rfl)
theorem qH0(x:Tx)(i:Nat)(h:AH):biD .join (.str x) (.ref i) h=(match (getL h i).bind zU with | some xs=>if jS x xs<=16777216 then .ok (.str (qZ x xs)) h else .bad | none=>.bad):=(rfl)
theorem qIC(k:Nat)(d:D)(h:AH):biD .append (.ref k) d h=(match h[k]? with | some (.lst xs)=>if xs.length<16777216 then .ok .non (h.set k (.lst (xs++[d]))) else .bad | _=>.bad):=(rfl)
theorem qFf(b:Bool)(h:AH):wL (.bl b) h=(.ok b h):=(rfl)
theorem qK0(x:Tx)(h:AH):bV (.str x) h=(.ok (.row (x.map fun c=>.str [c])) h):=(rfl)
theorem qKz(xs:List D)(h:AH):bV (.tup xs) h=(.ok (.row xs) h):=(rfl)
theorem qK1(i:Nat)(h:AH):bV (.ref i) h=(match getL h i with | some _=>.ok (.live i) h | none=>.bad):=(rfl)
theorem qGe(x:Tx)(l u:Option Int)(h:AH):slD (.str x) l u h=(if x.length<=16777216 then .ok (.str (qN x l u)) h else .bad):=(rfl)
theorem qGc(x:List D)(l u:Option Int)(h:AH):slD (.tup x) l u h=(.ok (.tup (qN x l u)) h):=(rfl)
theorem qGk(i:Nat)(l u:Option Int)(h:AH):slD (.ref i) l u h=(match getL h i with | some xs=>newL (qN xs l u) h | none=>.bad):=(rfl)
theorem qJV(i:Nat)(h:AH):zJ .append (.ref i) h=(match getL h i with | some _=>.ok () h | none=>.bad):=(rfl)
theorem qJM(x:Tx)(h:AH):zJ .zfill (.str x) h=.ok () h:=(rfl)
theorem qJS(x:Tx)(h:AH):zJ .join (.str x) h=.ok () h:=(rfl)
theorem qJT(i:Nat)(h:AH):zJ .get (.ref i) h=(match h[i]? with | some (.dct _)=>.ok () h | _=>.bad):=(rfl)
theorem qJQ(i:Nat)(h:AH):zJ .pop (.ref i) h=(match h[i]? with | some (.dct _)=>.ok () h | _=>.bad):=(rfl)
theorem qJN(i:Nat)(h:AH):zJ .update (.ref i) h=(match h[i]? with | some (.dct _)=>.ok () h | _=>.bad):=(rfl)
theorem qJU(i:Nat)(h:AH):zJ .extend (.ref i) h=(match getL h i with | some _=>.ok () h | none=>.bad):=(rfl)
theorem qEm(i:Nat)(k:List D->M D)(h:AH):tO (.ref i) k h=(match h[i]? with | some (.dct kvs)=>if kvs.length<16777216 then yK i (k (jE kvs) (h.set i (.rod kvs))) else .bad | _=>.bad):=(rfl)
theorem qFW{α:Type}(i:Nat)(a:α)(h:AH):yK i (.ok a h)=(match h[i]? with | some (.rod kvs)=>.ok a (h.set i (.dct kvs)) | _=>.bad):=(rfl)
theorem qJO(x:Tx)(h:AH):zJ .split (.str x) h=.ok () h:=(rfl)
theorem qJR(x:Tx)(h:AH):zJ .part (.str x) h=.ok () h:=(rfl)
theorem qJP(x:Tx)(h:AH):zJ .rpart (.str x) h=.ok () h:=(rfl)
theorem qGF(a:Tx)(c:Nat)(k:Int)(h:AH):fA (.str a) (.str [c]) (.int k) h=(if (c<256/\a.length<=1000000)/\0<=k/\k<=1000000 then newL ((jA a ((qR c 0 a).take k.toNat)).map .str) h else .bad):=(rfl)
theorem qGR(k:Nat)(i:Int)(d:D)(h:AH):fB (.ref k) (.int i) d h=aV k (.int i) d h:=(rfl)
theorem qMG(k:Nat)(i:Int)(d:D)(h:AH):lH (.ref k) (.int i) d h=(match h[k]? with | some (.dct kvs)=>.ok ((qH kvs (.int i)).getD d) h | _=>.bad):=(rfl)
theorem qLG(i:Int)(h:AH):qCU (.int i) h=.ok (some i) h:=(rfl)
theorem isi_int(t:Ty)(i:Int)(h:AH):kP h t (.int i)=(some (t == .int)):=(rfl)
theorem isi_str(t:Ty)(x:Tx)(h:AH):kP h t (.str x)=(some (t == .str)):=(rfl)
theorem isi_tup(t:Ty)(xs:List D)(h:AH):kP h t (.tup xs)=(some (t == .tuple)):=(rfl)
theorem qMX(i1:Int)(h:AH):kL h (.int i1) .non=(some false):=(rfl)
theorem qMY(i1:Int)(i2:Int)(h:AH):kL h (.int i1) (.int i2)=(some (i1 == i2)):=(rfl)
theorem qMW(x1:Tx)(x2:Tx)(h:AH):kL h (.str x1) (.str x2)=(some (x1 == x2)):=(rfl)
open PySem PySem.Spec PyProof.Rows
open L2 (V Hp HO VK TE TT TA TS TI Cx Inv RelV Vals SqL SqT Rd upd qI qE PE PT PA PS PSs EP)
mutual
def RepV(K:PySem.W.Frag)(Y:List Addr)(H:Hp):D->V->Prop
 | .non,v=>v=.non
 | .bl b,v=>v=.bl b
 | .int i,v=>v=.int i
 | .str x,v=>v=.str ⟨x.toArray⟩
 | .tup xs,v=>∃ a vs,v=.ref a/\SqT K H a vs/\RepL K Y H xs vs
 | .ref i,v=>∃ a,Y[i]?=some a/\v=.ref a
def RepL(K:PySem.W.Frag)(Y:List Addr)(H:Hp):List D->List V->Prop
 | [],vs=>vs=[]
 |x::xs,vs=>∃ v r,vs=v::r/\RepV K Y H x v/\RepL K Y H xs r
end
def KL(K:PySem.W.Frag)(a:Addr)(xs:List V):Prop:=
 ∃ (o:Obj) (its:Array Value) (n:Nat),K.lookup a=some o/\o.cls=.type "list"/\o.dict=none/\o.data=.seq its n/\its.size<=sizeLine/\Vals xs its.toList
def zK(K:PySem.W.Frag)(c:Nat)(C:Addr):Prop:=PySem.W.nsIn K mainGlobals (qD c)=some (some (.ref C))
def xcO(a C:Addr):HO:=.ext fun h=>∃ o,h.get? a=some o/\o.cls=.ref C
def RepF(K:PySem.W.Frag)(Y:List Addr)(H:Hp)(C:Addr):List (Nat × D)->List (Str × V)->Prop
 | [],vs=>vs=[]
 |x::xs,vs=>∃ v r,vs=(qD x.1,v)::r/\x.1<256 ^ 60/\L2.NoAttr K C (qD x.1)/\RepV K Y H x.2 v/\RepF K Y H C xs r
def kyV:Ky->L2.Key
 | .int i=>.inl i
 | .str x=>.inr ⟨x.toArray⟩
def RepK(K:PySem.W.Frag)(Y:List Addr)(H:Hp):List (Ky × D)->List (L2.Key × V)->Prop
 | [],vs=>vs=[]
 |x::xs,vs=>∃ v r,vs=(kyV x.1,v)::r/\RepV K Y H x.2 v/\RepK K Y H xs r
def RepO(K:PySem.W.Frag)(Y:List Addr)(H:Hp):O->Addr->Prop
 | .lst xs,a=>∃ vs,H a=some (.lst vs)/\RepL K Y H xs vs
 | .rol xs,a=>∃ vs,((∃ o,H a=some (.frz o (.lst vs)))\/KL K a vs)/\RepL K Y H xs vs
 | .ins c fs,a=>∃ C dx vs,zK K c C/\L2.Cls K C/\H a=some (.ins C dx vs)/\RepF K Y H C fs vs
 | .dct kvs,a=>∃ vs,H a=some (.dK vs)/\RepK K Y H kvs vs
 | .xc c,a=>∃ C,zK K c C/\H a=some (xcO a C)
 | .rod kvs,a=>∃ ob vs,H a=some (.frz ob (.dK vs))/\RepK K Y H kvs vs
def kH:O->Bool
 | .rol _=>false
 | .xc _=>false
 |_=>true
structure RepH (K:PySem.W.Frag) (Y:List Addr) (h:AH) (H:Hp):Prop where
 len:Y.length=h.length
 obj:∀ (i:Nat) (o:O),h[i]?=some o->∃ a,Y[i]?=some a/\RepO K Y H o a
 inj:∀ (i j:Nat) (a:Addr) (o o':O),h[i]?=some o->h[j]?=some o'->kH o=true->kH o'=true->Y[i]?=some a->Y[j]?=some a->i=j
def Imm:HO->Bool
 | .tup _=>true
 | .frz _ _=>true
 | .ext _=>true
 |_=>false
structure Step (Y:List Addr) (H:Hp) (Y':List Addr) (H':Hp):Prop where
 pre:Y <+: Y'
 new:∀ a∈Y',a∈Y\/H a=none
 keep:∀ a o,H a=some o->(Imm o=true\/a∉Y)->H' a=some o
theorem Step.refl(Y:List Addr)(H:Hp):Step Y H Y H:=⟨List.prefix_refl _,fun _ h=>.inl h,fun _ _ h _=>h⟩
theorem Step.trans(a:Step Y H Y1 H1)(b:Step Y1 H1 Y2 H2):Step Y H Y2 H2:=by
 refine⟨a.pre.trans b.pre,fun x hx=>?_,fun x o h c=>b.keep x o (a.keep x o h c) (c.imp id fun n m=>?_)⟩
 ·rcases b.new x hx with h | h
  ·exact a.new x h
  ·by_cases m:x∈Y
   ·exact .inl m
   ·cases q:H x with
    |none=>exact .inr rfl
    |some o=>rw[a.keep x o q (.inr m)] at h;cases h
 ·rcases a.new x m with z | z
  ·exact n z
  ·rw[h] at z;cases z
theorem Step.tup(e:Step Y H Y' H')(h:Rd H a (.tup vs)):Rd H' a (.tup vs):=by
 rcases h with h | ⟨o,h⟩
 ·exact .inl (e.keep _ _ h (.inl rfl))
 ·exact .inr ⟨o,e.keep _ _ h (.inl rfl)⟩
theorem Step.sqt{K:PySem.W.Frag}(e:Step Y H Y' H')(h:SqT K H a vs):SqT K H' a vs:=h.imp e.tup id
theorem vE(p:Y <+: Y'){i:Nat}{a:Addr}(h:Y[i]?=some a):Y'[i]?=some a:=by
 obtain ⟨t,rfl⟩:=p;rw[List.getElem?_append_left (List.getElem?_eq_some_iff.mp h).1];exact h
section
variable {K:PySem.W.Frag}{Y Y':List Addr}{H H':Hp}{a:Addr}
mutual
theorem RepV.mono(e:Step Y H Y' H'):∀ (d:D) (v:V),RepV K Y H d v->RepV K Y' H' d v
 | .non,_,h=>h
 | .bl _,_,h=>h
 | .int _,_,h=>h
 | .str _,_,h=>h
 | .tup xs,v,⟨a,vs,h1,h2,h3⟩=>⟨a,vs,h1,e.sqt h2,RepL.mono e xs vs h3⟩
 | .ref _,_,⟨a,h1,h2⟩=>⟨a,vE e.pre h1,h2⟩
theorem RepL.mono(e:Step Y H Y' H'):∀ (ds:List D) (vs:List V),RepL K Y H ds vs->RepL K Y' H' ds vs
 | [],_,h=>h
 |d::ds,_,⟨v,r,h1,h2,h3⟩=>⟨v,r,h1,RepV.mono e d v h2,RepL.mono e ds r h3⟩
end
theorem RepL.length:∀ {ds:List D} {vs:List V},RepL K Y H ds vs->vs.length=ds.length
 | [],_,h=>by cases h;rfl
 |d::ds,_,⟨v,r,h1,_,h3⟩=>by subst h1;simp[RepL.length h3]
theorem RepL.get:∀ {ds:List D} {vs:List V} {i:Nat} {d:D},RepL K Y H ds vs->ds[i]?=some d->∃ v,vs[i]?=some v/\RepV K Y H d v
 | [],_,_,_,_,e=>by simp at e
 |x::ds,_,0,d,⟨v,r,h1,h2,_⟩,e=>by
  subst h1;simp at e;subst e
  exact⟨v,rfl,h2⟩
 |x::ds,_,i+1,d,⟨v,r,h1,_,h3⟩,e=>by
  subst h1;simpa using RepL.get (i:=i) h3 (by simpa using e)
theorem RepL.append:∀ {ds es:List D} {vs ws:List V},RepL K Y H ds vs->RepL K Y H es ws->RepL K Y H (ds++es) (vs++ws)
 | [],_,_,_,h,k=>by cases h;exact k
 |x::ds,es,_,ws,⟨v,r,h1,h2,h3⟩,k=>by subst h1;exact⟨v,r++ws,rfl,h2,RepL.append h3 k⟩
theorem RepL.drop:∀ {ds:List D} {vs:List V} (n:Nat),RepL K Y H ds vs->RepL K Y H (ds.drop n) (vs.drop n)
 |_,_,0,h=>h
 | [],_,n+1,h=>by cases h;exact rfl
 |x::ds,_,n+1,⟨v,r,h1,_,h3⟩=>by subst h1;exact RepL.drop n h3
theorem RepL.take:∀ {ds:List D} {vs:List V} (n:Nat),RepL K Y H ds vs->RepL K Y H (ds.take n) (vs.take n)
 |_,_,0,h=>by simp[RepL]
 | [],_,n+1,h=>by cases h;simp[RepL]
 |x::ds,_,n+1,⟨v,r,h1,h2,h3⟩=>by subst h1;exact⟨v,r.take n,rfl,h2,RepL.take n h3⟩
theorem Step.fresh(hp:H p=none):Step Y H Y (upd H p o):=
 ⟨List.prefix_refl _,fun _ h=>.inl h,fun a ob h _=>by rw[qE (L2.ne_of_none h hp)];exact h⟩
theorem Step.new1(hp:H p=none):Step Y H (Y++[p]) (upd H p o):=
 ⟨List.prefix_append _ _,fun a h=>(List.mem_append.mp h).imp id fun z=>by rw[List.mem_singleton.mp z];exact hp,fun a ob h _=>by rw[qE (L2.ne_of_none h hp)];exact h⟩
theorem Step.turn(hp:H p=some o)(hi:Imm o=false)(hm:p∈Y):Step Y H Y (upd H p o'):=by
 refine⟨List.prefix_refl _,fun _ h=>.inl h,fun a ob h c=>?_⟩;rw[qE]
 ·exact h
 ·intro z;subst z;rcases c with c | c
  ·rw[hp] at h;cases h;rw[hi] at c;cases c
  ·exact c hm
theorem RepF.mono{C:Addr}(e:Step Y H Y' H'):∀ (ds:List (Nat × D)) (vs:List (Str × V)),RepF K Y H C ds vs->RepF K Y' H' C ds vs
 | [],_,h=>h
 |d::ds,_,⟨v,r,h1,hb,hn,h2,h3⟩=>⟨v,r,h1,hb,hn,RepV.mono e _ v h2,RepF.mono e ds r h3⟩
theorem RepK.mono(e:Step Y H Y' H'):∀ (ds:List (Ky × D)) (vs:List (L2.Key × V)),RepK K Y H ds vs->RepK K Y' H' ds vs
 | [],_,h=>h
 |d::ds,_,⟨v,r,h1,h2,h3⟩=>⟨v,r,h1,RepV.mono e _ v h2,RepK.mono e ds r h3⟩
theorem RepO.mono(e:Step Y H Y' H'){o:O}(l:kH o=true->∀ u,H a=some u->H' a=some u)(h:RepO K Y H o a):RepO K Y' H' o a:=by
 cases o with
 |lst xs=>
  obtain ⟨vs,h1,h2⟩:=h
  exact⟨vs,l rfl _ h1,RepL.mono e _ _ h2⟩
 |rol xs=>
  obtain ⟨vs,h1,h2⟩:=h;refine⟨vs,?_,RepL.mono e _ _ h2⟩;rcases h1 with⟨ob,h1⟩ | h1
  ·exact .inl ⟨ob,e.keep _ _ h1 (.inl rfl)⟩
  ·exact .inr h1
 |ins c fs=>
  obtain ⟨C,dx,vs,h1,hc,h2,h3⟩:=h
  exact⟨C,dx,vs,h1,hc,l rfl _ h2,RepF.mono e _ _ h3⟩
 |dct kvs=>
  obtain ⟨vs,h1,h2⟩:=h
  exact⟨vs,l rfl _ h1,RepK.mono e _ _ h2⟩
 |xc c=>
  obtain ⟨C,h1,h2⟩:=h
  exact⟨C,h1,e.keep _ _ h2 (.inl rfl)⟩
 |rod kvs=>
  obtain ⟨ob,vs,h1,h2⟩:=h
  exact⟨ob,vs,e.keep _ _ h1 (.inl rfl),RepK.mono e _ _ h2⟩
theorem RepO.there{o:O}(h:RepO K Y H o a)(m:kH o=true):∃ u,H a=some u:=by
 cases o with
 |lst xs=>obtain ⟨vs,h1,_⟩:=h;exact⟨_,h1⟩
 |rol xs=>cases m
 |ins c fs=>obtain ⟨C,dx,vs,_,_,h1,_⟩:=h;exact⟨_,h1⟩
 |dct kvs=>obtain ⟨vs,h1,_⟩:=h;exact⟨_,h1⟩
 |xc c=>cases m
 |rod kvs=>obtain ⟨ob,vs,h1,_⟩:=h;exact⟨_,h1⟩
theorem RepH.fresh{h:AH}{p:Addr}{o:HO}(r:RepH K Y h H)(hp:H p=none):RepH K Y h (upd H p o):=
 ⟨r.len,fun i ob hi=>let ⟨a,h1,h2⟩:=r.obj i ob hi;⟨a,h1,h2.mono (Step.fresh hp) (fun _ u z=>by rw[qE (L2.ne_of_none z hp)];exact z)⟩,r.inj⟩
theorem RepH.newO{h:AH}(r:RepH K Y h H){p:Addr}{o:O}{u:HO}(hp:H p=none)(ho:RepO K (Y++[p]) (upd H p u) o p) :
  RepH K (Y++[p]) (h++[o]) (upd H p u):=by
 have e:Step Y H (Y++[p]) (upd H p u):=Step.new1 hp;refine⟨by simp[r.len],fun i ob hi=>?_,fun i j a o1 o2 hi hj m1 m2 hai haj=>?_⟩
 ·by_cases hlt:i<h.length
  ·rw[List.getElem?_append_left hlt] at hi;obtain ⟨a,h1,h2⟩:=r.obj i ob hi
   exact⟨a,vE e.pre h1,h2.mono e (fun _ u z=>by rw[qE (L2.ne_of_none z hp)];exact z)⟩
  ·have hi':=(List.getElem?_eq_some_iff.mp hi).1;simp at hi';have e':i=h.length:=by lia
   subst e';rw[List.getElem?_append_right (Nat.le_refl _)] at hi;simp at hi;subst hi;refine⟨p,?_,ho⟩;rw[<- r.len,List.getElem?_append_right (Nat.le_refl _)];simp
 ·have key:∀ (i:Nat) (z:O),kH z=true->(h++[o])[i]?=some z->(Y++[p])[i]?=some a->(i<h.length/\h[i]?=some z/\Y[i]?=some a/\a≠p)\/(i=h.length/\a=p):=fun i z mz hi hai=>by
   by_cases hlt:i<h.length
   ·rw[List.getElem?_append_left hlt] at hi;rw[List.getElem?_append_left (by rw[r.len];exact hlt)] at hai;refine .inl ⟨hlt,hi,hai,fun q=>?_⟩;obtain ⟨b,h1,h2⟩:=r.obj i _ hi;rw[hai] at h1;cases h1;obtain ⟨w,h3⟩:=h2.there mz;rw[q,hp] at h3;cases h3
   ·have hi':=(List.getElem?_eq_some_iff.mp hi).1;simp at hi';have e':i=h.length:=by lia
    subst e';rw[<- r.len,List.getElem?_append_right (Nat.le_refl _)] at hai;simp at hai;exact .inr ⟨rfl,hai.symm⟩
  rcases key i _ m1 hi hai with⟨h1,h2,h3,h4⟩ | ⟨h1,h2⟩ <;> rcases key j _ m2 hj haj with⟨k1,k2,k3,k4⟩ | ⟨k1,k2⟩
  ·exact r.inj i j a _ _ h2 k2 m1 m2 h3 k3
  ·exact absurd k2 h4
  ·exact absurd h2 k4
  ·lia
theorem RepH.setO{h:AH}(r:RepH K Y h H){k:Nat}{p:Addr}{o o':O}{u u':HO}(hk:h[k]?=some o)(m:kH o=true)(m':kH o'=true)(hr:Y[k]?=some p)(hp:H p=some u)(hi':Imm u=false)(hx:RepO K Y (upd H p u') o' p) :
  RepH K Y (h.set k o') (upd H p u'):=by
 have e:Step Y H Y (upd H p u'):=Step.turn hp hi' (List.mem_of_getElem? hr);have hkl:=(List.getElem?_eq_some_iff.mp hk).1;refine⟨by simp[r.len],fun i ob hi=>?_,fun i j a o1 o2 hi hj m1 m2 hai haj=>?_⟩
 ·rw[List.getElem?_set] at hi
  by_cases hik:k=i
  ·rw[if_pos hik,if_pos (by lia)] at hi;cases hi;subst hik
   exact⟨p,hr,hx⟩
  ·rw[if_neg hik] at hi;obtain ⟨a,h1,h2⟩:=r.obj i ob hi;refine⟨a,h1,h2.mono e fun mo w hw=>?_⟩;rw[qE fun z=>hik (r.inj k i p _ _ hk hi m mo hr (by rw[<- z];exact h1))];exact hw
 ·have key:∀ (i:Nat) (z:O),kH z=true->(h.set k o')[i]?=some z->∃ z',h[i]?=some z'/\kH z'=true:=fun i z mz hi=>by
   rw[List.getElem?_set] at hi
   by_cases hik:k=i
   ·subst hik
    exact⟨_,hk,m⟩
   ·rw[if_neg hik] at hi
    exact⟨_,hi,mz⟩
  obtain ⟨_,hi',n1⟩:=key i _ m1 hi;obtain ⟨_,hj',n2⟩:=key j _ m2 hj;exact r.inj i j a _ _ hi' hj' n1 n2 hai haj
theorem RepH.newList{h:AH}(r:RepH K Y h H){p:Addr}{xs:List D}{vs:List V}(hp:H p=none)(hx:RepL K Y H xs vs) :
  RepH K (Y++[p]) (h++[.lst xs]) (upd H p (.lst vs)):=r.newO hp ⟨vs,qI,RepL.mono (Step.new1 hp) _ _ hx⟩
theorem RepH.setList{h:AH}(r:RepH K Y h H){k:Nat}{p:Addr}{xs ys:List D}{us vs:List V}(hk:h[k]?=some (.lst xs))(hr:Y[k]?=some p)(hp:H p=some (.lst us))(hx:RepL K Y H ys vs) :
  RepH K Y (h.set k (.lst ys)) (upd H p (.lst vs)):=r.setO hk rfl rfl hr hp rfl ⟨vs,qI,RepL.mono (Step.turn hp rfl (List.mem_of_getElem? hr)) _ _ hx⟩
theorem RepH.list{h:AH}(r:RepH K Y h H){i:Nat}{xs:List D}(hi:getL h i=some xs):∃ a vs,Y[i]?=some a/\SqL K H a vs/\RepL K Y H xs vs:=by
 unfold getL at hi;cases e:h[i]? with
 |none=>rw[e] at hi;cases hi
 |some o=>
  rw[e] at hi;obtain ⟨a,h1,h2⟩:=r.obj i o e;cases o with
  |lst ys=>
   cases hi;obtain ⟨vs,h3,h4⟩:=h2
   exact⟨a,vs,h1,L2.SqL.of h3,h4⟩
  |rol ys=>
   cases hi;obtain ⟨vs,h3,h4⟩:=h2;refine⟨a,vs,h1,?_,h4⟩;rcases h3 with⟨ob,h3⟩ | h3
   ·exact .inl (.inr ⟨ob,h3⟩)
   ·exact .inr h3
  |_=>cases hi
end
def RepS(K:PySem.W.Frag)(Y:List Addr)(H:Hp)(env:Env)(U:L2.St):Prop:=env.length=U.length/\∀ (i:Nat) (d:D),env[i]?=some (some d)->∃ v,U[i]?=some (some v)/\RepV K Y H d v
theorem RepS.mono{K:PySem.W.Frag}(s:RepS K Y H env U)(e:Step Y H Y' H'):RepS K Y' H' env U:=
 ⟨s.1,fun i d h=>let ⟨v,h1,h2⟩:=s.2 i d h;⟨v,h1,h2.mono e _ _⟩⟩
theorem RepS.set{K:PySem.W.Frag}(s:RepS K Y H env U)(k:Nat)(r:RepV K Y H d v):RepS K Y H (env.set k (some d)) (U.set k (some v)):=by
 refine⟨by simp[s.1],fun i d' h=>?_⟩;rw[List.getElem?_set] at h ⊢
 by_cases hk:k=i
 ·subst hk;rw[if_pos rfl] at h ⊢
  by_cases hl:k<env.length
  ·rw[if_pos hl] at h;cases h;rw[if_pos (by rw[<- s.1];exact hl)]
   exact⟨v,rfl,r⟩
  ·rw[if_neg hl] at h;cases h
 ·rw[if_neg hk] at h ⊢;exact s.2 i d' h
abbrev WX:=Nat->L2.St->Hp->Prop
abbrev W1:=Nat->Hp->Prop
abbrev WX.at(W:WX)(U:L2.St):W1:=fun c H=>W c U H
def Post{α:Type}(K:PySem.W.Frag)(w:W1)(rep:List Addr->Hp->α->Prop)(Y:List Addr)(H:Hp):R α->Prop
 | .ok a h=>∀ (Y':List Addr) (H':Hp),Step Y H Y' H'->RepH K Y' h H'->rep Y' H' a
 | .exc c h=>∀ (Y':List Addr) (H':Hp),Step Y H Y' H'->RepH K Y' h H'->w c H'
 | .bad=>False
abbrev PostV(K:PySem.W.Frag)(w:W1)(Q:VK)(Y:List Addr)(H:Hp)(r:R D):Prop:=Post K w (fun Y' H' d=>∀ v,RepV K Y' H' d v->Q v H') Y H r
theorem Post.mono{α:Type}{K:PySem.W.Frag}{rep:List Addr->Hp->α->Prop}{r:R α}(p:Post K w rep Y H r)(e:Step Y H Y1 H1):Post K w rep Y1 H1 r:=by
 cases r with
 |ok a h=>exact fun Y' H' e' rh=>p Y' H' (e.trans e') rh
 |exc _ _=>exact fun Y' H' e' rh=>p Y' H' (e.trans e') rh
 |bad=>exact p
def tD(K:PySem.W.Frag)(W:WX)(m:Env->M D):TE:=fun U H Q=>∃ Y env h,RepS K Y H env U/\RepH K Y h H/\PostV K (W.at U) Q Y H (m env h)
def tDT(K:PySem.W.Frag)(W:WX)(m:Env->M Bool):TT:=fun U H Q=>∃ Y env h,RepS K Y H env U/\RepH K Y h H/\Post K (W.at U) (fun _ H' b=>Q b H') Y H (m env h)
def tDL(K:PySem.W.Frag)(W:WX)(m:Env->M (List D)):TA:=fun U H Q=>∃ Y env h,RepS K Y H env U/\RepH K Y h H/\Post K (W.at U) (fun Y' H' ds=>∀ vs,RepL K Y' H' ds vs->Q vs H') Y H (m env h)
theorem PE.imp(h:PE X e t)(i:∀ U H Q,t' U H Q->t U H Q):PE X e t':=fun pins s U H Q I q=>h pins s U H Q I (i U H Q q)
theorem PT.imp(h:PT X e t)(i:∀ U H Q,t' U H Q->t U H Q):PT X e t':=fun pins s U H Q I q=>h pins s U H Q I (i U H Q q)
theorem PA.imp(h:PA X e t)(i:∀ U H Q,t' U H Q->t U H Q):PA X e t':=fun pos pins s U H Q I q=>h pos pins s U H Q I (i U H Q q)
theorem PS.imp(h:PS X e t)(i:∀ D U H,t' D U H->t D U H):PS X e t':=fun pins s U H D I q=>h pins s U H D I (i D U H q)
theorem PSs.imp(h:PSs X e t)(i:∀ D U H,t' D U H->t D U H):PSs X e t':=fun pins s U H D I q=>h pins s U H D I (i D U H q)
open L2 (V Hp HO VK TE TT TA TS TI Cx Inv RelV Vals SqL SqT Rd upd qI qE PE PT PA PS PSs EP OpR qM IxR MtR SlR PO TO)
theorem zF:sizeLine=16777216:=sizeLine_eq
theorem yL(a b:Tx):((⟨a.toArray⟩:Str)++(⟨b.toArray⟩:Str))=⟨(a++b).toArray⟩:=by
 show Str.append _ _=_;unfold Str.append;simp
theorem zL(a:Tx):(⟨a.toArray⟩:Str).length=a.length:=by
 unfold Str.length;simp
section
variable {X:Cx}{K:PySem.W.Frag}{Y:List Addr}{H:Hp}{Q:VK}{h:AH}{w:W1}
theorem PostV.ite[Decidable c](p:PostV K w Q Y H (if c then r else .bad)):c/\PostV K w Q Y H r:=by
 by_cases hc:c
 ·rw[if_pos hc] at p
  exact⟨hc,p⟩
 ·rw[if_neg hc] at p;cases p
theorem PostV.now(p:PostV K w Q Y H (.ok d h))(r:RepH K Y h H)(hv:RepV K Y H d v):Q v H:=p Y H (Step.refl Y H) r v hv
theorem PostV.newL(p:PostV K w Q Y H (newL xs h))(r:RepH K Y h H)(hv:RepL K Y H xs vs):vs.length<=sizeLine/\∀ l,H l=none->Q (.ref l) (upd H l (.lst vs)):=by
 obtain ⟨hc,p⟩:=PostV.ite (c:=xs.length<=16777216) p;refine⟨by rw[hv.length,zF];exact hc,fun l hl=>?_⟩;refine p (Y++[l]) _ (Step.new1 hl) (r.newList hl hv) _ ⟨l,?_,rfl⟩;rw[<- r.len,List.getElem?_append_right (Nat.le_refl _)];simp
theorem PostV.newT(p:PostV K w Q Y H (.ok (.tup xs) h))(r:RepH K Y h H)(hv:RepL K Y H xs vs):∀ l,H l=none->Q (.ref l) (upd H l (.tup vs)):=fun l hl=>by
 have e:Step Y H Y (upd H l (.tup vs)):=Step.fresh hl;exact p Y _ e (r.fresh hl) _ ⟨l,vs,rfl,L2.SqT.of qI,hv.mono e _ _⟩
def rB(K:PySem.W.Frag)(o:Bi):L2.R2:=fun x y H Q=>∃ (w:W1),∃ Y h d e,RepH K Y h H/\RepV K Y H d x/\RepV K Y H e y/\PostV K w Q Y H (biD o d e h)
theorem qHS:OpR X (binaryOp .Sub) (rB X.K .sub):=by
 rintro pins s U H x y v u Q I rx ry ⟨w,Y,h,d,e,r,hd,he,p⟩
 cases d with
 |int i=>
  cases e with
  |int j=>cases hd;cases he;exact L2.op_sub pins s U H _ _ v u Q I rx ry ⟨i,j,rfl,rfl,p.now r rfl⟩
  |_=>exact False.elim p
 |_=>exact False.elim p
theorem qHV:OpR X (binaryOp .Mult) (rB X.K .mul):=by
 rintro pins s U H x y v u Q I rx ry ⟨w,Y,h,d,e,r,hd,he,p⟩
 cases d with
 |int i=>
  cases e with
  |int j=>cases hd;cases he;obtain ⟨hc,p⟩:=PostV.ite (c:=kI i j) p;exact L2.op_mul pins s U H _ _ v u Q I rx ry ⟨i,j,rfl,rfl,hc,p.now r rfl⟩
  |_=>exact False.elim p
 |_=>exact False.elim p
theorem qHc:OpR X (binaryOp .FloorDiv) (rB X.K .fdiv):=by
 rintro pins s U H x y v u Q I rx ry ⟨w,Y,h,d,e,r,hd,he,p⟩
 cases d with
 |int i=>
  cases e with
  |int j=>cases hd;cases he;obtain ⟨hc,p⟩:=PostV.ite (c:=0<j/\j<1073741824) p;exact L2.op_fdiv pins s U H _ _ v u Q I rx ry ⟨i,j,rfl,rfl,hc,p.now r rfl⟩
  |_=>exact False.elim p
 |_=>exact False.elim p
theorem qHW:OpR X (binaryOp .Mod) (rB X.K .mod):=by
 rintro pins s U H x y v u Q I rx ry ⟨w,Y,h,d,e,r,hd,he,p⟩
 cases d with
 |int i=>
  cases e with
  |int j=>cases hd;cases he;obtain ⟨hc,p⟩:=PostV.ite (c:=0<j) p;exact L2.op_mod pins s U H _ _ v u Q I rx ry ⟨i,j,rfl,rfl,hc,p.now r rfl⟩
  |_=>exact False.elim p
 |_=>exact False.elim p
theorem qHX:OpR X (compareOp .Lt) (rB X.K .lt):=by
 rintro pins s U H x y v u Q I rx ry ⟨w,Y,h,d,e,r,hd,he,p⟩
 cases d with
 |int i=>
  cases e with
  |int j=>cases hd;cases he;exact L2.op_lt pins s U H _ _ v u Q I rx ry ⟨i,j,rfl,rfl,p.now r rfl⟩
  |_=>exact False.elim p
 |_=>exact False.elim p
theorem qHY:OpR X (compareOp .LtE) (rB X.K .le):=by
 rintro pins s U H x y v u Q I rx ry ⟨w,Y,h,d,e,r,hd,he,p⟩
 cases d with
 |int i=>
  cases e with
  |int j=>cases hd;cases he;exact L2.op_le pins s U H _ _ v u Q I rx ry ⟨i,j,rfl,rfl,p.now r rfl⟩
  |_=>exact False.elim p
 |_=>exact False.elim p
theorem qHa:OpR X (compareOp .Gt) (rB X.K .gt):=by
 rintro pins s U H x y v u Q I rx ry ⟨w,Y,h,d,e,r,hd,he,p⟩
 cases d with
 |int i=>
  cases e with
  |int j=>cases hd;cases he;exact L2.op_gt pins s U H _ _ v u Q I rx ry ⟨i,j,rfl,rfl,p.now r rfl⟩
  |_=>exact False.elim p
 |_=>exact False.elim p
theorem qHb:OpR X (compareOp .GtE) (rB X.K .ge):=by
 rintro pins s U H x y v u Q I rx ry ⟨w,Y,h,d,e,r,hd,he,p⟩
 cases d with
 |int i=>
  cases e with
  |int j=>cases hd;cases he;exact L2.op_ge pins s U H _ _ v u Q I rx ry ⟨i,j,rfl,rfl,p.now r rfl⟩
  |_=>exact False.elim p
 |_=>exact False.elim p
theorem RepH.own(r:RepH K Y h H)(e:h[i]?=some (.lst xs))(hv:RepV K Y H (.ref i) v):∃ a vs,v=.ref a/\Y[i]?=some a/\H a=some (.lst vs)/\RepL K Y H xs vs:=by
 obtain ⟨a,h1,h2⟩:=hv;obtain ⟨b,h3,vs,h4,h5⟩:=r.obj i _ e;rw[h1] at h3;cases h3
 exact⟨a,vs,h2,h1,h4,h5⟩
theorem RepH.seen(r:RepH K Y h H)(e:getL h i=some xs)(hv:RepV K Y H (.ref i) v):∃ a vs,v=.ref a/\SqL K H a vs/\RepL K Y H xs vs:=by
 obtain ⟨a,h1,h2⟩:=hv;obtain ⟨b,vs,h3,h4,h5⟩:=r.list e;rw[h1] at h3;cases h3
 exact⟨a,vs,h2,h4,h5⟩
theorem qHe:OpR X (binaryOp .Add) (rB X.K .add):=by
 rintro pins s U H x y v u Q I rx ry ⟨w,Y,h,d,e,r,hd,he,p⟩
 cases d with
 |int i=>
  cases e with
  |int j=>cases hd;cases he;exact L2.op_add pins s U H _ _ v u Q I rx ry ⟨i,j,rfl,rfl,p.now r rfl⟩
  |_=>exact False.elim p
 |str a=>
  cases e with
  |str b=>cases hd;cases he;obtain ⟨hc,p⟩:=PostV.ite (c:=a.length+b.length<=16777216) p;exact L2.op_add_str pins s U H _ _ v u Q I rx ry ⟨_,_,rfl,rfl,by rw[zL,zL,zF];exact hc,by rw[yL];exact p.now r rfl⟩
  |_=>exact False.elim p
 |tup a=>
  cases e with
  |tup b=>
   obtain ⟨pa,va,rfl,ta,la⟩:=hd;obtain ⟨pb,vb,rfl,tb,lb⟩:=he;obtain ⟨hz,p⟩:=PostV.ite (c:=a.length+b.length<=16777216) p
   by_cases hc:a=[]
   ·subst hc;have ev:va=[]:=List.eq_nil_of_length_eq_zero la.length;subst ev;cases rx;cases ry;obtain ⟨its,r1,p1,_⟩:=I.tuple ta;obtain ⟨its2,r2,p2,_⟩:=I.tuple tb;have ei:its=[]:=r1.nil_iff.mpr rfl;subst ei;obtain ⟨⟨cls,dd,data,sl⟩,ho,hc,n,hd⟩:=id p1;obtain ⟨⟨cls2,dd2,data2,sl2⟩,ho2,hc2,n2,hd2⟩:=id p2;simp only at hc hd hc2 hd2;subst hc hd hc2 hd2
    exact concat_meets ⟨_,ho,rfl⟩ ⟨_,ho2,rfl⟩ noFill_tuple_add seq_tuple_add PySem.F.slot_tuple_add PySem.F.entry_tuple_add (PySem.F.args_tuple_add_2 _ _)
     (tuple_addW0 pa pb _ _ n n2 dd dd2 sl sl2 rfl) ⟨ho,ho2,⟨.ref pb,H,I,rfl,p.now r ⟨pb,vb,rfl,tb,lb⟩⟩⟩
   refine L2.op_catT pins s U H _ _ v u Q I rx ry ⟨pa,pb,va,vb,rfl,rfl,ta,tb,fun z=>hc ?_,by rw[la.length,lb.length,zF];exact hz,fun z=>?_,fun _=>p.newT r (la.append lb)⟩
   ·have:=la.length
    rw[z] at this;exact List.eq_nil_of_length_eq_zero this.symm
   ·subst z;have e:b=[]:=List.eq_nil_of_length_eq_zero lb.length.symm;subst e;rw[List.append_nil] at p;exact p.now r ⟨pa,va,rfl,ta,la⟩
  |_=>exact False.elim p
 |ref i=>
  cases e with
  |ref j=>
   have p:PostV X.K w Q Y H (match h[i]?,h[j]? with | some (.lst xs),some (.lst ys)=>newL (xs++ys) h | _,_=>.bad):=p;split at p
   ·rename_i xs ys e1 e2;obtain ⟨a,va,rfl,_,ha,la⟩:=r.own e1 hd;obtain ⟨b,vb,rfl,_,hb,lb⟩:=r.own e2 he;obtain ⟨hz,q⟩:=p.newL r (la.append lb);exact L2.op_cat pins s U H _ _ v u Q I rx ry ⟨a,b,va,vb,rfl,rfl,ha,hb,by rw[<- List.length_append];exact hz,q⟩
   ·exact False.elim p
  |_=>exact False.elim p
 |_=>exact False.elim p
end
theorem Post.bind{α β:Type}{K:PySem.W.Frag}{rep:List Addr->Hp->β->Prop}{rep':List Addr->Hp->α->Prop}{m:M α}{f:α->M β}(p:Post K w rep Y H (M.bind m f h))
  (k:∀ Y' h' a H',Step Y H Y' H'->RepH K Y' h' H'->Post K w rep Y' H' (f a h')->rep' Y' H' a):Post K w rep' Y H (m h):=by
 unfold M.bind at p;cases e:m h with
 |ok a h1=>rw[e] at p;exact fun Y1 H1 e1 r1=>k Y1 h1 a H1 e1 r1 (Post.mono p e1)
 |exc c h1=>rw[e] at p;exact p
 |bad=>rw[e] at p;exact p
theorem Post.when{α:Type}{K:PySem.W.Frag}{rep:List Addr->Hp->α->Prop}[Decidable c]{m:M α}(p:Post K w rep Y H (M.when c m h)):c/\Post K w rep Y H (m h):=by
 unfold M.when at p
 by_cases hc:c
 ·rw[if_pos hc] at p
  exact⟨hc,p⟩
 ·rw[if_neg hc] at p;cases p
theorem Post.imp{α:Type}{K:PySem.W.Frag}{rep rep':List Addr->Hp->α->Prop}{r:R α}(p:Post K w rep Y H r)(k:∀ Y' H' a,rep Y' H' a->rep' Y' H' a):Post K w rep' Y H r:=by
 cases r with
 |ok a h=>exact fun Y' H' e rh=>k Y' H' a (p Y' H' e rh)
 |exc _ _=>exact p
 |bad=>exact p
theorem Post.ret{α:Type}{K:PySem.W.Frag}{rep:List Addr->Hp->α->Prop}{a:α}(p:Post K w rep Y H (M.ret a h))(r:RepH K Y h H):rep Y H a:=p Y H (Step.refl Y H) r
section
variable {X:Cx}{F:Nat->List D->M D}{W:WX}{w:W1}
theorem two(t:tD X.K W (den F (.bi o ca cb)) U H Q):L2.tOp (rB X.K o) (tD X.K W (den F ca)) (tD X.K W (den F cb)) U H Q:=by
 obtain ⟨Y,env,h,s,r,p⟩:=t;dsimp only[den] at p
 exact⟨Y,env,h,s,r,Post.bind p fun Y1 h1 d H1 e1 r1 q v hv=>⟨Y1,env,h1,s.mono e1,r1,Post.bind q fun Y2 h2 d2 H2 e2 r2 q2 w hw=>⟨_,Y2,h2,d,d2,r2,hv.mono e2 _ _,hw,q2⟩⟩⟩
def rU(K:PySem.W.Frag)(o:Un):V->Hp->VK->Prop:=fun x H Q=>∃ (w:W1),∃ Y h d,RepH K Y h H/\RepV K Y H d x/\PostV K w Q Y H (unD o d h)
def rC(K:PySem.W.Frag)(o:Un):List V->Hp->VK->Prop:=fun xs H Q=>∃ x,xs=[x]/\rU K o x H Q
def rC2(K:PySem.W.Frag)(o:Bi):List V->Hp->VK->Prop:=fun xs H Q=>∃ x y,xs=[x,y]/\rB K o x y H Q
theorem one(t:tD X.K W (den F (.un o ca)) U H Q):tD X.K W (den F ca) U H fun x H1=>rU X.K o x H1 Q:=by
 obtain ⟨Y,env,h,s,r,p⟩:=t;dsimp only[den] at p
 exact⟨Y,env,h,s,r,Post.bind p fun Y1 h1 d H1 e1 r1 q v hv=>⟨_,Y1,h1,d,r1,hv,q⟩⟩
theorem gK(he:PE X e (L2.tC v))(hv:∀ Y H,RepV X.K Y H d v):PE X e (tD X.K W (den F (.lit d))):=PE.imp he fun U H Q t=>by
 obtain ⟨Y,env,h,s,r,p⟩:=t;dsimp only[den] at p;exact Post.ret p r v (hv Y H)
theorem qM7(he:PE X e (L2.tVar i)):PE X e (tD X.K W (den F (.var i))):=PE.imp he fun U H Q t=>by
 obtain ⟨Y,env,h,s,r,p⟩:=t;dsimp only[den] at p;cases q:env[i]? with
 |none=>rw[q] at p;cases p
 |some o=>
  cases o with
  |none=>rw[q] at p;cases p
  |some d=>
   rw[q] at p;obtain ⟨v,h1,h2⟩:=s.2 i d q
   exact⟨v,h1,p Y H (Step.refl Y H) r v h2⟩
theorem qM4{es:List Expr}:PA X [] (tDL X.K W (zA F .nil)):=PA.imp L2.pa_nil fun U H Q t=>by
 obtain ⟨Y,env,h,s,r,p⟩:=t;dsimp only[zA] at p;exact Post.ret p r [] rfl
theorem qM5(he:PE X e (tD X.K W (den F c)))(hr:PA X es (tDL X.K W (zA F cl)))(hs:starEach (e::es) X.env=(false,eval e X.env)::starEach es X.env) :
  PA X (e::es) (tDL X.K W (zA F (.cons c cl))):=PA.imp (L2.pa_cons he hr hs) fun U H Q t=>by
 obtain ⟨Y,env,h,s,r,p⟩:=t;dsimp only[zA] at p;refine⟨Y,env,h,s,r,Post.bind p fun Y1 h1 d H1 e1 r1 q v hv=>⟨Y1,env,h1,s.mono e1,r1,Post.bind q fun Y2 h2 ds H2 e2 r2 q2 vs hvs=>?_⟩⟩;exact Post.ret q2 r2 (v::vs) ⟨v,vs,rfl,hv.mono e2 _ _,hvs⟩
theorem qNe(ha:PE X a (tD X.K W (den F ca)))(hb:PE X (.BoolOp .And (b::qG) pos) (tD X.K W (den F cb))) :
  PE X (.BoolOp .And (a::b::qG) pos) (tD X.K W (den F (.and ca cb))):=PE.imp (L2.pe_and ha hb) fun U H Q t=>by
 obtain ⟨Y,env,h,s,r,p⟩:=t;dsimp only[den] at p;refine⟨Y,env,h,s,r,Post.bind p fun Y1 h1 d H1 e1 r1 q v hv=>?_⟩;cases d with
 |bl c=>
  cases hv;cases c with
  |true=>exact⟨true,rfl,⟨Y1,env,h1,s.mono e1,r1,q⟩⟩
  |false=>exact⟨false,rfl,Post.ret q r1 _ rfl⟩
 |_=>cases q
theorem qNG(ha:PE X a (tD X.K W (den F ca)))(hb:PE X (.BoolOp .Or (b::qG) pos) (tD X.K W (den F cb))) :
  PE X (.BoolOp .Or (a::b::qG) pos) (tD X.K W (den F (.or ca cb))):=PE.imp (L2.pe_or ha hb) fun U H Q t=>by
 obtain ⟨Y,env,h,s,r,p⟩:=t;dsimp only[den] at p;refine⟨Y,env,h,s,r,Post.bind p fun Y1 h1 d H1 e1 r1 q v hv=>?_⟩;cases d with
 |bl c=>
  cases hv;cases c with
  |true=>exact⟨true,rfl,Post.ret q r1 _ rfl⟩
  |false=>exact⟨false,rfl,⟨Y1,env,h1,s.mono e1,r1,q⟩⟩
 |_=>cases q
theorem TruV.of(r:RepH X.K Y h H)(hv:RepV X.K Y H d v)(p:Post X.K w rep Y H (wL d h)):∃ k,L2.TruV X.K v H k/\rep Y H k:=by
 cases d with
 |non=>cases hv;exact⟨false,rfl,Post.ret (a:=false) p r⟩
 |bl b=>cases hv;exact⟨b,rfl,Post.ret (a:=b) p r⟩
 |int i=>cases hv;exact⟨i != 0,rfl,Post.ret (a:=i != 0) p r⟩
 |str x=>
  cases hv;have p:Post X.K w rep Y H (if x.length<=16777216 then .ok (!x.isEmpty) h else .bad):=p
  by_cases hc:x.length<=16777216
  ·rw[if_pos hc] at p;refine⟨!x.isEmpty,⟨by rw[zL,zF];exact hc,?_⟩,Post.ret (a:=!x.isEmpty) p r⟩;rw[zL];cases x with
   |nil=>rfl
   |cons c x=>simp;lia
  ·rw[if_neg hc] at p;cases p
 |tup xs=>
  obtain ⟨a,vs,rfl,h1,h2⟩:=hv;refine⟨!xs.isEmpty,.inr (.inl ⟨vs,h1,?_⟩),Post.ret (a:=!xs.isEmpty) p r⟩
  have:=h2.length
  cases xs <;> cases vs <;> simp_all
 |ref i=>
  have p:Post X.K w rep Y H (match getL h i with | some xs=>.ok (!xs.isEmpty) h | none=>.bad):=p;cases e:getL h i with
  |none=>rw[e] at p;cases p
  |some xs=>
   rw[e] at p;obtain ⟨a,vs,rfl,h1,h2⟩:=r.seen e hv;refine⟨!xs.isEmpty,.inl ⟨vs,h1,?_⟩,Post.ret (a:=!xs.isEmpty) p r⟩
   have:=h2.length
   cases xs <;> cases vs <;> simp_all
theorem qMb(he:PE X e (tD X.K W (den F c)))(hi:∀ whole,isTrue e X.env whole=(do let v <- whole;standAt e.pos;holding [v] (truthy v))) :
  PT X e (tDT X.K W (qJ F (.val c))):=PT.imp (L2.pt_truth he hi) fun U H Q t=>by
 obtain ⟨Y,env,h,s,r,p⟩:=t;dsimp only[qJ] at p
 exact⟨Y,env,h,s,r,Post.bind p fun Y1 h1 d H1 e1 r1 q v hv=>TruV.of r1 hv q⟩
def yU:Bi->Bool
 | .eq | .ne | .lt | .le | .gt | .ge | .isin | .notin=>true
 |_=>false
theorem qMA(q:kW k y h=.ok r h'):∃ b,r=.bl b:=by
 unfold kW at q;split at q
 ·cases q;exact⟨_,rfl⟩
 ·cases q
theorem qL9(q:kE k y h=.ok r h'):∃ b,r=.bl b:=by
 unfold kE at q;split at q
 ·cases q;exact⟨_,rfl⟩
 ·cases q
theorem qDB(hc:yU o=true)(q:biD o d e h=.ok r h'):∃ k,r=.bl k:=by
  cases o with
  |eq=>
    have q:(match kL h d e with | some b=>R.ok (D.bl b) h | none=>.bad)=.ok r h':=q;split at q <;> cases q
    exact⟨_,rfl⟩
  |ne=>
    have q:(match kL h d e with | some b=>R.ok (D.bl (!b)) h | none=>.bad)=.ok r h':=q;split at q <;> cases q
    exact⟨_,rfl⟩
  |lt=>cases d <;> first | cases q | (cases e <;> first | (cases q;exact⟨_,rfl⟩) | cases q)
  |le=>cases d <;> first | cases q | (cases e <;> first | (cases q;exact⟨_,rfl⟩) | cases q)
  |gt=>cases d <;> first | cases q | (cases e <;> first | (cases q;exact⟨_,rfl⟩) | cases q)
  |ge=>cases d <;> first | cases q | (cases e <;> first | (cases q;exact⟨_,rfl⟩) | cases q)
  |isin=>
    cases d <;> first | cases q | cases e <;> first
      | (rename_i x y
         have q:(match bZ x y with | some b=>R.ok (D.bl b) h | none=>.bad)=.ok r h':=q;split at q <;> cases q
         exact⟨_,rfl⟩)
      | (rename_i x y
         have q:(match (getL h y).bind zX with | some xs=>R.ok (D.bl (xs.contains x)) h | none=>kW y (.int x) h)=.ok r h':=q;split at q
         . cases q;exact⟨_,rfl⟩
         . exact qMA q)
      |cases q
  |notin=>
    cases d <;> first | cases q | cases e <;> first
      | (rename_i x y
         have q:(match bZ x y with | some b=>R.ok (D.bl (!b)) h | none=>.bad)=.ok r h':=q;split at q <;> cases q
         exact⟨_,rfl⟩)
      | (rename_i x y
         have q:(match (getL h y).bind zX with | some xs=>R.ok (D.bl (!xs.contains x)) h | none=>kE y (.int x) h)=.ok r h':=q;split at q
         . cases q;exact⟨_,rfl⟩
         . exact qL9 q)
      |cases q
  |_=>cases hc
theorem Post.cmp{K:PySem.W.Frag}{Q:Bool->Hp->Prop}(hc:yU o=true)(p:Post K w (fun _ H' b=>Q b H') Y H (M.bind (biD o d e) wL h)) :
  PostV K w (fun x H'=>∃ k,x=.bl k/\Q k H') Y H (biD o d e h):=by
 unfold M.bind at p;cases q:biD o d e h with
 |ok r h'=>rw[q] at p;obtain ⟨k,rfl⟩:=qDB hc q;exact fun Y' H' e' r' v hv=>⟨k,hv,p Y' H' e' r'⟩
 |exc c h'=>rw[q] at p;exact p
 |bad=>rw[q] at p;exact p
theorem qNa(ho:OpR X (compareOp op) (rB X.K o))(ha:PE X a (tD X.K W (den F ca)))(hb:PE X b (tD X.K W (den F cb)))(hm:behindInMarks op b=false) :
  PE X (.Compare a [op] [b] pos) (tD X.K W (den F (.bi o ca cb))):=PE.imp (L2.pe_cmpR ho ha hb hm) fun _ _ _ t=>two t
theorem kS{α β γ:Type}(m:M α)(f:α->M β)(g:β->M γ):M.bind (M.bind m f) g=M.bind m fun x=>M.bind (f x) g:=by
 funext h;unfold M.bind;cases m h <;> rfl
theorem qMf(hc:yU o=true)(ho:OpR X (compareOp op) (rB X.K o))(ha:PE X a (tD X.K W (den F ca)))(hb:PE X b (tD X.K W (den F cb)))(hm:behindInMarks op b=false) :
  PT X (.Compare a [op] [b] pos) (tDT X.K W (qJ F (.val (.bi o ca cb)))):=PT.imp (L2.pt_cmpR ho ha hb hm) fun U H Q t=>by
 obtain ⟨Y,env,h,s,r,p⟩:=t;dsimp only[qJ,den] at p;rw[kS] at p;refine⟨Y,env,h,s,r,Post.bind p fun Y1 h1 d H1 e1 r1 q v hv=>⟨Y1,env,h1,s.mono e1,r1,?_⟩⟩;have q:Post X.K (W.at U) (fun _ H' b=>Q b H') Y1 H1 (M.bind (M.bind (den F cb env) fun y=>biD o d y) wL h1):=q;rw[kS] at q;exact Post.bind q fun Y2 h2 d2 H2 e2 r2 q2 w hw=>⟨_,Y2,h2,d,d2,r2,hv.mono e2 _ _,hw,Post.cmp hc q2⟩
theorem qDF(t:tD X.K W (den F (.chain o o' ca cb cc)) U H Q):L2.tChain (rB X.K o) (rB X.K o') (tD X.K W (den F ca)) (tD X.K W (den F cb)) (tD X.K W (den F cc)) U H Q:=by
 obtain ⟨Y,env,h,s,r,p⟩:=t;dsimp only[den] at p;refine⟨Y,env,h,s,r,Post.bind p fun Y1 h1 d H1 e1 r1 q v hv=>⟨Y1,env,h1,s.mono e1,r1,Post.bind q fun Y2 h2 d2 H2 e2 r2 q2 w hw=>⟨_,Y2,h2,d,d2,r2,hv.mono e2 _ _,hw,Post.bind q2 fun Y3 h3 z H3 e3 r3 q3 zv hz=>?_⟩⟩⟩;cases z with
 |bl k=>
  cases hz;cases k with
  |true=>exact⟨true,rfl,L2.iteT ⟨Y3,env,h3,((s.mono e1).mono e2).mono e3,r3,Post.bind q3 fun Y4 h4 d4 H4 e4 r4 q4 x hx=>⟨_,Y4,h4,d2,d4,r4,(hw.mono e3 _ _).mono e4 _ _,hx,q4⟩⟩⟩
  |false=>exact⟨false,rfl,L2.iteF (Post.ret q3 r3 _ rfl)⟩
 |_=>cases q3
theorem qNb(ho:OpR X (compareOp op) (rB X.K o))(ho':OpR X (compareOp op') (rB X.K o'))(ha:PE X a (tD X.K W (den F ca)))(hb:PE X b (tD X.K W (den F cb)))(hc:PE X c (tD X.K W (den F cc)))
  (hm:lastMarks [op,op'] [b,c]=false):PE X (.Compare a [op,op'] [b,c] pos) (tD X.K W (den F (.chain o o' ca cb cc))):=PE.imp (L2.pe_chain ho ho' ha hb hc hm) fun U H Q t=>qDF t
theorem eN(hb:∀ env h d h',den F ce env h=.ok d h'->∃ k,d=.bl k)(t:tDT X.K W (qJ F (.val ce)) U H Q):tD X.K W (den F ce) U H (fun x H'=>∃ k,x=.bl k/\Q k H'):=by
 obtain ⟨Y,env,h,s,r,p⟩:=t;dsimp only[qJ] at p;refine⟨Y,env,h,s,r,?_⟩;unfold M.bind at p;cases q:den F ce env h with
 |ok d h'=>rw[q] at p;obtain ⟨k,rfl⟩:=hb _ _ _ _ q;exact fun Y' H' e' r' v hv=>⟨k,hv,p Y' H' e' r'⟩
 |exc c h'=>rw[q] at p;exact p
 |bad=>rw[q] at p;exact p
theorem bind_ok{α β:Type}{m:M α}{f:α->M β}{b:β}(e:M.bind m f h=.ok b h'):∃ a h1,m h=.ok a h1/\f a h1=.ok b h':=by
 unfold M.bind at e;cases q:m h with
 |ok a h1=>rw[q] at e;exact⟨a,h1,rfl,e⟩
 |exc _ _=>rw[q] at e;cases e
 |bad=>rw[q] at e;cases e
theorem qNy(h2:yU o'=true)(env:Env)(h:AH)(d:D)(h':AH)(e:den F (.chain o o' ca cb cc) env h=.ok d h'):∃ k,d=.bl k:=by
 dsimp only[den] at e;obtain ⟨x,g1,_,e⟩:=bind_ok e;obtain ⟨y,g2,_,e⟩:=bind_ok e;obtain ⟨z,g3,_,e⟩:=bind_ok e;cases z with
 |bl k=>
  cases k with
  |true=>obtain ⟨w,g4,_,e⟩:=bind_ok e;exact qDB h2 e
  |false=>cases e;exact⟨_,rfl⟩
 |_=>cases e
theorem qMg(h2:yU o'=true)(ho:OpR X (compareOp op) (rB X.K o))(ho':OpR X (compareOp op') (rB X.K o'))(ha:PE X a (tD X.K W (den F ca)))(hb:PE X b (tD X.K W (den F cb)))(hc:PE X c (tD X.K W (den F cc)))
  (hm:lastMarks [op,op'] [b,c]=false):PT X (.Compare a [op,op'] [b,c] pos) (tDT X.K W (qJ F (.val (.chain o o' ca cb cc)))):=PT.imp (L2.pt_chain ho ho' ha hb hc hm) fun U H Q t=>qDF (eN (qNy h2) t)
theorem qNI(ha:PE X a (tD X.K W (den F ca))):PE X (.UnaryOp .Not a pos) (tD X.K W (den F (.not ca))):=by
 intro pins s U H Q I t;refine UnaryOp_ (L2.thn (ha pins s U H (fun x H1=>∃ k,L2.TruV X.K x H1 k/\Q (.bl (!k)) H1) I ?_) fun v s1 ⟨x,H1,I1,r1,k,hk,q1⟩=>?_)
 ·obtain ⟨Y,env,h,s',r,p⟩:=t;dsimp only[den] at p;refine⟨Y,env,h,s',r,Post.bind (rep':=fun Y' H' d=>∀ v,RepV X.K Y' H' d v->∃ k,L2.TruV X.K v H' k/\Q (.bl (!k)) H') (by rw[kS] at p;exact p) fun Y1 h1 d H1 e1 r1 q v hv=>?_⟩;exact TruV.of (rep:=fun Y' H' k=>Q (.bl (!k)) H') r1 hv (Post.bind q fun Y2 h2 k H2 e2 r2 q2=>Post.ret q2 r2 _ rfl)
 ·exact not_of (L2.thn (L2.tru_ok pins s1 U H1 x v (fun k H'=>Q (.bl (!k)) H') I1 r1 ⟨k,hk,q1⟩) fun c s2 ⟨H2,I2,q2⟩=>⟨.bl (!c),H2,I2,rfl,q2⟩)
theorem qNR(hc:PT X c (tDT X.K W (qJ F cc)))(ha:PE X a (tD X.K W (den F ca)))(hb:PE X b (tD X.K W (den F cb))):PE X (.IfExp c a b pos) (tD X.K W (den F (.ite cc ca cb))):=PE.imp (L2.pe_ifExp hc ha hb) fun U H Q t=>by
 obtain ⟨Y,env,h,s,r,p⟩:=t;dsimp only[den] at p;refine⟨Y,env,h,s,r,Post.bind p fun Y1 h1 k H1 e1 r1 q=>?_⟩;cases k with
 |true=>exact L2.iteT ⟨Y1,env,h1,s.mono e1,r1,q⟩
 |false=>exact L2.iteF ⟨Y1,env,h1,s.mono e1,r1,q⟩
theorem qM9(h:PA X es (tDL X.K W (zA F cl))):PE X (.Tuple es k pos) (tD X.K W (den F (.tup cl))):=PE.imp (L2.pe_tup h) fun U H Q t=>by
 obtain ⟨Y,env,h,s,r,p⟩:=t;dsimp only[den] at p;refine⟨Y,env,h,s,r,Post.bind p fun Y1 h1 ds H1 e1 r1 q vs hvs=>?_⟩;obtain ⟨hc,q⟩:=Post.when q
 exact⟨by rw[hvs.length,zF];exact hc,PostV.newT q r1 hvs⟩
theorem qNO(h:PA X es (tDL X.K W (zA F cl))):PE X (.List es pos) (tD X.K W (den F (.lst cl))):=PE.imp (L2.pe_lst h) fun U H Q t=>by
 obtain ⟨Y,env,h,s,r,p⟩:=t;dsimp only[den] at p
 exact⟨Y,env,h,s,r,Post.bind p fun Y1 h1 ds H1 e1 r1 q vs hvs=>PostV.newL q r1 hvs⟩
def spD(K:PySem.W.Frag)(m:List D->M D):L2.Sp:=fun vs H Q E=>∃ Y h ds,RepH K Y h H/\RepL K Y H ds vs/\PostV K (fun c H'=>∀ e,E e (some c) H') Q Y H (m ds h)
theorem cM{a:Expr}{ca:CE}{o:Un}{e:Expr}{r:List V->Hp->VK->Prop}(he:PE X e (L2.tCB r (L2.tCons (tD X.K W (den F ca)) L2.tNil)))(hr:∀ x H Q,rU X.K o x H Q->r [x] H Q):PE X e (tD X.K W (den F (.un o ca))):=PE.imp he fun U H Q t=>by
 obtain ⟨Y,env,h,s,r',p⟩:=one t
 exact⟨Y,env,h,s,r',Post.imp p fun Y' H' d q v hv=>hr v H' Q (q v hv)⟩
theorem qNc(he:PE X e (L2.tCB r (L2.tCons (tD X.K W (den F ca)) (L2.tCons (tD X.K W (den F cb)) L2.tNil))))(hr:∀ x y H Q,rB X.K o x y H Q->r [x,y] H Q):PE X e (tD X.K W (den F (.bi o ca cb))):=PE.imp he fun U H Q t=>by
 obtain ⟨Y,env,h,s,r',p⟩:=two t;refine⟨Y,env,h,s,r',Post.imp p fun Y' H' d q v hv=>?_⟩;obtain ⟨Y1,env1,h1,s1,r1,p1⟩:=q v hv
 exact⟨Y1,env1,h1,s1,r1,Post.imp p1 fun Y2 H2 d2 q2 w hw=>hr v w H2 Q (q2 w hw)⟩
end
theorem kyV_inj:kyV a=kyV b↔a=b:=by
 constructor
 ·intro h;cases a with
  |int i=>cases b with
   |int j=>cases h;rfl
   |str y=>cases h
  |str x=>cases b with
   |int j=>cases h
   |str y=>
    have h:(Sum.inr (⟨x.toArray⟩:Str):L2.Key)=Sum.inr ⟨y.toArray⟩:=h;have h2:=congrArg Str.cps (Sum.inr.inj h);have h3:x=y:=by simpa using congrArg Array.toList h2
    rw[h3]
 ·rintro rfl;rfl
section
variable {K:PySem.W.Frag}{Y:List Addr}{H:Hp}
theorem RepK.val(k:Ky):∀ {kvs:List (Ky × D)} {vs:List (L2.Key × V)},RepK K Y H kvs vs->(∃ d v,qH kvs k=some d/\L2.valV vs (kyV k)=some v/\RepV K Y H d v)\/(qH kvs k=none/\L2.valV vs (kyV k)=none)
 | [],_,h=>by cases h;exact .inr ⟨rfl,rfl⟩
 |x::kvs,_,⟨v,r,rfl,h1,h2⟩=>by
  by_cases e:x.1=k
  ·refine .inl ⟨x.2,v,?_,L2.valV_pos (kyV_inj.mpr e),h1⟩;unfold qH;rw[List.find?_cons_of_pos (by simpa using e)];rfl
  ·have e2:qH (x::kvs) k=qH kvs k:=by unfold qH;rw[List.find?_cons_of_neg (by simpa using e)]
   rw[e2,L2.valV_neg (fun z=>e (kyV_inj.mp z))];exact RepK.val k h2
theorem RepK.any(k:Ky):∀ {kvs:List (Ky × D)} {vs:List (L2.Key × V)},RepK K Y H kvs vs->(kvs.any fun kv=>decide (kv.1=k))=(vs.any fun kv=>decide (kv.1=kyV k))
 | [],_,h=>by cases h;rfl
 |x::kvs,_,⟨v,r,rfl,h1,h2⟩=>by
  rw[List.any_cons,List.any_cons,RepK.any k h2];congr 1;exact decide_eq_decide.mpr kyV_inj.symm
theorem RepK.length:∀ {kvs:List (Ky × D)} {vs:List (L2.Key × V)},RepK K Y H kvs vs->kvs.length=vs.length
 | [],_,h=>by cases h;rfl
 |x::kvs,_,⟨v,r,rfl,h1,h2⟩=>by rw[List.length_cons,List.length_cons,RepK.length h2]
theorem RepK.repl(k:Ky)(hv:RepV K Y H d v):∀ {kvs:List (Ky × D)} {vs:List (L2.Key × V)},RepK K Y H kvs vs->RepK K Y H (kvs.map fun kv=>if kv.1=k then (kv.1,d) else kv) (vs.map fun kv=>if kv.1=kyV k then (kv.1,v) else kv)
 | [],_,h=>by cases h;rfl
 |x::kvs,_,⟨u,r,rfl,h1,h2⟩=>by
  rw[List.map_cons,List.map_cons]
  by_cases e:x.1=k
  ·rw[if_pos e,if_pos (kyV_inj.mpr e)]
   exact⟨v,_,rfl,hv,RepK.repl k hv h2⟩
  ·rw[if_neg e,if_neg (fun z=>e (kyV_inj.mp z))]
   exact⟨u,_,rfl,h1,RepK.repl k hv h2⟩
theorem RepK.snoc(k:Ky)(hv:RepV K Y H d v):∀ {kvs:List (Ky × D)} {vs:List (L2.Key × V)},RepK K Y H kvs vs->RepK K Y H (kvs++[(k,d)]) (vs++[(kyV k,v)])
 | [],_,h=>by cases h;exact⟨v,[],rfl,hv,rfl⟩
 |x::kvs,_,⟨u,r,rfl,h1,h2⟩=>⟨u,r++[(kyV k,v)],rfl,h1,RepK.snoc k hv h2⟩
theorem RepK.put(k:Ky)(hv:RepV K Y H d v)(h:RepK K Y H kvs vs):RepK K Y H (zE kvs k d) (L2.putK vs (kyV k) v):=by
 unfold zE L2.putK;rw[h.any k];split
 ·exact h.repl k hv
 ·exact h.snoc k hv
theorem RepK.merge:∀ {more:List (Ky × D)} {ms:List (L2.Key × V)} {kvs:List (Ky × D)} {vs:List (L2.Key × V)},RepK K Y H more ms->RepK K Y H kvs vs->RepK K Y H (zI kvs more) (L2.mergeK vs ms)
 | [],_,_,_,h,h0=>by cases h;exact h0
 |x::more,_,kvs,vs,⟨v,r,rfl,h1,h2⟩,h0=>RepK.merge (more:=more) (ms:=r) h2 (h0.put x.1 h1)
theorem RepH.dict(r:RepH K Y h H)(e:h[i]?=some (.dct kvs))(hv:RepV K Y H (.ref i) v):∃ a vs,v=.ref a/\Y[i]?=some a/\H a=some (.dK vs)/\RepK K Y H kvs vs:=by
 obtain ⟨a,h1,h2⟩:=hv;obtain ⟨b,h3,vs,h4,h5⟩:=r.obj i _ e;rw[h1] at h3;cases h3
 exact⟨a,vs,h2,h1,h4,h5⟩
theorem RepH.setDict(r:RepH K Y h H)(hk:h[k]?=some (.dct xs))(hr:Y[k]?=some p)(hp:H p=some (.dK us))(hx:RepK K Y H ys vs) :
  RepH K Y (h.set k (.dct ys)) (upd H p (.dK vs)):=r.setO hk rfl rfl hr hp rfl ⟨vs,qI,RepK.mono (Step.turn hp rfl (List.mem_of_getElem? hr)) _ _ hx⟩
end
section
variable {X:Cx}{pins:List (Addr × Obj)}{U:L2.St}{H:Hp}{s:Shared}{a:Addr}{vs:List (L2.Key × V)}{k:L2.Key}{v:V}{u:Value}{A:Around}{E:Value->Shared->Prop}
theorem qMv(I:Inv X pins U H s)(e:Rd H a (.dK vs))(l:L2.valV vs k=some v)(ry:RelV (L2.kV k) u)(h:∀ w' s',Inv X pins U H s'->RelV v w'->Q w' s'):wpAny (model X.prog X.w) A (getItem (.ref a) u) Q E s:=by
 obtain ⟨z,hd,ws,rel,dd⟩:=L2.dk_rd I.hok e;obtain ⟨w',hw,rw'⟩:=L2.RelO.some_of (v:=v) (o:=valueAt ws k) (by rw[<- l];exact rel.val k);exact wpAny_getItem_of (L2.kV_is ry) dd.mapOf hw (h w' _ (I.tok _) rw')
theorem qMu(I:Inv X pins U H s)(e:H a=some (.dK vs))(ry:RelV (L2.kV k) u)(h:∀ s',Inv X pins U H s'->Q (.bool (L2.valV vs k).isSome) s'):wpAny (model X.prog X.w) A (compareOp .In u (.ref a)) Q E s:=by
 obtain ⟨z,hd,ws,rel,dd⟩:=L2.dk_rd I.hok (.inl e);refine wpAny_in_of (L2.kV_is ry) hd dd.mapOf ?_;rw[<- (rel.val k).isSome_eq];exact h _ (I.tok _)
theorem qMs(I:Inv X pins U H s)(e:H a=some (.dK vs))(ry:RelV (L2.kV k) u)(h:∀ s',Inv X pins U H s'->Q (.bool (!(L2.valV vs k).isSome)) s'):wpAny (model X.prog X.w) A (compareOp .NotIn u (.ref a)) Q E s:=by
 obtain ⟨z,hd,ws,rel,dd⟩:=L2.dk_rd I.hok (.inl e);refine wpAny_notIn_of (L2.kV_is ry) hd dd.mapOf ?_;rw[<- (rel.val k).isSome_eq];exact h _ (I.tok _)
theorem qMt (I:Inv X pins U H s) (e:H a=some (.dK vs)) (h:∀ t s',Inv X pins U H s'->Q (.int vs.length t) s'):wpAny (model X.prog X.w) A (call (.builtin "len") [.ref a]) Q E s:=by
 obtain ⟨z,hd,ws,rel,dd⟩:=L2.dk_rd I.hok (.inl e);refine call_len_dict hd dd (by rw[<- rel.length];rw[sizeLine_eq] at z;lia) ?_;rw[<- rel.length];exact h _ _ (I.tok _)
theorem qMr(I:Inv X pins U H s)(e:H a=some (.dK vs))(hl0:vs.length<sizeLine)(ry:RelV (L2.kV k) u)(rv:RelV v r)(h:∀ s',Inv X pins U (upd H a (.dK (L2.putK vs k v))) s'->Q () s'):wpAny (model X.prog X.w) A (setItem (.ref a) u r) Q E s:=by
 obtain ⟨z,hd,ws,rel,dd⟩:=L2.dk_of I.hok e;have hz:ws.length<=sizeLine:=by rw[<- rel.length];exact z
 have hl:(L2.putK vs k v).length<=sizeLine:=by have:=L2.length_putK vs k v;lia
 refine wpAny_setItem_pairs (hsz:=hz) (L2.kV_is ry) dd fun h' dd' hs=>h _ ?_;have he:∃ q,h'.get? a=some q:=let ⟨q,_,_,hq,_⟩:=dd';⟨q,hq⟩;exact L2.d_write I (by rw[e];exact True.intro) hs he (L2.dk_new hl hd (rel.put k rv) dd')
theorem qMp (I:Inv X pins U H s) (e:Rd H a (.dK vs)):s.TypeIs (.ref a) "dict":=by
 obtain ⟨_,_,_,_,dd⟩:=L2.dk_rd I.hok e;exact dd.typeIs
theorem qMq (hT:s.TypeIs (.ref a) "dict") (hs:subscripted slice false (.ref a) u=operate [.ref a,u] (getItem (.ref a) u)) (h₂:wpAny (model X.prog X.w) A (getItem (.ref a) u) Q E s):wpAny (model X.prog X.w) A (subscriptTail value slice (.ref a) u) Q E s:=by
 unfold subscriptTail;refine wpAny_bind ?_;rw[getitemInPython_of_ne hT.not_modules];refine wpAny_bind (wpAny_specialOf hT PySem.F.slot_dict_getitem.lookup ?_)
 have fin:wpAny (model X.prog X.w) A (subscripted slice false (.ref a) u) (fun r s₃=>wpAny (model X.prog X.w) A (letTemporaryGo value (.ref a) r >>= fun _=>pure r) Q E s₃) E s:=by
  rw[hs];exact wpAny_operating (wpAny_mono h₂ (fun r s₃ h₃=>wpAny_bind (wpAny_letTemporaryGo (wpAny_pure h₃))) fun _ _ x=>x)
 first
  |exact wpAny_pure (wpAny_bind fin)
  |exact wpAny_bind (wpAny_pure (wpAny_bind fin))
  |exact wpAny_bind fin
end
section
variable {X:Cx}{F:Nat->List D->M D}{W:WX}
theorem bQ{K:PySem.W.Frag}(h:RepV K Y H (kyD k) x):x=L2.kV (kyV k):=by
 cases k with
 |int i=>cases h;rfl
 |str y=>cases h;rfl
theorem qCA(I:Inv X pins U H s)(r:RepH X.K Y h H)(hd:RepV X.K Y H (.ref k) x)(he:RepV X.K Y H (kyD ky) y)(rx:RelV x v)(ry:RelV y u)
  (p:PostV X.K w Q Y H (ixK k ky h)) (hs:subscripted slice false v u=operate [v,u] (getItem v u)):wpAny (model X.prog X.w) X.A (subscriptTail value slice v u) (EP X pins U Q) X.xe s:=by
 have go:∀ {kvs:List (Ky × D)} {a:Addr} {vs:List (L2.Key × V)},x=.ref a->Rd H a (.dK vs)->RepK X.K Y H kvs vs->PostV X.K w Q Y H (match qH kvs ky with | some d=>.ok d h | none=>.bad)->wpAny (model X.prog X.w) X.A (subscriptTail value slice v u) (EP X pins U Q) X.xe s:=fun {kvs a vs} ea hH hk p=>by
  subst ea;cases rx;have hy:=bQ he;subst hy;rcases hk.val ky with⟨d,v',e1,e2,hv⟩ | ⟨e1,_⟩
  ·rw[e1] at p;exact qMq (qMp I hH) hs (qMv I hH e2 ry fun w' s' I' rw'=>⟨v',H,I',rw',PostV.now p r hv⟩)
  ·rw[e1] at p;cases p
 have p:PostV X.K w Q Y H (match h[k]? with | some (.dct kvs)=>(match qH kvs ky with | some d=>.ok d h | none=>.bad) | some (.rod kvs)=>(match qH kvs ky with | some d=>.ok d h | none=>.bad) | _=>.bad):=p;obtain ⟨a,h1,h2⟩:=hd;split at p
 ·rename_i kvs q;obtain ⟨b,h3,vs,h4,h5⟩:=r.obj k _ q;rw[h1] at h3;cases h3;exact go h2 (.inl h4) h5 p
 ·rename_i kvs q;obtain ⟨b,h3,ob,vs,h4,h5⟩:=r.obj k _ q;rw[h1] at h3;cases h3;exact go h2 (.inr ⟨ob,h4⟩) h5 p
 ·cases p
theorem qLH(I:Inv X pins U H s)(r:RepH X.K Y h H)(hd:RepV X.K Y H (kyD ky) x)(he:RepV X.K Y H (.ref k) y)(rx:RelV x v)(ry:RelV y u)
  (p:PostV X.K w Q Y H (kW k ky h)):wpAny (model X.prog X.w) X.A (compareOp .In v u) (EP X pins U Q) X.xe s:=by
 have p:PostV X.K w Q Y H (match h[k]? with | some (.dct kvs)=>.ok (.bl (qH kvs ky).isSome) h | _=>.bad):=p;split at p
 ·rename_i kvs q;obtain ⟨a,vs,rfl,ha,hH,hk⟩:=r.dict q he;cases ry;have hy:=bQ hd;subst hy;refine qMu I hH rx fun s' I'=>⟨.bl (L2.valV vs (kyV ky)).isSome,H,I',rfl,?_⟩
  have e:(L2.valV vs (kyV ky)).isSome=(qH kvs ky).isSome:=by
   rcases hk.val ky with⟨d,v',e1,e2,hv⟩ | ⟨e1,e2⟩
   ·rw[e1,e2];rfl
   ·rw[e1,e2];rfl
  rw[e];exact PostV.now p r rfl
 ·cases p
theorem qIL(I:Inv X pins U H s)(r:RepH X.K Y h H)(hd:RepV X.K Y H (kyD ky) x)(he:RepV X.K Y H (.ref k) y)(rx:RelV x v)(ry:RelV y u)
  (p:PostV X.K w Q Y H (kE k ky h)):wpAny (model X.prog X.w) X.A (compareOp .NotIn v u) (EP X pins U Q) X.xe s:=by
 have p:PostV X.K w Q Y H (match h[k]? with | some (.dct kvs)=>.ok (.bl (!(qH kvs ky).isSome)) h | _=>.bad):=p;split at p
 ·rename_i kvs q;obtain ⟨a,vs,rfl,ha,hH,hk⟩:=r.dict q he;cases ry;have hy:=bQ hd;subst hy;refine qMs I hH rx fun s' I'=>⟨.bl (!(L2.valV vs (kyV ky)).isSome),H,I',rfl,?_⟩
  have e:(L2.valV vs (kyV ky)).isSome=(qH kvs ky).isSome:=by
   rcases hk.val ky with⟨d,v',e1,e2,hv⟩ | ⟨e1,e2⟩
   ·rw[e1,e2];rfl
   ·rw[e1,e2];rfl
  rw[e];exact PostV.now p r rfl
 ·cases p
theorem qKL(I:Inv X pins U H s)(r:RepH X.K Y h H)(he:RepV X.K Y H (.ref k) y)(ry:RelV y u)
  (p:PostV X.K w Q Y H (bP k h)):wpAny (model X.prog X.w) X.A (call (.builtin "len") [u]) (EP X pins U Q) X.xe s:=by
 have p:PostV X.K w Q Y H (match h[k]? with | some (.dct kvs)=>.ok (.int kvs.length) h | _=>.bad):=p;split at p
 ·rename_i kvs q;obtain ⟨a,vs,rfl,ha,hH,hk⟩:=r.dict q he;cases ry;refine qMt I hH fun t s' I'=>⟨.int vs.length,H,I',⟨t,rfl⟩,?_⟩;rw[<- hk.length];exact PostV.now p r rfl
 ·cases p
end
def cT:CL->Nat
 | .nil=>0
 | .cons _ l=>cT l+1
section
variable {X:Cx}{F:Nat->List D->M D}{W:WX}
def trs(X:Cx)(F:Nat->List D->M D)(W:WX):List Ky->CL->List (TE × TE)
 |k::ks,.cons e l=>(L2.tC (L2.kV (kyV k)),tD X.K W (den F e))::trs X F W ks l
 |_,_=>[]
theorem pairs_of:∀ {ks:List Ky} {es:CL} {U:L2.St} {H:Hp} {env:Env} {Y:List Addr} {h:AH} {Q:List (V × V)->Hp->Prop},cT es=ks.length->RepS X.K Y H env U->RepH X.K Y h H ->
  Post X.K (W.at U) (fun Y' H' ds=>∀ vs,RepL X.K Y' H' ds vs->Q (((ks.map kyV).zip vs).map fun kv=>(L2.kV kv.1,kv.2)) H') Y H (zA F es env h)->L2.tPairs (trs X F W ks es) U H Q
 | [],.nil,U,H,env,Y,h,Q,_,s,r,p=>by
  dsimp only[zA] at p;exact Post.ret p r [] rfl
 | [],.cons _ _,_,_,_,_,_,_,hl,_,_,_=>by cases hl
 |_::_,.nil,_,_,_,_,_,_,hl,_,_,_=>by cases hl
 |k::ks,.cons e l,U,H,env,Y,h,Q,hl,s,r,p=>by
  dsimp only[zA] at p;refine⟨Y,env,h,s,r,Post.bind p fun Y1 h1 d H1 e1 r1 q v hv=>?_⟩;refine pairs_of (ks:=ks) (es:=l) (Nat.succ.inj hl) (s.mono e1) r1 (Post.bind q fun Y2 h2 ds H2 e2 r2 q2=>?_);intro vs hvs;exact Post.ret q2 r2 (v::vs) ⟨v,vs,rfl,hv.mono e2 _ _,hvs⟩
theorem RepK.zip{K:PySem.W.Frag}:∀ {ks:List Ky} {ds:List D} {vs:List V},RepL K Y H ds vs->RepK K Y H (ks.zip ds) ((ks.map kyV).zip vs)
 | [],_,_,_=>by simp[RepK]
 |k::ks,[],_,h=>by cases h;simp[RepK]
 |k::ks,d::ds,_,⟨v,r,rfl,h1,h2⟩=>⟨v,_,rfl,h1,RepK.zip h2⟩
theorem qNZ(h:L2.PPs X pos keys values (trs X F W ks es))(hall:keys.all (·.isSome)=true)(hl:keys.length=values.length)(h15:keys.length<=15)(hk:cT es=ks.length)(h0:keys=[]->ks=[]/\es=.nil/\values=[]) :
  PE X (.Dict keys values pos) (tD X.K W (den F (.disp ks es))):=by
 have main:∀ (U:L2.St) (H:Hp) (Q:VK),tD X.K W (den F (.disp ks es)) U H Q->∀ p,H p=none->L2.tPairs (trs X F W ks es) U (upd H p (.dK [])) fun ps H2=>H2 p=some (.dK [])/\∃ kvs:List (L2.Key × V),ps=kvs.map (fun kv=>(L2.kV kv.1,kv.2))/\kvs.length<=15/\Q (.ref p) (upd H2 p (.dK (L2.mergeK [] kvs))):=by
  intro U H Q t p hp;obtain ⟨Y,env,h,s,r,q⟩:=t;dsimp only[den] at q;have st:Step Y H (Y++[p]) (upd H p (.dK [])):=Step.new1 hp;have r1:RepH X.K (Y++[p]) (h++[.dct []]) (upd H p (.dK [])):=r.newO hp ⟨[],qI,rfl⟩;have q1:PostV X.K (W.at U) Q (Y++[p]) (upd H p (.dK [])) (M.bind (zA F es env) (fun ds=>vJ ks ds h.length) (h++[.dct []])):=Post.mono q st;refine pairs_of hk (s.mono st) r1 (Post.bind q1 fun Y2 h2 ds H2 e2 r2 q2=>?_);intro vs hvs;have q2:PostV X.K (W.at U) Q Y2 H2 (match h2[h.length]? with | some (.dct [])=>(if ks.length=ds.length/\ks.length<=15 then .ok (.ref h.length) (h2.set h.length (.dct (zI [] (ks.zip ds)))) else .bad) | _=>.bad):=q2;have hpl:(Y++[p])[h.length]?=some p:=by rw[<- r.len,List.getElem?_append_right (Nat.le_refl _)];simp
  have hpl2:Y2[h.length]?=some p:=vE e2.pre hpl;split at q2
  ·rename_i z;obtain ⟨⟨c1,c2⟩,q2⟩:=PostV.ite q2;obtain ⟨a,us,ea,ha,hH,hu⟩:=r2.dict z (v:=.ref p) ⟨p,hpl2,rfl⟩;cases ea;cases hu;refine⟨hH,(ks.map kyV).zip vs,rfl,?_,?_⟩
   ·rw[List.length_zip,List.length_map];lia
   ·have stp:Step Y2 H2 Y2 (upd H2 p (.dK (L2.mergeK [] ((ks.map kyV).zip vs)))):=Step.turn hH rfl (List.mem_of_getElem? ha);exact q2 Y2 _ stp (r2.setDict z ha hH (RepK.merge (RepK.zip hvs) rfl)) (.ref p) ⟨p,hpl2,rfl⟩
  ·cases q2
 by_cases z:keys=[]
 ·obtain ⟨rfl,rfl,rfl⟩:=h0 z;subst z;refine PE.imp L2.pe_dnewK fun U H Q t p hp=>?_;obtain ⟨hH,kvs,e1,_,q⟩:=main U H Q t p hp;cases kvs with
  |cons a b=>cases e1
  |nil=>
   have:upd (upd H p (.dK [])) p (.dK (L2.mergeK [] []))=upd H p (.dK []):=L2.upd_upd
   rw[this] at q;exact q
 ·exact PE.imp (L2.pe_disp h hall hl z h15) fun U H Q t=>main U H Q t
end
open L2 (V Hp HO VK TE TT TA TS TI Cx Inv RelV Vals SqL SqT Rd upd qI qE PE PT PA PS PSs EP OpR qM IxR MtR SlR PO TO PI PG PIE Turn qT Ends)
def Its(z:Str):L2.It:=⟨fun i _=>i<z.cps.size,fun i H x H'=>H'=H/\∃ c,z.cps[i]?=some c/\x=.str ⟨#[c]⟩,fun i _=>i=z.cps.size⟩
theorem tX{P:Program}{w:World}{K:PySem.W.Frag}{tg:Expr}{z:Str}{t:Tok}{ty:String}(it:Addr)
  (hty:["enumerate","zip","dict_itemiterator","dict_reverseitemiterator","odict_iterator","itertools.zip_longest","itertools.pairwise"].contains ty=false)
  (W:∀ A':Around,A'.handled=none->Walks P w A' it [it] [it] z.cps.size (SignAt z) (fun i h=>h.IsStrIter it ty z t i))
  (W':∀ (A:Around) (i:Nat) (s:Shared) (Q:Value->Shared->Prop) (E:Value->Shared->Prop),s.heap.IsStrIter it ty z t i->Q (.ref it) s->wpAny (model P w) A (pyIter (.ref it)) Q E s) :
  Turn P w K tg (Its z) [it] it (fun i h=>h.IsStrIter it ty z t i) where
 mem:=by simp
 obj:=fun i h st b hb=>by
  have e:b=it:=by simpa using hb
  subst e;obtain ⟨o,e,c,d⟩:=st
  exact⟨o,e,fun v z=>by rw[d] at z;cases z⟩
 keep:=fun i h h' st k=>by
  obtain ⟨o,e,c,d⟩:=st
  exact⟨o,k it (by simp) o e,c,d⟩
 item:=by
  intro X hP hw hK hc i pins s U H E I hf st hg;subst hP hw hK;obtain ⟨f0,f1,f2,f3,f4,f5⟩:=hf it (by simp);refine (W X.A (I.ok.hd hc)).item i s _ E hg st fun v h' tk hv st' kp=>?_;obtain ⟨c,u,hcz,rfl⟩:=hv;have I1:Inv X pins U H { s with heap:=h',toks:=tk }:=I.turned (t':=tk) (fun b o hb e=>kp b o (by simpa using hb) e) f0 f1 f3 f4 f5;obtain ⟨o,e,cc,d⟩:=id st'
  exact⟨_,rfl,L2.go_of (s:={ s with heap:=h',toks:=tk }) e cc d hty ⟨.str ⟨#[c]⟩,H,I1,⟨u,rfl⟩,⟨rfl,c,hcz,rfl⟩,st',fun b hb=>(hf b hb).1⟩⟩
 done:=by
  intro X hP hw hK hc i pins s U H E I hf st hg;subst hP hw hK;obtain ⟨f0,f1,f2,f3,f4,f5⟩:=hf it (by simp);have hg:i=z.cps.size:=hg;subst hg;exact (W X.A (I.ok.hd hc)).done s _ E st fun h' tk kp=>⟨rfl,I.turned (t':=tk) (fun b o hb e=>kp b o (by simpa using hb) e) f0 f1 f3 f4 f5⟩
 self:=fun A i s Q E st h=>W' A i s Q E st h
section
variable {X:Cx}{tg:Expr}
def qLy(K:PySem.W.Frag)(tl:TE):TI:=fun U H R=>tl U H fun x H1=>
 (∃ a,x=.ref a/\(∃ xs,SqL K H1 a xs)/\R (L2.Itl K a) H1)\/(∃ a,x=.ref a/\(∃ xs,SqT K H1 a xs)/\R (L2.Itt K a) H1)\/∃ z,x=.str z/\R (Its z) H1
theorem qHN(hl:PE X l tl):PI X tg l (qLy X.K tl):=by
 intro pins s U H R I h;refine L2.thn (hl pins s U H _ I h) fun v s1 ⟨x,H1,I1,r1,q1⟩=>?_
 have one:∀ {h':Heap} {t':Nat} {b:Addr},b∈[s1.heap.objs.size]->qT X pins H1 b:=fun hb=>by
  have e:=List.mem_singleton.mp hb;subst e;exact I1.fpOk (Nat.le_refl _) (I1.hok.fresh (Nat.le_refl _))
 rcases q1 with⟨a,e,⟨xs,hq⟩,q⟩ | ⟨a,e,⟨xs,hq⟩,q⟩ | ⟨z,e,q⟩
 ·subst e;cases r1;obtain ⟨its,rv,p,hz⟩:=I1.list hq;refine wpAny_pyIter_list p.isList ?_
  exact⟨s1.heap.objs.size,[s1.heap.objs.size],_,_,H1,rfl,I1.kept (t':=s1.toks) fun b o e=>Heap.get?_push_of_some _ e,L2.turn_list a _,⟨_,Heap.get?_push_size _ rfl,rfl,rfl⟩,fun b hb=>one (h':=s1.heap) (t':=0) hb,q⟩
 ·subst e;cases r1;obtain ⟨its,rv,p,hz⟩:=I1.tuple hq;refine wpAny_pyIter_tuple (show s1.heap.IsTuple a its.toArray from p) ?_
  exact⟨s1.heap.objs.size,[s1.heap.objs.size],_,_,H1,rfl,I1.kept (t':=s1.toks) fun b o e=>Heap.get?_push_of_some _ e,L2.turn_tuple a _,⟨_,Heap.get?_push_size _ rfl,rfl,rfl⟩,fun b hb=>one (h':=s1.heap) (t':=0) hb,q⟩
 ·subst e;obtain ⟨t,rfl⟩:=r1;cases ha:z.cps.all (·<128)
  ·refine wpAny_pyIter_wide ha ?_
   exact⟨s1.heap.objs.size,[s1.heap.objs.size],_,_,H1,rfl,I1.kept (t':=s1.toks) fun b o e=>Heap.get?_push_of_some _ e,tX (t:=t) _ (by decide) (fun A' hA=>Walks.strWide hA _ z t) (fun A i s Q E st h=>wpAny_pyIter_striter_wide st h),⟨_,Heap.get?_push_size _ rfl,rfl,rfl⟩,fun b hb=>one (h':=s1.heap) (t':=0) hb,q⟩
  ·refine wpAny_pyIter_ascii ha ?_
   exact⟨s1.heap.objs.size,[s1.heap.objs.size],_,_,H1,rfl,I1.kept (t':=s1.toks) fun b o e=>Heap.get?_push_of_some _ e,tX (t:=t) _ (by decide) (fun A' hA=>Walks.strAscii hA _ z t) (fun A i s Q E st h=>wpAny_pyIter_striter_ascii st h),⟨_,Heap.get?_push_size _ rfl,rfl,rfl⟩,fun b hb=>one (h':=s1.heap) (t':=0) hb,q⟩
end
def PostS(K:PySem.W.Frag)(W:WX)(D:Ends)(Y:List Addr)(H:Hp):SR->Prop
 | .nx e h=>∀ Y' H' st,Step Y H Y' H'->RepH K Y' h H'->RepS K Y' H' e st->D.nx st H'
 | .rt d h=>∀ Y' H' v,Step Y H Y' H'->RepH K Y' h H'->RepV K Y' H' d v->D.rt v H'
 | .bk e h=>∀ Y' H' st,Step Y H Y' H'->RepH K Y' h H'->RepS K Y' H' e st->D.bk st H'
 | .ct e h=>∀ Y' H' st,Step Y H Y' H'->RepH K Y' h H'->RepS K Y' H' e st->D.ct st H'
 | .exc c e h=>∀ Y' H' st,Step Y H Y' H'->RepH K Y' h H'->RepS K Y' H' e st->W c st H'
 | .bad=>False
theorem PostS.mono{K:PySem.W.Frag}{D:Ends}(p:PostS K W D Y H r)(e:Step Y H Y1 H1):PostS K W D Y1 H1 r:=by
 cases r with
 |nx _ _=>exact fun Y' H' st e'=>p Y' H' st (e.trans e')
 |rt _ _=>exact fun Y' H' st e'=>p Y' H' st (e.trans e')
 |bk _ _=>exact fun Y' H' st e'=>p Y' H' st (e.trans e')
 |ct _ _=>exact fun Y' H' st e'=>p Y' H' st (e.trans e')
 |exc _ _ _=>exact fun Y' H' st e'=>p Y' H' st (e.trans e')
 |bad=>exact p
abbrev WF:WX:=fun _ _ _=>False
def tDS(K:PySem.W.Frag)(W:WX)(m:Env->AH->SR):TS:=fun D U H=>∃ Y env h,RepS K Y H env U/\RepH K Y h H/\PostS K W D Y H (m env h)
theorem PostS.ofR{α:Type}{K:PySem.W.Frag}{D:Ends}{rep:List Addr->Hp->α->Prop}{r:R α}{f:α->AH->SR}(s:RepS K Y H env U)(p:PostS K W D Y H (SR.ofR env r f))
  (k:∀ Y' h' a H',Step Y H Y' H'->RepH K Y' h' H'->PostS K W D Y' H' (f a h')->rep Y' H' a):Post K (W.at U) rep Y H r:=by
 cases r with
 |ok a h=>exact fun Y' H' e r'=>k Y' h a H' e r' (PostS.mono p e)
 |exc c h=>exact fun Y' H' e r'=>p Y' H' U e r' (s.mono e)
 |bad=>exact p
section
variable {X:Cx}{F:Nat->List D->M D}{B:Nat}{W:WX}
theorem qGp:PSs X [] (tDS X.K W (qB F B .skip)):=PSs.imp L2.pss_nil fun D U H t=>by
 obtain ⟨Y,env,h,s,r,p⟩:=t;exact p Y H U (Step.refl Y H) r s
theorem qGu{st:Stmt}(h1:PS X st (tDS X.K W (qB F B a)))(h2:PSs X qG (tDS X.K W (qB F B b))):PSs X (st::qG) (tDS X.K W (qB F B (.seq a b))):=PSs.imp (L2.pss_cons h1 h2) fun D U H t=>by
 obtain ⟨Y,env,h,s,r,p⟩:=t;refine⟨Y,env,h,s,r,?_⟩;dsimp only[qB] at p;cases e:qB F B a env h with
 |nx e1 g1=>rw[e] at p;exact fun Y' H' st' e' r' s'=>⟨Y',e1,g1,s',r',PostS.mono p e'⟩
 |rt _ _=>rw[e] at p;exact p
 |bk _ _=>rw[e] at p;exact p
 |ct _ _=>rw[e] at p;exact p
 |exc _ _ _=>rw[e] at p;exact p
 |bad=>rw[e] at p;exact p
theorem qAW(hN:X.N.Nodup)(hi:X.N[i]?=some x)(hx:L2.Loc X.env.scope x)(he:PE X e (tD X.K W (den F c)))
  (hs:swapsWith e (some (.Name x pos')) pos.line X.env=pure false) (hf:X.fn x=true\/X.env.scope.names.lookup x=some .local):PS X (.Assign [.Name x pos'] e pos) (tDS X.K W (qB F B (.set (.nm i) c))):=PS.imp (L2.ps_set hN hi hx he hs hf) fun D U H t=>by
 obtain ⟨Y,env,h,s,r,p⟩:=t;dsimp only[qB] at p
 exact⟨Y,env,h,s,r,PostS.ofR s p fun Y' h' d H' e' r' q v hv=>q Y' H' _ (Step.refl _ _) r' ((s.mono e').set i hv)⟩
theorem qGt(he:PE X e (tD X.K W (den F c)))(hs:swapsWith e none pos.line X.env=pure false):PS X (.Expr e pos) (tDS X.K W (qB F B (.exp c))):=PS.imp (L2.ps_expr he hs) fun D U H t=>by
 obtain ⟨Y,env,h,s,r,p⟩:=t;dsimp only[qB] at p
 exact⟨Y,env,h,s,r,PostS.ofR s p fun Y' h' d H' e' r' q v hv=>q Y' H' _ (Step.refl _ _) r' (s.mono e')⟩
theorem qGj(he:PE X e (tD X.K W (den F c))):PS X (.Return (some e) pos) (tDS X.K W (qB F B (.ret c))):=PS.imp (L2.ps_ret he) fun D U H t=>by
 obtain ⟨Y,env,h,s,r,p⟩:=t;dsimp only[qB] at p
 exact⟨Y,env,h,s,r,PostS.ofR s p fun Y' h' d H' e' r' q v hv=>q Y' H' v (Step.refl _ _) r' hv⟩
theorem qGi:PS X (.Return none pos) (tDS X.K W (qB F B .retN)):=PS.imp L2.ps_retN fun D U H t=>by
 obtain ⟨Y,env,h,s,r,p⟩:=t;dsimp only[qB] at p;exact p Y H .non (Step.refl _ _) r rfl
theorem qGm:PS X (.Pass pos) (tDS X.K W (qB F B .skip)):=PS.imp L2.ps_pass fun D U H t=>by
 obtain ⟨Y,env,h,s,r,p⟩:=t;exact p Y H U (Step.refl Y H) r s
theorem qGw:PS X (.Break pos) (tDS X.K W (qB F B .brk)):=PS.imp L2.ps_break fun D U H t=>by
 obtain ⟨Y,env,h,s,r,p⟩:=t;exact p Y H U (Step.refl Y H) r s
theorem qGv:PS X (.Continue pos) (tDS X.K W (qB F B .cnt)):=PS.imp L2.ps_continue fun D U H t=>by
 obtain ⟨Y,env,h,s,r,p⟩:=t;exact p Y H U (Step.refl Y H) r s
theorem qGq(hc:PT X c (tDT X.K W (qJ F cc)))(ha:PSs X a (tDS X.K W (qB F B ca)))(hb:PSs X b (tDS X.K W (qB F B cb))) :
  PS X (.If c a b pos) (tDS X.K W (qB F B (.ite cc ca cb))):=PS.imp (L2.ps_if hc ha hb) fun D U H t=>by
 obtain ⟨Y,env,h,s,r,p⟩:=t;dsimp only[qB] at p;refine⟨Y,env,h,s,r,PostS.ofR s p fun Y' h' k H' e' r' q=>?_⟩;cases k with
 |true=>exact L2.iteT ⟨Y',env,h',s.mono e',r',q⟩
 |false=>exact L2.iteF ⟨Y',env,h',s.mono e',r',q⟩
def wM(K:PySem.W.Frag)(t:TG)(g:L2.TG):Prop:=∀ (Y:List Addr) (H:Hp) (env env':Env) (U:L2.St) (d:D) (v:V) (Q:L2.St->Hp->Prop),RepS K Y H env U->RepV K Y H d v->uK t d env=some env'->(∀ st,RepS K Y H env' st->Q st H)->g v U H Q
theorem qFX{K:PySem.W.Frag}(i:Nat):wM K (.nm i) (L2.gName i):=by
 intro Y H env env' U d v Q s hv e q;cases e;exact q _ (s.set i hv)
theorem PostS.turn{K:PySem.W.Frag}{D:Ends}(p:PostS K W D Y H (r.turn f))
  (hN:∀ Y' H' env h st,Step Y H Y' H'->RepH K Y' h H'->RepS K Y' H' env st->PostS K W D Y' H' (f env h)->N st H'):PostS K WF { D with nx:=N,ct:=N,bk:=D.nx } Y H r:=by
 cases r with
 |nx e g=>exact fun Y' H' st e' r' s'=>hN Y' H' e g st e' r' s' (PostS.mono p e')
 |ct e g=>exact fun Y' H' st e' r' s'=>hN Y' H' e g st e' r' s' (PostS.mono p e')
 |bk e g=>exact p
 |rt _ _=>exact p
 |exc _ _ _=>cases p
 |bad=>exact p
theorem qBF{K:PySem.W.Frag}(ht:wM K t g)(s:RepS K Y H env U)(r:RepH K Y h H)(hv:RepV K Y H d v)
  (p:PostS K W E Y H ((zT t (qB F B cb) d env h).turn f)) (hN:∀ Y' H' env h st,Step Y H Y' H'->RepH K Y' h H'->RepS K Y' H' env st->PostS K W E Y' H' (f env h)->N st H') :
  g v U H fun U2 H2=>tDS K WF (qB F B cb) { E with nx:=N,ct:=N,bk:=E.nx } U2 H2:=by
 unfold zT at p;cases e:uK t d env with
 |none=>rw[e] at p;cases p
 |some env'=>rw[e] at p;exact ht Y H env env' U d v _ s hv e fun st s'=>⟨Y,env',h,s',r,PostS.turn p hN⟩
theorem qBn{K:PySem.W.Frag}{J:L2.It}(ht:wM K t g)(s:RepS K Y H env U)(r:RepH K Y h H)
  (go:∀ (i:Nat) Y' H',Step Y H Y' H'->i<xs.length->J.go i H') (yl:∀ (i:Nat) Y' H' x H'',Step Y H Y' H'->i<xs.length->J.yld i H' x H''->H''=H'/\∃ d,xs[i]?=some d/\RepV K Y' H' d x) (sp:∀ (i:Nat) Y' H',Step Y H Y' H'->i=xs.length->J.stop i H')
  (p:PostS K W E Y H (jP (zT t (qB F B cb)) xs env h)) :
  ∃ Wi:Nat->Nat->L2.St->Hp->Prop,(∃ m,Wi 0 m U H)/\∀ i m U H,Wi i m U H ->
   (J.stop i H/\E.nx U H)\/(J.go i H/\∃ N:L2.St->Hp->Prop,(∀ U' H',N U' H'->∃ m',m'<m/\Wi (i+1) m' U' H')/\∀ x H',J.yld i H x H'->g x U H' fun U2 H2=>tDS K WF (qB F B cb) { E with nx:=N,ct:=N,bk:=E.nx } U2 H2):=by
 refine⟨fun i m U' H'=>m=xs.length-i/\i<=xs.length/\∃ Y' env' h',Step Y H Y' H'/\RepS K Y' H' env' U'/\RepH K Y' h' H'/\PostS K W E Y' H' (jP (zT t (qB F B cb)) (xs.drop i) env' h'),⟨_,rfl,Nat.zero_le _,Y,env,h,Step.refl _ _,s,r,p⟩,?_⟩
 rintro i m U' H' ⟨rfl,hi,Y',env',h',e',s',r',p'⟩
 by_cases hlt:i<xs.length
 ·refine .inr ⟨go i Y' H' e' hlt,fun U2 H2=>∃ Y2 env2 h2,Step Y H Y2 H2/\RepS K Y2 H2 env2 U2/\RepH K Y2 h2 H2/\PostS K W E Y2 H2 (jP (zT t (qB F B cb)) (xs.drop (i+1)) env2 h2),fun U2 H2 q=>⟨xs.length-(i+1),by lia,rfl,hlt,q⟩,fun x H'' y=>?_⟩;obtain ⟨rfl,d,hd,hv⟩:=yl i Y' H' x H'' e' hlt y;rw[List.drop_eq_getElem_cons hlt] at p'
  have ed:xs[i]=d:=by
   rw[List.getElem?_eq_getElem hlt] at hd;exact Option.some.inj hd
  rw[ed,jP] at p';exact qBF ht s' r' hv p' fun Y2 H2 env2 h2 st e2 r2 s2 p2=>⟨Y2,env2,h2,e'.trans e2,s2,r2,p2⟩
 ·have e:i=xs.length:=by lia
  subst e;rw[List.drop_length] at p';exact .inl ⟨sp _ Y' H' e' rfl,p' Y' H' U' (Step.refl _ _) r' s'⟩
theorem qKI{K:PySem.W.Frag}(ht:wM K t g)(s:RepS K Y H env U)(r:RepH K Y h H)(ha:Y[k]?=some a)
  (p:PostS K W E Y H (vI (zT t (qB F B cb)) k n 0 env h)) :
  ∃ Wi:Nat->Nat->L2.St->Hp->Prop,(∃ m,Wi 0 m U H)/\∀ i m U H,Wi i m U H ->
   ((L2.Itl K a).stop i H/\E.nx U H)\/((L2.Itl K a).go i H/\∃ N:L2.St->Hp->Prop,(∀ U' H',N U' H'->∃ m',m'<m/\Wi (i+1) m' U' H')/\∀ x H',(L2.Itl K a).yld i H x H'->g x U H' fun U2 H2=>tDS K WF (qB F B cb) { E with nx:=N,ct:=N,bk:=E.nx } U2 H2):=by
 refine⟨fun i m U' H'=>∃ Y' env' h',Step Y H Y' H'/\RepS K Y' H' env' U'/\RepH K Y' h' H'/\PostS K W E Y' H' (vI (zT t (qB F B cb)) k m i env' h'),⟨n,Y,env,h,Step.refl _ _,s,r,p⟩,?_⟩
 rintro i m U' H' ⟨Y',env',h',e',s',r',p'⟩
 cases m with
 |zero=>cases p'
 |succ m=>
  rw[vI] at p';cases q:getL h' k with
  |none=>rw[q] at p';cases p'
  |some xs=>
   rw[q] at p';obtain ⟨b,vs,h1,h2,h3⟩:=r'.list q;rw[vE e'.pre ha] at h1;cases h1;cases qx:xs[i]? with
   |none=>simp only[qx] at p';refine .inl ⟨⟨vs,h2,?_⟩,p' Y' H' U' (Step.refl _ _) r' s'⟩;rw[h3.length];exact List.getElem?_eq_none_iff.mp qx
   |some d=>simp only[qx] at p';obtain ⟨w,hw,hv⟩:=h3.get qx;refine .inr ⟨⟨vs,w,h2,hw⟩,fun U2 H2=>∃ Y2 env2 h2,Step Y H Y2 H2/\RepS K Y2 H2 env2 U2/\RepH K Y2 h2 H2/\PostS K W E Y2 H2 (vI (zT t (qB F B cb)) k m (i+1) env2 h2),fun U2 H2 z=>⟨m,by lia,z⟩,fun x H'' y=>?_⟩;obtain ⟨rfl,y⟩:=y;have ew:=y vs h2;rw[hw] at ew;cases ew;exact qBF ht s' r' hv p' fun Y2 H2 env2 h2 st e2 r2 s2 p2=>⟨Y2,env2,h2,e'.trans e2,s2,r2,p2⟩
end
section
variable {X:Cx}{F:Nat->List D->M D}{W:WX}
theorem qEU{K:PySem.W.Frag}(l:RepL K Y H xs vs)(e:(ixN xs.length i).bind (xs[·]?)=some d):∃ w,L2.atI vs i=some w/\RepV K Y H d w:=by
 cases q:ixN xs.length i with
 |none=>rw[q] at e;cases e
 |some j=>rw[q] at e;have e:xs[j]?=some d:=e;obtain ⟨w,h1,h2⟩:=l.get e;refine⟨w,?_,h2⟩;show (L2.ixN vs.length i).bind (fun j=>vs[j]?)=some w;rw[l.length];have q':L2.ixN xs.length i=some j:=q;rw[q'];exact h1
theorem qKw:IxR X (rB X.K .ix):=by
 rintro value slice pins s U H x y v u Q I rx ry ⟨w,Y,h,d,e,r,hd,he,p⟩ hs
 cases d with
 |tup xs=>
  cases e with
  |int i=>
   cases he;obtain ⟨a,vs,rfl,h1,h2⟩:=hd;have p:PostV X.K w Q Y H (match (ixN xs.length i).bind (xs[·]?) with | some d=>.ok d h | none=>.bad):=p;cases q:(ixN xs.length i).bind (xs[·]?) with
   |none=>rw[q] at p;cases p
   |some d=>rw[q] at p;obtain ⟨w,h3,h4⟩:=qEU h2 q;exact L2.ix_tup value slice pins s U H _ _ v u Q I rx ry ⟨a,vs,i,w,rfl,rfl,h1,h3,PostV.now p r h4⟩ hs
  |_=>exact False.elim p
 |str x=>
  cases e with
  |int i=>
   cases he;cases hd;have p:PostV X.K w Q Y H (if x.length<=16777216 then (match (ixN x.length i).bind (x[·]?) with | some c=>.ok (.str [c]) h | none=>.bad) else .bad):=p;obtain ⟨hz,p⟩:=PostV.ite p;cases q:(ixN x.length i).bind (x[·]?) with
   |none=>rw[q] at p;cases p
   |some c=>rw[q] at p;exact L2.ix_str value slice pins s U H _ _ v u Q I rx ry ⟨⟨x.toArray⟩,i,c,rfl,rfl,by rw[zL,zF];exact hz,q,PostV.now p r rfl⟩ hs
  |_=>exact False.elim p
 |ref k=>
  cases e with
  |int i=>
   have p:PostV X.K w Q Y H (match (getL h k).bind fun xs=>(ixN xs.length i).bind (xs[·]?) with | some d=>.ok d h | none=>ixK k (.int i) h):=p;cases q:((getL h k).bind fun xs=>(ixN xs.length i).bind (xs[·]?)) with
   |none=>rw[q] at p;exact qCA (ky:=.int i) I r hd he rx ry p hs
   |some d=>
    rw[q] at p;cases he;cases q0:getL h k with
    |none=>rw[q0] at q;cases q
    |some xs=>rw[q0] at q;obtain ⟨a,vs,rfl,h1,h2⟩:=r.seen q0 hd;obtain ⟨w,h3,h4⟩:=qEU h2 q;exact L2.ix_list value slice pins s U H _ _ v u Q I rx ry ⟨a,vs,i,w,rfl,rfl,h1,h3,PostV.now p r h4⟩ hs
  |str x=>exact qCA (ky:=.str x) I r hd he rx ry p hs
  |_=>exact False.elim p
 |_=>exact False.elim p
theorem qNQ(ha:PE X a (tD X.K W (den F ca)))(hb:PE X b (tD X.K W (den F cb)))(hs:L2.PlainIx b):PE X (.Subscript a b pos) (tD X.K W (den F (.bi .ix ca cb))):=PE.imp (L2.pe_ix qKw ha hb hs) fun _ _ _ t=>two t
theorem qEt:L2.UnR X (unaryOp .USub) (rU X.K .neg):=by
 rintro pins s U H x v Q I rx ⟨w,Y,h,d,r,hd,p⟩
 cases d with
 |int i=>cases hd;exact L2.un_neg pins s U H _ v Q I rx ⟨i,rfl,PostV.now p r rfl⟩
 |_=>exact False.elim p
theorem qNJ(ha:PE X a (tD X.K W (den F ca))):PE X (.UnaryOp .USub a pos) (tD X.K W (den F (.un .neg ca))):=PE.imp (L2.pe_un qEt ha) fun _ _ _ t=>one t
theorem qOB:qM X (.builtin "len") (rC X.K .len):=by
 rintro pins s U H xs us Q I rv ⟨x,rfl,w,Y,h,d,r,hd,p⟩
 cases d with
 |str x=>cases hd;obtain ⟨hz,p⟩:=PostV.ite (c:=x.length<=16777216) p;exact L2.call_len pins s U H _ us Q I rv ⟨_,x.length,rfl,⟨by rw[zL,zF];exact hz,by rw[zL]⟩,PostV.now p r rfl⟩
 |tup ys=>obtain ⟨a,vs,rfl,h1,h2⟩:=hd;exact L2.call_len pins s U H _ us Q I rv ⟨_,ys.length,rfl,.inr ⟨vs,h1,h2.length.symm⟩,PostV.now (h:=h) p r rfl⟩
 |ref i=>
  have p:PostV X.K w Q Y H (match getL h i with | some xs=>.ok (.int xs.length) h | none=>bP i h):=p;cases q:getL h i with
  |none=>
   rw[q] at p;cases rv with
   |cons ru rn=>cases rn;exact qKL I r hd ru p
  |some ys=>rw[q] at p;obtain ⟨a,vs,rfl,h1,h2⟩:=r.seen q hd;exact L2.call_len pins s U H _ us Q I rv ⟨_,ys.length,rfl,.inl ⟨vs,h1,h2.length.symm⟩,PostV.now p r rfl⟩
 |_=>exact False.elim p
theorem qN7:qM X (.builtin "ord") (rC X.K .ord):=by
 rintro pins s U H xs us Q I rv ⟨x,rfl,w,Y,h,d,r,hd,p⟩
 cases d with
 |str x=>
  cases hd
  match x,p with
  | [c],p=>exact L2.call_ord pins s U H _ us Q I rv ⟨_,rfl,rfl,PostV.now (h:=h) p r rfl⟩
  | [],p=>exact False.elim p
  |_::_::_,p=>exact False.elim p
 |_=>exact False.elim p
theorem qFF(i:Int):((toString i:String):Str)=⟨(txI i).toArray⟩:=by
 show Str.ofString (toString i)=_;rw[Str.ofString_eq_toList];rfl
theorem qN5:qM X (.type "str") (rC X.K .str):=by
 rintro pins s U H xs us Q I rv ⟨x,rfl,w,Y,h,d,r,hd,p⟩
 cases d with
 |int i=>cases hd;obtain ⟨hz,p⟩:=PostV.ite (c:=i.natAbs.log2<1920) p;exact L2.call_str_int pins s U H _ us Q I rv ⟨i,rfl,hz,PostV.now p r (qFF i ▸ rfl)⟩
 |_=>exact False.elim p
theorem qOE:qM X (.type "int") (rC X.K .int):=by
 rintro pins s U H xs us Q I rv ⟨x,rfl,w,Y,h,d,r,hd,p⟩
 cases d with
 |int i=>cases hd;exact L2.call_int1 pins s U H _ us Q I rv (.inl ⟨i,rfl,PostV.now (h:=h) p r rfl⟩)
 |bl b=>cases hd;exact L2.call_int1 pins s U H _ us Q I rv (.inr ⟨b,rfl,PostV.now (h:=h) p r rfl⟩)
 |str x=>
  cases hd;obtain ⟨hc,p⟩:=PostV.ite (c:=x≠[]/\x.length<=640/\jN x=true) p;obtain ⟨h1,h2,h3⟩:=hc;obtain ⟨u,rfl,t,rfl⟩:=L2.vals1 rv
  have hd:PySem.NumText.AllDigits x:=fun c hc=>by
   have:=List.all_eq_true.mp h3 c hc
   exact of_decide_eq_true this
  exact PySem.W.KIN.call_text (PySem.intText_digits (x:=⟨x.toArray⟩) hd h1 (by rw[zL];lia)) (by rw[zL];exact h2) ⟨.int _,H,I.tok _,⟨_,rfl⟩,PostV.now p r rfl⟩
 |_=>exact False.elim p
theorem qN4:qM X (.type "tuple") (rC X.K .tuple):=by
 rintro pins s U H xs us Q I rv ⟨x,rfl,w,Y,h,d,r,hd,p⟩
 cases d with
 |tup ys=>obtain ⟨a,vs,rfl,h1,h2⟩:=hd;exact L2.call_tuple_of pins s U H _ us Q I rv ⟨a,vs,rfl,.inr ⟨h1,PostV.now (h:=h) p r ⟨a,vs,rfl,h1,h2⟩⟩⟩
 |ref i=>
  have p:PostV X.K w Q Y H (match getL h i with | some xs=>.ok (.tup xs) h | none=>.bad):=p;cases q:getL h i with
  |none=>rw[q] at p;cases p
  |some ys=>rw[q] at p;obtain ⟨a,vs,rfl,h1,h2⟩:=r.seen q hd;exact L2.call_tuple_of pins s U H _ us Q I rv ⟨a,vs,rfl,.inl ⟨h1,PostV.newT p r h2⟩⟩
 |_=>exact False.elim p
theorem qN9 (hc:X.calm=true):qM X (.builtin "min") (rC2 X.K .min2):=by
 rintro pins s U H xs us Q I rv ⟨x,y,rfl,w,Y,h,d,e,r,hd,he,p⟩
 cases d with
 |int i=>
  cases e with
  |int j=>cases hd;cases he;exact L2.call_min2 hc pins s U H _ us Q I rv ⟨i,j,rfl,PostV.now (h:=h) p r rfl⟩
  |_=>exact False.elim p
 |_=>exact False.elim p
theorem qOA (hc:X.calm=true):qM X (.builtin "max") (rC2 X.K .max2):=by
 rintro pins s U H xs us Q I rv ⟨x,y,rfl,w,Y,h,d,e,r,hd,he,p⟩
 cases d with
 |int i=>
  cases e with
  |int j=>cases hd;cases he;exact L2.call_max2 hc pins s U H _ us Q I rv ⟨i,j,rfl,PostV.now (h:=h) p r rfl⟩
  |_=>exact False.elim p
 |_=>exact False.elim p
theorem qCF(t:tD X.K W (den F (.un .isN ca)) U H Q):L2.tIsN (tD X.K W (den F ca)) U H Q:=by
 obtain ⟨Y,env,h,s,r,p⟩:=one t;refine⟨Y,env,h,s,r,Post.imp p fun Y' H' d q v hv=>?_⟩;obtain ⟨w1,Y1,h1,d1,r1,hd1,p1⟩:=q v hv
 have e:=PostV.now (h:=h1) p1 r1 (v:=.bl (decide (v=.non))) (by
  cases d1 <;> first
   | (cases hd1;rfl)
   | (obtain ⟨a,vs,rfl,_⟩:=hd1;rfl)
   | (obtain ⟨a,_,rfl⟩:=hd1;rfl))
 exact e
theorem qBK(t:tD X.K W (den F (.un .notN ca)) U H Q):L2.tNotN (tD X.K W (den F ca)) U H Q:=by
 obtain ⟨Y,env,h,s,r,p⟩:=one t;refine⟨Y,env,h,s,r,Post.imp p fun Y' H' d q v hv=>?_⟩;obtain ⟨w1,Y1,h1,d1,r1,hd1,p1⟩:=q v hv
 have e:=PostV.now (h:=h1) p1 r1 (v:=.bl (!decide (v=.non))) (by
  cases d1 <;> first
   | (cases hd1;rfl)
   | (obtain ⟨a,vs,rfl,_⟩:=hd1;rfl)
   | (obtain ⟨a,_,rfl⟩:=hd1;rfl))
 exact e
theorem tV(ho:o=.isN\/o=.notN)(env:Env)(h:AH)(d:D)(h':AH)(e:den F (.un o ca) env h=.ok d h'):∃ k,d=.bl k:=by
 dsimp only[den] at e;obtain ⟨x,g1,_,e⟩:=bind_ok e;rcases ho with rfl | rfl <;> (cases e;exact⟨_,rfl⟩)
theorem qNT(ha:PE X a (tD X.K W (den F ca))):PE X (.Compare a [.Is] [.Constant .none j pos'] pos) (tD X.K W (den F (.un .isN ca))):=PE.imp (L2.pe_cmp (L2.pc_isN ha)) fun U H Q t=>qCF t
theorem qNH(ha:PE X a (tD X.K W (den F ca))):PE X (.Compare a [.IsNot] [.Constant .none j pos'] pos) (tD X.K W (den F (.un .notN ca))):=PE.imp (L2.pe_cmp (L2.pc_notN ha)) fun U H Q t=>qBK t
theorem qMe(ha:PE X a (tD X.K W (den F ca))):PT X (.Compare a [.Is] [.Constant .none j pos'] pos) (tDT X.K W (qJ F (.val (.un .isN ca)))):=PT.imp (L2.pt_cmp (L2.pc_isN ha)) fun U H Q t=>qCF (eN (tV (.inl rfl)) t)
theorem qMc(ha:PE X a (tD X.K W (den F ca))):PT X (.Compare a [.IsNot] [.Constant .none j pos'] pos) (tDT X.K W (qJ F (.val (.un .notN ca)))):=PT.imp (L2.pt_cmp (L2.pc_notN ha)) fun U H Q t=>qBK (eN (tV (.inr rfl)) t)
end
section
variable {X:Cx}{F:Nat->List D->M D}{B:Nat}{W:WX}
theorem PS.nox{st:Stmt}(h:PS X.nox st t):PS X st t:=fun pins s U H D I hw=>
 wpAny_mono (h pins s U H D (I.wish _) hw) (fun _ _ q=>q.unwish) fun _ _ z=>False.elim z
theorem qGb(hc:PT X.nox c (tDT X.K WF (qJ F cc)))(hb:PSs X.nox body (tDS X.K WF (qB F B cb))) :
  PS X (.While c body [] pos) (tDS X.K W (qB F B (.whil cc cb))):=PS.imp (PS.nox (L2.ps_while PassesOwn.never hc hb)) fun E U H q=>by
 obtain ⟨Y,env,h,s,r,p⟩:=q;dsimp only[qB] at p;refine⟨fun m U' H'=>∃ Y' env' h',RepS X.K Y' H' env' U'/\RepH X.K Y' h' H'/\PostS X.K W E Y' H' (yG (qJ F cc) (qB F B cb) m env' h'),⟨B,Y,env,h,s,r,p⟩,?_⟩
 rintro m U' H' ⟨Y',env',h',s',r',p'⟩
 cases m with
 |zero=>cases p'
 |succ m=>
  rw[yG] at p';refine⟨Y',env',h',s',r',?_⟩;cases q:qJ F cc env' h' with
  |ok k g=>
   rw[q] at p';intro Y1 H1 e1 r1;have q1:=PostS.mono p' e1;cases k with
   |true=>
    refine L2.iteT ⟨fun U2 H2=>∃ Y2 env2 h2,RepS X.K Y2 H2 env2 U2/\RepH X.K Y2 h2 H2/\PostS X.K W E Y2 H2 (yG (qJ F cc) (qB F B cb) m env2 h2),fun U2 H2 z=>⟨m,Nat.lt_succ_self _,z⟩,?_⟩
    exact⟨Y1,env',g,s'.mono e1,r1,PostS.turn q1 fun Y2 H2 env2 h2 st e2 r2 s2 p2=>⟨Y2,env2,h2,s2,r2,p2⟩⟩
   |false=>exact L2.iteF (q1 Y1 H1 U' (Step.refl _ _) r1 (s'.mono e1))
  |exc _ _=>rw[q] at p';cases p'
  |bad=>rw[q] at p';cases p'
theorem qMd(ha:PT X a (tDT X.K W (qJ F ca))):PT X (.UnaryOp .Not a pos) (tDT X.K W (qJ F (.not ca))):=PT.imp (L2.pt_not ha) fun U H Q t=>by
 obtain ⟨Y,env,h,s,r,p⟩:=t;dsimp only[qJ] at p
 exact⟨Y,env,h,s,r,Post.bind p fun Y1 h1 k H1 e1 r1 q=>Post.ret q r1⟩
theorem qMa(ha:PT X a (tDT X.K W (qJ F ca)))(hb:L2.PW X (.BoolOp .And (b::qG) pos) (tDT X.K W (qJ F cb))):L2.PW X (.BoolOp .And (a::b::qG) pos) (tDT X.K W (qJ F (.and ca cb))):=fun wh pins s U H Q I t=>
 L2.pw_and ha hb wh pins s U H Q I (by
  obtain ⟨Y,env,h,s,r,p⟩:=t;dsimp only[qJ] at p;refine⟨Y,env,h,s,r,Post.bind p fun Y1 h1 k H1 e1 r1 q=>?_⟩;cases k with
  |true=>exact L2.iteT ⟨Y1,env,h1,s.mono e1,r1,q⟩
  |false=>exact L2.iteF (Post.ret q r1))
theorem qMZ(ha:PT X a (tDT X.K W (qJ F ca)))(hb:L2.PW X (.BoolOp .Or (b::qG) pos) (tDT X.K W (qJ F cb))):L2.PW X (.BoolOp .Or (a::b::qG) pos) (tDT X.K W (qJ F (.or ca cb))):=fun wh pins s U H Q I t=>
 L2.pw_or ha hb wh pins s U H Q I (by
  obtain ⟨Y,env,h,s,r,p⟩:=t;dsimp only[qJ] at p;refine⟨Y,env,h,s,r,Post.bind p fun Y1 h1 k H1 e1 r1 q=>?_⟩;cases k with
  |true=>exact L2.iteT (Post.ret q r1)
  |false=>exact L2.iteF ⟨Y1,env,h1,s.mono e1,r1,q⟩)
end
open PySem PySem.Spec PyProof.Rows PySem.SeqAt
def kC(f:D->D->Option Bool)(xs ys:List D)(j:Nat):Bool:=match xs[j]?,ys[j]? with
 |some x,some y=>(f x y).getD false
 |_,_=>false
theorem uA:∀ {xs ys:List D} {b:Bool},eqW f xs ys=some b ->
  (∀ j x y,xs[j]?=some x->ys[j]?=some y->f x y=some (kC f xs ys j))/\b=((List.range (min xs.length ys.length)).all (kC f xs ys)&&(xs.length == ys.length))
 | [],[],b,e=>by
  cases e
  exact⟨fun j x y h=>by simp at h,rfl⟩
 | [],y::ys,b,e=>by
  cases e
  exact⟨fun j x y h=>by simp at h,by simp⟩
 |x::xs,[],b,e=>by
  cases e
  exact⟨fun j x y _ h=>by simp at h,by simp⟩
 |x::xs,y::ys,b,e=>by
  unfold eqW at e;cases e1:f x y with
  |none=>rw[e1] at e;cases e
  |some c=>
   cases e2:eqW f xs ys with
   |none=>rw[e1,e2] at e;cases e
   |some d=>
    rw[e1,e2] at e;cases e;obtain ⟨h1,h2⟩:=uA e2;refine⟨fun j x' y' hx hy=>?_,?_⟩
    ·cases j with
     |zero=>cases hx;cases hy;show f x y=some ((f x y).getD false);rw[e1];rfl
     |succ j=>exact h1 j x' y' (by simpa using hx) (by simpa using hy)
    ·rw[h2]
     have e3:kC f (x::xs) (y::ys) 0=c:=by
      show (f x y).getD false=c;rw[e1];rfl
     have e4:∀ j,kC f (x::xs) (y::ys) (j+1)=kC f xs ys j:=fun j=>by
      unfold kC;simp
     have e5:min (x::xs).length (y::ys).length=min xs.length ys.length+1:=by simp
     rw[e5,List.range_succ_eq_map,List.all_cons,e3,List.all_map];have e6:(kC f (x::xs) (y::ys) ∘ Nat.succ)=kC f xs ys:=funext e4;rw[e6];simp[Bool.and_assoc]
section
variable {X:Cx}{pins:List (Addr × Obj)}{U:L2.St}{H:Hp}{s:Shared}{Y:List Addr}{h:AH}
theorem qCM(h:RepV X.K Y H y .non):y=.non:=by
 cases y with
 |non=>rfl
 |tup xs=>obtain ⟨_,_,z,_⟩:=h;cases z
 |ref i=>obtain ⟨_,_,z⟩:=h;cases z
 |_=>cases h
theorem qCO(h:RepV X.K Y H y (.bl c)):y=.bl c:=by
 cases y with
 |bl d=>cases h;rfl
 |tup xs=>obtain ⟨_,_,z,_⟩:=h;cases z
 |ref i=>obtain ⟨_,_,z⟩:=h;cases z
 |_=>cases h
theorem qCN(h:RepV X.K Y H y (.int c)):y=.int c:=by
 cases y with
 |int d=>cases h;rfl
 |tup xs=>obtain ⟨_,_,z,_⟩:=h;cases z
 |ref i=>obtain ⟨_,_,z⟩:=h;cases z
 |_=>cases h
theorem qCL(h:RepV X.K Y H y (.str ⟨c.toArray⟩)):y=.str c:=by
 cases y with
 |str d=>
  have z:V.str ⟨c.toArray⟩=V.str ⟨d.toArray⟩:=h;have z:c.toArray=d.toArray:=by injection z with z;injection z
  have z:c=d:=by simpa using congrArg Array.toList z
  rw[z]
 |tup xs=>obtain ⟨_,_,z,_⟩:=h;cases z
 |ref i=>obtain ⟨_,_,z⟩:=h;cases z
 |_=>cases h
theorem bX(h:RepV X.K Y H y (.ref a)):(∃ ys vs,y=.tup ys/\SqT X.K H a vs/\RepL X.K Y H ys vs)\/∃ j,y=.ref j/\Y[j]?=some a:=by
 cases y with
 |tup xs=>obtain ⟨_,vs,z,h1,h2⟩:=h;cases z;exact .inl ⟨xs,vs,rfl,h1,h2⟩
 |ref i=>obtain ⟨_,h1,z⟩:=h;cases z;exact .inr ⟨i,rfl,h1⟩
 |_=>cases h
theorem qHJ(h:RepV X.K Y H x v)(r:RelV v vv):vv=.none\/(∃ c,vv=.bool c)\/(∃ c t,vv=.int c t)\/(∃ c t,vv=.str c t)\/∃ c,vv=.ref c:=by
 cases x with
 |non=>cases h;exact .inl r
 |bl c=>cases h;exact .inr (.inl ⟨c,r⟩)
 |int c=>cases h;obtain ⟨t,r⟩:=r;exact .inr (.inr (.inl ⟨c,t,r⟩))
 |str c=>cases h;obtain ⟨t,r⟩:=r;exact .inr (.inr (.inr (.inl ⟨_,t,r⟩)))
 |tup xs=>obtain ⟨a,_,rfl,_⟩:=h;exact .inr (.inr (.inr (.inr ⟨a,r⟩)))
 |ref i=>obtain ⟨a,_,rfl⟩:=h;exact .inr (.inr (.inr (.inr ⟨a,r⟩)))
theorem qGa(I:Inv X pins U H s)(r:RepH X.K Y h H):∀ (n:Nat) (x y:D) (b:Bool) (v:V),eqD h n x y=some b->RepV X.K Y H x v->RepV X.K Y H y v->b=true:=by
 intro n
 have rows:∀ m,(∀ (x y:D) (b:Bool) (v:V),eqD h m x y=some b->RepV X.K Y H x v->RepV X.K Y H y v->b=true)->∀ (xs ys:List D) (b:Bool) (vs:List V),eqW (eqD h m) xs ys=some b->RepL X.K Y H xs vs->RepL X.K Y H ys vs->b=true:=by
  intro m ih xs
  induction xs with
  |nil=>
   intro ys b vs e hx hy;cases hx;cases ys with
   |nil=>cases e;rfl
   |cons y ys=>obtain ⟨_,_,z,_⟩:=hy;cases z
  |cons x xs ihx=>
   intro ys b vs e hx hy;obtain ⟨v,qG,rfl,h1,h2⟩:=hx;cases ys with
   |nil=>cases hy
   |cons y ys=>
    obtain ⟨v',rest',z,k1,k2⟩:=hy;cases z;unfold eqW at e;cases e1:eqD h m x y with
    |none=>rw[e1] at e;cases e
    |some c=>
     cases e2:eqW (eqD h m) xs ys with
     |none=>rw[e1,e2] at e;cases e
     |some d=>rw[e1,e2] at e;cases e;rw[ih x y c v e1 h1 k1,ihx ys d qG e2 h2 k2];rfl
 induction n with
 |zero=>
  intro x y b v e hx hy;cases x with
  |non=>cases hx;cases qCM hy;cases e;rfl
  |bl c=>cases hx;cases qCO hy;cases e;simp
  |int c=>cases hx;cases qCN hy;cases e;simp
  |str c=>cases hx;cases qCL hy;cases e;simp
  |tup xs=>
   obtain ⟨a,vs,rfl,k1,k2⟩:=hx;rcases bX hy with⟨ys,ws,rfl,k3,k4⟩ | ⟨j,rfl,k3⟩
   ·cases e
   ·cases e
  |ref i=>
   obtain ⟨a,k1,rfl⟩:=hx;rcases bX hy with⟨ys,ws,rfl,k3,k4⟩ | ⟨j,rfl,k3⟩
   ·cases e
   ·cases e
 |succ n ih=>
  intro x y b v e hx hy;cases x with
  |non=>cases hx;cases qCM hy;cases e;rfl
  |bl c=>cases hx;cases qCO hy;cases e;simp
  |int c=>cases hx;cases qCN hy;cases e;simp
  |str c=>cases hx;cases qCL hy;cases e;simp
  |tup xs=>
   obtain ⟨a,vs,rfl,k1,k2⟩:=hx;rcases bX hy with⟨ys,ws,rfl,k3,k4⟩ | ⟨j,rfl,k3⟩
   ·have:=I.tuple_inj k1 k3
    subst this;exact rows n ih xs ys b vs e k2 k4
   ·cases e
  |ref i=>
   obtain ⟨a,k1,rfl⟩:=hx;rcases bX hy with⟨ys,ws,rfl,k3,k4⟩ | ⟨j,rfl,k3⟩
   ·cases e
   ·have e:(match getL h i,getL h j with | some xs,some ys=>eqW (eqD h n) xs ys | _,_=>none)=some b:=e;cases q:getL h i with
    |none=>rw[q] at e;cases e
    |some xs=>
     cases q2:getL h j with
     |none=>rw[q,q2] at e;cases e
     |some ys=>
      rw[q,q2] at e;obtain ⟨a1,vs,m1,m2,m3⟩:=r.list q;obtain ⟨a2,ws,n1,n2,n3⟩:=r.list q2;rw[k1] at m1;rw[k3] at n1;cases m1;cases n1
      have:=I.list_inj m2 n2
      subst this;exact rows n ih xs ys b vs e m3 n3
theorem qMU(I:Inv X pins U H s)(r:RepH X.K Y h H):∀ (m:Nat),(∀ (x y:D) (b:Bool) (v u:V) (vv uu:Value) (A:Around),eqD h m x y=some b->RepV X.K Y H x v->RepV X.K Y H y u->RelV v vv->RelV u uu->A.units+m<cLine->RcAt A s vv uu b) ->
  ∀ (x y:D) (b:Bool) (v u:V) (vv uu:Value) (A:Around),eqD h m x y=some b->RepV X.K Y H x v->RepV X.K Y H y u->RelV v vv->RelV u uu->A.units+m<cLine->EqAt A s vv uu b:=by
 intro m ih x y b v u vv uu A e hx hy rv ru hu prog w E Q hq;unfold eqBool;refine wpAny_holding ?_;refine wpAny_ite_split (fun hab=>?_) (fun _=>?_)
 ·have hab:=eq_of_beq hab;subst hab
  have:=rv.inj ru
  subst this
  have:=qGa I r m x y b v e hx hy
  subst this;exact wpAny_bind (wpAny_rule (wpAny_pure hq))
 ·have go:=ih x y b v u vv uu A e hx hy rv ru hu prog w E (fun c s'=>wpAny (model prog w) A (truthOfDropped c) Q E s') (wpAny_truthy_bool hq);rcases qHJ hx rv with rfl | ⟨c,rfl⟩ | ⟨c,t,rfl⟩ | ⟨c,t,rfl⟩ | ⟨c,rfl⟩ <;> exact wpAny_bind go
theorem aY(I:Inv X pins U H s)(r:RepH X.K Y h H):∀ (m:Nat) (A:Around),(∀ (x y:D) (b:Bool) (v u:V) (vv uu:Value) (A:Around),eqD h m x y=some b->RepV X.K Y H x v->RepV X.K Y H y u->RelV v vv->RelV u uu->A.units+m<cLine->RcAt A s vv uu b)->A.units+(m+1)<cLine ->
  ∀ (xs ys:List D) (b:Bool) (vs us:List V) (its its2:List Value),eqW (eqD h m) xs ys=some b->RepL X.K Y H xs vs->RepL X.K Y H ys us->Vals vs its->Vals us its2 ->
   (∀ j (h1:j<its.toArray.size) (h2:j<its2.toArray.size),EqAt A.in1 s its.toArray[j] its2.toArray[j] (kC (eqD h m) xs ys j)):=by
 intro m A ih hu xs ys b vs us its its2 e hx hy rv ru j h1 h2;obtain ⟨k1,_⟩:=uA e;have l1:=rv.length;have l2:=ru.length;have l3:=hx.length;have l4:=hy.length;rw[List.size_toArray] at h1 h2;have q1:xs[j]?=some (xs[j]'(by lia)):=by simp
 have q2:ys[j]?=some (ys[j]'(by lia)):=by simp
 obtain ⟨w1,p1,p2⟩:=hx.get q1;obtain ⟨w2,p3,p4⟩:=hy.get q2;obtain ⟨u1,p5,p6⟩:=rv.get p1;obtain ⟨u2,p7,p8⟩:=ru.get p3
 have f1:its.toArray[j]'(by simpa using h1)=u1:=by
  have:its[j]?=some (its[j]'h1):=by simp
  rw[this] at p5;simpa using p5
 have f2:its2.toArray[j]'(by simpa using h2)=u2:=by
  have:its2[j]?=some (its2[j]'h2):=by simp
  rw[this] at p7;simpa using p7
 rw[f1,f2];exact qMU I r m ih _ _ _ w1 w2 u1 u2 A.in1 (k1 j _ _ q1 q2) p2 p4 p6 p8 (by show A.units+1+m<cLine;lia)
theorem lR(I:Inv X pins U H s)(r:RepH X.K Y h H):∀ (n:Nat) (x y:D) (b:Bool) (v u:V) (vv uu:Value) (A:Around),eqD h n x y=some b->RepV X.K Y H x v->RepV X.K Y H y u->RelV v vv->RelV u uu->A.units+n<cLine->RcAt A s vv uu b:=by
 intro n
 have tups:∀ {l b:Addr} {vs us:List V},SqT X.K H l vs->SqT X.K H b us->∃ its its2:List Value,Vals vs its/\Vals us its2/\s.heap.IsTuple l its.toArray/\s.heap.IsTuple b its2.toArray:=fun h1 h2=>by
  obtain ⟨its,k1,k2,_⟩:=I.tuple h1;obtain ⟨its2,k3,k4,_⟩:=I.tuple h2
  exact⟨its,its2,k1,k3,k2,k4⟩
 have strEq:∀ {A:Around} (x y:Tx) (t t':Tok),RcAt A s (.str ⟨x.toArray⟩ t) (.str ⟨y.toArray⟩ t') (x == y):=fun x y t t'=>by
  have e:(x == y)=((⟨x.toArray⟩:Str) == (⟨y.toArray⟩:Str)):=by
   rw[Bool.eq_iff_iff];simp
  rw[e];exact RcAt.str_str _ _ _ _
 induction n with
 |zero=>
  intro x y b v u vv uu A e hx hy rv ru hu;have hu0:A.units<cLine:=by lia
  cases x with
  |non=>
   cases y with
   |non=>cases hx;cases rv;cases hy;cases ru;cases e;exact RcAt.none_none
   |_=>cases e
  |bl x=>
   cases y with
   |bl y=>cases hx;cases rv;cases hy;cases ru;cases e;exact RcAt.bool_bool _ _
   |int y=>cases hx;cases rv;cases hy;obtain ⟨t',rfl⟩:=ru;cases e;exact RcAt.bool_int _ _ _
   |_=>cases e
  |int x=>
   cases y with
   |non=>cases hx;obtain ⟨t,rfl⟩:=rv;cases hy;cases ru;cases e;exact RcAt.int_none _ _
   |bl y=>cases hx;obtain ⟨t,rfl⟩:=rv;cases hy;cases ru;cases e;exact RcAt.int_bool _ _ _
   |int y=>cases hx;obtain ⟨t,rfl⟩:=rv;cases hy;obtain ⟨t',rfl⟩:=ru;cases e;exact RcAt.int_int _ _ _ _
   |_=>cases e
  |str x=>
   cases y with
   |str y=>cases hx;obtain ⟨t,rfl⟩:=rv;cases hy;obtain ⟨t',rfl⟩:=ru;cases e;exact strEq _ _ _ _
   |_=>cases e
  |tup x=>
   cases y with
   |_=>cases e
  |ref x=>
   cases y with
   |_=>cases e
 |succ n ih=>
  intro x y b v u vv uu A e hx hy rv ru hu;have hu0:A.units<cLine:=by lia
  have tt:∀ {a a2:Addr} {vs us:List V} {xs ys:List D},SqT X.K H a vs->SqT X.K H a2 us->RepL X.K Y H xs vs->RepL X.K Y H ys us->eqW (eqD h n) xs ys=some b->RcAt A s (.ref a) (.ref a2) b:=fun k1 m1 k2 m2 e=>by
   obtain ⟨its,its2,q1,q2,q3,q4⟩:=tups k1 m1
   have:=RcAt.tuples (e:=kC (eqD h n) _ _) q3 q4 hu0 (aY I r n A ih (by lia) _ _ b _ _ its its2 e k2 m2 q1 q2)
   obtain ⟨_,eb⟩:=uA e;rw[eb];have l1:=q1.length;have l2:=q2.length;have l3:=k2.length;have l4:=m2.length;rw[List.size_toArray,List.size_toArray,<- l1,<- l2,l3,l4] at this;exact this
  have ll:∀ {i j:Nat} {a a2:Addr},Y[i]?=some a->Y[j]?=some a2->(match getL h i,getL h j with | some xs,some ys=>eqW (eqD h n) xs ys | _,_=>none)=some b->RcAt A s (.ref a) (.ref a2) b:=fun {i j a a2} k1 m1 e=>by
   cases q:getL h i with
   |none=>rw[q] at e;cases e
   |some xs=>
    cases q2:getL h j with
    |none=>rw[q,q2] at e;cases e
    |some ys=>
     rw[q,q2] at e;obtain ⟨a1,vs,p1,p2,p3⟩:=r.list q;obtain ⟨a2',us,o1,o2,o3⟩:=r.list q2;rw[k1] at p1;rw[m1] at o1;cases p1;cases o1;obtain ⟨its,r1,pl1,_⟩:=I.list p2;obtain ⟨its2,r2,pl2,_⟩:=I.list o2;have l1:=r1.length;have l2:=r2.length;have l3:=p3.length;have l4:=o3.length;obtain ⟨_,eb⟩:=uA e;rw[eb]
     by_cases hsz:xs.length=ys.length
     ·have:=RcAt.lists (e:=kC (eqD h n) xs ys) pl1.isList pl2.isList (by rw[List.size_toArray,List.size_toArray];lia) hu0 (aY I r n A ih (by lia) _ _ b _ _ its its2 e p3 o3 r1 r2)
      rw[List.size_toArray,<- l1,l3] at this;rw[<- hsz,Nat.min_self,beq_self_eq_true,Bool.and_true];exact this
     ·have e2:(xs.length == ys.length)=false:=by simpa using hsz
      rw[e2,Bool.and_false];exact RcAt.lists_lengths pl1.isList pl2.isList (by rw[List.size_toArray,List.size_toArray,<- l1,<- l2,l3,l4];simpa using hsz) hu0
  cases x with
  |non=>
   cases y with
   |non=>cases hx;cases rv;cases hy;cases ru;cases e;exact RcAt.none_none
   |_=>cases e
  |bl x=>
   cases y with
   |bl y=>cases hx;cases rv;cases hy;cases ru;cases e;exact RcAt.bool_bool _ _
   |int y=>cases hx;cases rv;cases hy;obtain ⟨t',rfl⟩:=ru;cases e;exact RcAt.bool_int _ _ _
   |_=>cases e
  |int x=>
   cases y with
   |non=>cases hx;obtain ⟨t,rfl⟩:=rv;cases hy;cases ru;cases e;exact RcAt.int_none _ _
   |bl y=>cases hx;obtain ⟨t,rfl⟩:=rv;cases hy;cases ru;cases e;exact RcAt.int_bool _ _ _
   |int y=>cases hx;obtain ⟨t,rfl⟩:=rv;cases hy;obtain ⟨t',rfl⟩:=ru;cases e;exact RcAt.int_int _ _ _ _
   |_=>cases e
  |str x=>
   cases y with
   |str y=>cases hx;obtain ⟨t,rfl⟩:=rv;cases hy;obtain ⟨t',rfl⟩:=ru;cases e;exact strEq _ _ _ _
   |_=>cases e
  |tup x=>
   cases y with
   |tup y=>obtain ⟨a,vs,rfl,k1,k2⟩:=hx;cases rv;obtain ⟨a2,us,rfl,m1,m2⟩:=hy;cases ru;exact tt k1 m1 k2 m2 e
   |_=>cases e
  |ref x=>
   cases y with
   |ref y=>obtain ⟨a,k1,rfl⟩:=hx;cases rv;obtain ⟨a2,m1,rfl⟩:=hy;cases ru;exact ll k1 m1 e
   |_=>cases e
theorem qJE(I:Inv X pins U H s)(r:RepH X.K Y h H):∀ (n:Nat) (x y:D) (b:Bool) (v u:V) (vv uu:Value) (A:Around),eqD h (n+1) x y=some b->RepV X.K Y H x v->RepV X.K Y H y u->RelV v vv->RelV u uu->A.units+(n+1)<cLine->RcNeAt A s vv uu (!b):=by
 intro n
 have tups:∀ {l b:Addr} {vs us:List V},SqT X.K H l vs->SqT X.K H b us->∃ its its2:List Value,Vals vs its/\Vals us its2/\s.heap.IsTuple l its.toArray/\s.heap.IsTuple b its2.toArray:=fun h1 h2=>by
  obtain ⟨its,k1,k2,_⟩:=I.tuple h1;obtain ⟨its2,k3,k4,_⟩:=I.tuple h2
  exact⟨its,its2,k1,k3,k2,k4⟩
 have strEq:∀ {A:Around} (x y:Tx) (t t':Tok),RcNeAt A s (.str ⟨x.toArray⟩ t) (.str ⟨y.toArray⟩ t') (!(x == y)):=fun x y t t'=>by
  have e:(x == y)=((⟨x.toArray⟩:Str) == (⟨y.toArray⟩:Str)):=by
   rw[Bool.eq_iff_iff];simp
  rw[e];exact RcNeAt.str_str _ _ _ _
 intro x y b v u vv uu A e hx hy rv ru hu;have hu0:A.units<cLine:=by lia
 have tt:∀ {a a2:Addr} {vs us:List V} {xs ys:List D},SqT X.K H a vs->SqT X.K H a2 us->RepL X.K Y H xs vs->RepL X.K Y H ys us->eqW (eqD h n) xs ys=some b->RcNeAt A s (.ref a) (.ref a2) (!b):=fun k1 m1 k2 m2 e=>by
  obtain ⟨its,its2,q1,q2,q3,q4⟩:=tups k1 m1
  have:=RcNeAt.tuples (e:=kC (eqD h n) _ _) q3 q4 hu0 (aY I r n A (lR I r n) (by lia) _ _ b _ _ its its2 e k2 m2 q1 q2)
  obtain ⟨_,eb⟩:=uA e;rw[eb];have l1:=q1.length;have l2:=q2.length;have l3:=k2.length;have l4:=m2.length;rw[List.size_toArray,List.size_toArray,<- l1,<- l2,l3,l4] at this;exact this
 have ll:∀ {i j:Nat} {a a2:Addr},Y[i]?=some a->Y[j]?=some a2->(match getL h i,getL h j with | some xs,some ys=>eqW (eqD h n) xs ys | _,_=>none)=some b->RcNeAt A s (.ref a) (.ref a2) (!b):=fun {i j a a2} k1 m1 e=>by
  cases q:getL h i with
  |none=>rw[q] at e;cases e
  |some xs=>
   cases q2:getL h j with
   |none=>rw[q,q2] at e;cases e
   |some ys=>
    rw[q,q2] at e;obtain ⟨a1,vs,p1,p2,p3⟩:=r.list q;obtain ⟨a2',us,o1,o2,o3⟩:=r.list q2;rw[k1] at p1;rw[m1] at o1;cases p1;cases o1;obtain ⟨its,r1,pl1,_⟩:=I.list p2;obtain ⟨its2,r2,pl2,_⟩:=I.list o2;have l1:=r1.length;have l2:=r2.length;have l3:=p3.length;have l4:=o3.length;obtain ⟨_,eb⟩:=uA e;rw[eb]
    by_cases hsz:xs.length=ys.length
    ·have:=RcNeAt.lists (e:=kC (eqD h n) xs ys) pl1.isList pl2.isList (by rw[List.size_toArray,List.size_toArray];lia) hu0 (aY I r n A (lR I r n) (by lia) _ _ b _ _ its its2 e p3 o3 r1 r2)
     rw[List.size_toArray,<- l1,l3] at this;rw[<- hsz,Nat.min_self,beq_self_eq_true,Bool.and_true];exact this
    ·have e2:(xs.length == ys.length)=false:=by simpa using hsz
     rw[e2,Bool.and_false];exact RcNeAt.lists_lengths pl1.isList pl2.isList (by rw[List.size_toArray,List.size_toArray,<- l1,<- l2,l3,l4];simpa using hsz) hu0
 cases x with
 |non=>
  cases y with
  |non=>cases hx;cases rv;cases hy;cases ru;cases e;exact RcNeAt.none_none
  |_=>cases e
 |bl x=>
  cases y with
  |bl y=>cases hx;cases rv;cases hy;cases ru;cases e;exact RcNeAt.bool_bool _ _
  |int y=>cases hx;cases rv;cases hy;obtain ⟨t',rfl⟩:=ru;cases e;exact RcNeAt.bool_int _ _ _
  |_=>cases e
 |int x=>
  cases y with
  |non=>cases hx;obtain ⟨t,rfl⟩:=rv;cases hy;cases ru;cases e;exact RcNeAt.int_none _ _
  |bl y=>cases hx;obtain ⟨t,rfl⟩:=rv;cases hy;cases ru;cases e;exact RcNeAt.int_bool _ _ _
  |int y=>cases hx;obtain ⟨t,rfl⟩:=rv;cases hy;obtain ⟨t',rfl⟩:=ru;cases e;exact RcNeAt.int_int _ _ _ _
  |_=>cases e
 |str x=>
  cases y with
  |str y=>cases hx;obtain ⟨t,rfl⟩:=rv;cases hy;obtain ⟨t',rfl⟩:=ru;cases e;exact strEq _ _ _ _
  |_=>cases e
 |tup x=>
  cases y with
  |tup y=>obtain ⟨a,vs,rfl,k1,k2⟩:=hx;cases rv;obtain ⟨a2,us,rfl,m1,m2⟩:=hy;cases ru;exact tt k1 m1 k2 m2 e
  |_=>cases e
 |ref x=>
  cases y with
  |ref y=>obtain ⟨a,k1,rfl⟩:=hx;cases rv;obtain ⟨a2,m1,rfl⟩:=hy;cases ru;exact ll k1 m1 e
  |_=>cases e
end
section
variable {X:Cx}
theorem qHd(hu:X.A.units+64<cLine):OpR X (compareOp .Eq) (rB X.K .eq):=by
 rintro pins s U H x y v u Q I rx ry ⟨w,Y,h,d,e,r,hd,he,p⟩
 have p:PostV X.K w Q Y H (match eqD h 40 d e with | some b=>.ok (.bl b) h | none=>.bad):=p;cases q:eqD h 40 d e with
 |none=>rw[q] at p;cases p
 |some b=>rw[q] at p;exact lR I r 40 d e b x y v u X.A q hd he rx ry (by lia) X.prog X.w X.xe _ ⟨.bl b,H,I,rfl,PostV.now p r rfl⟩
theorem qHU(hu:X.A.units+64<cLine):OpR X (compareOp .NotEq) (rB X.K .ne):=by
 rintro pins s U H x y v u Q I rx ry ⟨w,Y,h,d,e,r,hd,he,p⟩
 have p:PostV X.K w Q Y H (match eqD h 40 d e with | some b=>.ok (.bl (!b)) h | none=>.bad):=p;cases q:eqD h 40 d e with
 |none=>rw[q] at p;cases p
 |some b=>rw[q] at p;exact qJE I r 39 d e b x y v u X.A q hd he rx ry (by lia) X.prog X.w X.xe _ ⟨.bl (!b),H,I,rfl,PostV.now p r rfl⟩
end
open PySem PySem.Spec PyProof.Rows PySem.StrLaws Builtin.Str
theorem gM(n d:Nat)(o:Option Int):qY n d o=HT.sIx n d o:=by cases o <;> rfl
theorem qC3(xs:List V)(lo hi:Option Int):L2.cutV xs lo hi=qN xs lo hi:=by
 unfold L2.cutV qN;rw[gM,gM]
theorem qC5(n d:Nat)(hd:d<=n)(o:Option Int):qY n d o<=n:=by rw[gM];exact HT.sIx_le n d hd o
theorem RepL.cut{K:PySem.W.Frag}(l:RepL K Y H xs vs)(lo hi:Option Int):RepL K Y H (qN xs lo hi) (qN vs lo hi):=by
 unfold qN;rw[l.length];exact (l.drop _).take _
theorem qB9(lo hi:Option Int)(n:Nat):strSliceIndices lo hi 1 n=(List.range (qY n n hi-qY n 0 lo)).map fun k=>qY n 0 lo+k:=by
 have c1:(match lo with | none=>(0:Int) | some i=>max 0 (min (if i<0 then i+(n:Int) else i) (n:Int)))=(qY n 0 lo:Int):=by
  cases lo with
  |none=>rfl
  |some v=>unfold qY;simp only;split <;> lia
 have c2:(match hi with | none=>(n:Int) | some i=>max 0 (min (if i<0 then i+(n:Int) else i) (n:Int)))=(qY n n hi:Int):=by
  cases hi with
  |none=>rfl
  |some v=>unfold qY;simp only;split <;> lia
 have e:strSliceIndices lo hi 1 n=sliceRange (qY n 0 lo:Int) (qY n n hi:Int) 1:=by
  rw[<- c1,<- c2];unfold strSliceIndices;cases lo <;> cases hi <;> simp
 rw[e];unfold sliceRange;simp only[show (1:Int) > 0 from by decide,if_true]
 by_cases hlt:(qY n 0 lo:Int)<(qY n n hi:Int)
 ·rw[if_pos hlt]
  have e3:(((qY n n hi:Int)-(qY n 0 lo:Int)+1-1) / 1).toNat=qY n n hi-qY n 0 lo:=by
   rw[Int.ediv_one]
   lia
  rw[e3];refine List.map_congr_left fun k _=>?_
  lia
 ·rw[if_neg hlt]
  have:qY n n hi-qY n 0 lo=0:=by lia
  rw[this];rfl
theorem qGI(x:Tx)(lo hi:Option Int):Txt.slice ⟨x.toArray⟩ lo hi=⟨(qN x lo hi).toArray⟩:=by
 have hl:(⟨x.toArray⟩:Str).length=x.length:=zL x;have a1:=qC5 x.length 0 (Nat.zero_le _) lo;have a2:=qC5 x.length x.length (Nat.le_refl _) hi
 have pk:((strSliceIndices lo hi 1 (⟨x.toArray⟩:Str).length).filterMap ((⟨x.toArray⟩:Str).cps[·]?))=qN x lo hi:=by
  rw[hl,qB9];unfold qN
  by_cases hc:qY x.length 0 lo<=qY x.length x.length hi
  ·have:=picks x (qY x.length x.length hi-qY x.length 0 lo) (qY x.length 0 lo) (by lia)
   simpa using this
  ·have:qY x.length x.length hi-qY x.length 0 lo=0:=by lia
   rw[this];simp
 unfold Txt.slice;split
 ·rename_i hc;have hc':(strSliceIndices lo hi 1 (⟨x.toArray⟩:Str).length).length=x.length:=by simpa [hl] using hc
  rw[hl,qB9,List.length_map,List.length_range] at hc'
  have e:qN x lo hi=x:=by
   unfold qN;have z:qY x.length 0 lo=0:=by lia
   rw[z,List.drop_zero];exact List.take_of_length_le (by lia)
  rw[e]
 ·rw[pk]
section
open HT
variable {prog:Program}{w:World}{A:Around}{E:Value->Shared->Prop}{s:Shared}
theorem qFI{vl:Value}{lo:Option Int}(ht:IsTup s.heap t items)(hs:s.heap.IsSliceOf sl vl vu .none)(pl:IsPart vl lo)(pu:IsPart vu hi)
  (hw:sIx items.size 0 lo=0/\sIx items.size items.size hi=items.size) (h:Q (.ref t) s):wpAny (model prog w) A (getItem (.ref t) (.ref sl)) Q E s:=by
 obtain ⟨os,hos,hcs,hds⟩:=id hs;have hTs:s.TypeIs (.ref sl) "slice":=⟨os,hos,hcs⟩;unfold getItem
 try with_reducible refine wpAny_holding ?_
 first | refine wpAny_bind (wpAny_pure ?_) | skip
 refine wpAny_bind (wpAny_sequenceKey ht.typeIs (by decide) ?_)
 refine wpAny_bind (wpAny_callSpecial?_slot (name:=Str.ofString "__getitem__") ht.typeIs PyProof.Rows.slot_tuple_getitem
  (wpAny_call_entry PyProof.Rows.slot_tuple_getitem ht.typeIs entry_tuple_getitem ?_ (args_tuple_getitem _ _)))
 show wpAny _ _ (Builtin.Tuple.tupleItemsOf (.ref t) >>= _) _ _ s;refine wpAny_bind (tupleItemsOf_ ht ?_);refine wpAny_bind (wpAny_typeOf hTs ?_);rw[if_pos (by decide)];refine wpAny_bind (qAV hs pl pu ?_)
 have hno:((((sIx items.size 0 lo:Nat):Int) == 0&&(1:Int) == 1&&(sIx items.size items.size hi-sIx items.size 0 lo) == items.size)=true):=by
  rw[hw.1,hw.2];simp
 show wpAny _ _ (if (((sIx items.size 0 lo:Nat):Int) == 0&&(1:Int) == 1&&(sIx items.size items.size hi-sIx items.size 0 lo) == items.size)=true then _ else _) _ _ s;rw[if_pos hno];refine wpAny_bind ?_;unfold Builtin.Tuple.tupleIsExact;refine wpAny_bind (wpAny_typeOf ht.typeIs (wpAny_pure ?_));rw[if_pos (by decide)];exact wpAny_bind (wpAny_rule (wpAny_pure ⟨_,rfl,wpAny_pure h⟩))
end
section
variable {X:Cx}{F:Nat->List D->M D}{W:WX}
theorem qA7(p:IsPart v o):∃ q:Option (Int × Tok),v=partValue q/\q.map (·.1)=o:=by
 cases p with
 |none=>exact⟨none,rfl,rfl⟩
 |int i t=>exact⟨some (i,t),rfl,rfl⟩
def rSl(K:PySem.W.Frag):V->Option Int->Option Int->Hp->VK->Prop:=fun x lo hi H Q=>∃ (w:W1),∃ Y h d,RepH K Y h H/\RepV K Y H d x/\PostV K w Q Y H (slD d lo hi h)
theorem qGL:SlR X (rSl X.K):=by
 rintro pins s U H x v vl vu lo hi sl Q I rx hs pl pu ⟨w,Y,h,d,r,hd,p⟩
 unfold slD at p;cases d with
 |str x=>
  cases hd;obtain ⟨t,rfl⟩:=rx;obtain ⟨hz,p⟩:=PostV.ite (c:=x.length<=16777216) p;obtain ⟨ql,rfl,rfl⟩:=qA7 pl;obtain ⟨qu,rfl,rfl⟩:=qA7 pu;refine⟨"str",_,F.slot_str_getitem.lookup,typeIs_str _ _ _,wpAny_getItem_str_slice (l:=ql) (u:=qu) (st:=none) hs rfl ?_⟩;refine post_val_or_str ?_;show (Txt.slice ⟨x.toArray⟩ (ql.map (·.1)) (qu.map (·.1))).length<=sizeLine/\∀ t' k,EP X pins U Q (.str (Txt.slice ⟨x.toArray⟩ (ql.map (·.1)) (qu.map (·.1))) t') { s with toks:=k };refine⟨Nat.le_trans (Txt.slice_le _ _ _) (by rw[zL,zF];exact hz),fun t' k=>?_⟩;rw[qGI]
  exact⟨.str ⟨(qN x (ql.map fun z:Int × Tok=>z.1) (qu.map fun z:Int × Tok=>z.1)).toArray⟩,H,I.tok k,⟨t',rfl⟩,PostV.now p r rfl⟩
 |tup xs=>
  obtain ⟨a,vs,rfl,h1,h2⟩:=hd
  by_cases hw:HT.sIx vs.length 0 lo=0/\HT.sIx vs.length vs.length hi=vs.length
  ·cases rx;obtain ⟨its,rv,ht,hz⟩:=I.tuple h1;refine⟨"tuple",_,PyProof.Rows.slot_tuple_getitem.lookup,ht.typeIs,qFI ht hs pl pu (by rw[List.size_toArray,<- rv.length];exact hw) ?_⟩;refine⟨.ref a,H,I,rfl,PostV.now p r ⟨a,vs,rfl,h1,?_⟩⟩
   have e:qN xs lo hi=xs:=by
    unfold qN;rw[gM,gM,<- h2.length,hw.1,hw.2,List.drop_zero,Nat.sub_zero,h2.length];exact List.take_length
   rw[e];exact h2
  ·exact L2.sl_tup pins s U H _ v vl vu lo hi sl Q I rx hs pl pu ⟨a,vs,rfl,h1,hw,by rw[qC3];exact PostV.newT p r (h2.cut lo hi)⟩
 |ref i=>
  simp only at p;cases q:getL h i with
  |none=>rw[q] at p;cases p
  |some xs=>rw[q] at p;obtain ⟨a,vs,rfl,h1,h2⟩:=r.seen q hd;exact L2.sl_list pins s U H _ v vl vu lo hi sl Q I rx hs pl pu ⟨a,vs,rfl,h1,by rw[qC3];exact (PostV.newL p r (h2.cut lo hi)).2⟩
 |_=>exact False.elim p
def tDP(K:PySem.W.Frag)(W:WX)(m:Env->M (Option Int)):TO:=fun U H Q=>∃ Y env h,RepS K Y H env U/\RepH K Y h H/\Post K (W.at U) (fun _ H' o=>Q o H') Y H (m env h)
theorem PO.imp(h:PO X o t)(i:∀ U H Q,t' U H Q->t U H Q):PO X o t':=fun pins s U H Q I q=>h pins s U H Q I (i U H Q q)
theorem qMi:PO X none (tDP X.K W (kR F .no)):=PO.imp L2.po_none fun U H Q t=>by
 obtain ⟨Y,env,h,s,r,p⟩:=t;dsimp only[kR] at p;exact Post.ret p r
theorem qMj(he:PE X e (tD X.K W (den F c))):PO X (some e) (tDP X.K W (kR F (.at c))):=PO.imp (L2.po_some he) fun U H Q t=>by
 obtain ⟨Y,env,h,s,r,p⟩:=t;dsimp only[kR] at p;refine⟨Y,env,h,s,r,Post.bind p fun Y1 h1 d H1 e1 r1 q v hv=>?_⟩;cases d with
 |int i=>cases hv;exact⟨i,rfl,Post.ret (a:=some i) q r1⟩
 |_=>cases q
theorem qNC{lo:Option Expr}(ha:PE X a (tD X.K W (den F ca)))(hl:PO X lo (tDP X.K W (kR F cl)))(hh:PO X hi (tDP X.K W (kR F ch))) :
  PE X (.Subscript a (.Slice lo hi none p2) pos) (tD X.K W (den F (.sl ca cl ch))):=PE.imp (L2.pe_slice qGL ha hl hh) fun U H Q t=>by
 obtain ⟨Y,env,h,s,r,p⟩:=t;dsimp only[den] at p
 exact⟨Y,env,h,s,r,Post.bind p fun Y1 h1 d H1 e1 r1 q v hv=>⟨Y1,env,h1,s.mono e1,r1,Post.bind q fun Y2 h2 l H2 e2 r2 q2=>⟨Y2,env,h2,(s.mono e1).mono e2,r2,Post.bind q2 fun Y3 h3 u H3 e3 r3 q3=>⟨_,Y3,h3,d,r3,(hv.mono e2 _ _).mono e3 _ _,q3⟩⟩⟩⟩
end
def tyS:Ty->String
 | .int=>"int" | .str=>"str" | .bool=>"bool" | .list=>"list" | .tuple=>"tuple"
section
variable (K:PySem.W.Frag)
theorem qKY (t:Ty):PySem.W.kitOne K (.type "NoneType") (.type (tyS t))=some false:=by cases t <;> first | rfl | kernel_rfl
theorem qKb (t:Ty):PySem.W.kitOne K (.type "bool") (.type (tyS t))=some (t == .bool || t == .int):=by cases t <;> first | rfl | kernel_rfl
theorem qKa (t:Ty):PySem.W.kitOne K (.type "int") (.type (tyS t))=some (t == .int):=by cases t <;> first | rfl | kernel_rfl
theorem qKX (t:Ty):PySem.W.kitOne K (.type "str") (.type (tyS t))=some (t == .str):=by cases t <;> first | rfl | kernel_rfl
theorem qKW (t:Ty):PySem.W.kitOne K (.type "tuple") (.type (tyS t))=some (t == .tuple):=by cases t <;> first | rfl | kernel_rfl
theorem qKZ (t:Ty):PySem.W.kitOne K (.type "list") (.type (tyS t))=some (t == .list):=by cases t <;> first | rfl | kernel_rfl
end
section
variable {X:Cx}{F:Nat->List D->M D}{W:WX}
theorem qK3
  (I:Inv X pins U H s) (r:RepH X.K Y h H) (hd:RepV X.K Y H d x) (rx:RelV x u) (e:kP h t d=some b) (q:∀ tk,Q (.bool b) { s with toks:=tk }) :
  wpAny (model X.prog X.w) A (call (.builtin "isinstance") [u,.type (tyS t)]) Q E s:=by
 cases d with
 |non=>cases hd;cases e;cases (show u=Value.none from rx);exact PySem.W.kia_one PySem.W.kitx_none I.kIn True.intro (qKY _ t) (fun z=>nomatch z) q
 |bl c=>cases hd;cases e;cases (show u=Value.bool c from rx);exact PySem.W.kia_one PySem.W.kitx_bool I.kIn True.intro (qKb _ t) (fun z=>nomatch z) q
 |int i=>cases hd;cases e;obtain ⟨tk,z⟩:=rx;cases z;exact PySem.W.kia_one PySem.W.kitx_int I.kIn True.intro (qKa _ t) (fun z=>nomatch z) q
 |str y=>cases hd;cases e;obtain ⟨tk,z⟩:=rx;cases z;exact PySem.W.kia_one PySem.W.kitx_str I.kIn True.intro (qKX _ t) (fun z=>nomatch z) q
 |tup ys=>obtain ⟨a,vs,rfl,h1,h2⟩:=hd;cases e;cases rx;obtain ⟨its,_,⟨o,k1,k2,_⟩,_⟩:=I.tuple h1;exact PySem.W.kia_one PySem.W.kitx_tuple I.kIn ⟨o,k1,k2⟩ (qKW _ t) (fun z=>nomatch z) q
 |ref i=>
  have e:(getL h i).map (fun _=>t == .list)=some b:=e;cases z:getL h i with
  |none=>rw[z] at e;cases e
  |some ys=>rw[z] at e;cases e;obtain ⟨a,vs,rfl,h1,h2⟩:=r.seen z hd;cases rx;obtain ⟨its,_,pl,_⟩:=I.list h1;obtain ⟨o,n,k1,k2,_⟩:=pl;exact PySem.W.kia_one PySem.W.kitx_list I.kIn ⟨o,k1,k2⟩ (qKZ _ t) (fun z=>nomatch z) q
def qHC(K:PySem.W.Frag)(t:Ty):List V->Hp->VK->Prop:=fun xs H Q=>∃ x,xs=[x,.ty (tyS t)]/\rU K (.isi t) x H Q
theorem qOD (t:Ty):qM X (.builtin "isinstance") (qHC X.K t):=by
 rintro pins s U H xs us Q I rv ⟨x,rfl,w,Y,h,d,r,hd,p⟩
 obtain ⟨u,w,rfl,ru,rw'⟩:=L2.Vals.two rv;cases rw';have p:PostV X.K w Q Y H (match kP h t d with | some b=>.ok (.bl b) h | none=>.bad):=p;cases e:kP h t d with
 |none=>rw[e] at p;cases p
 |some b=>rw[e] at p;exact qK3 I r hd ru e fun tk=>⟨.bl b,H,I.tok tk,rfl,PostV.now p r rfl⟩
theorem qNS {x:Str} (hx:x="isinstance") (hg:L2.Gl X x) (hm:X.mg x=none) (hgT:L2.Gl X y) (hmT:X.mg y=none) (hv:bootBuiltins y=some (.type (tyS t))) (hn:y≠"__name__") (hdb:(y == ("__debug__":Str))=false)
  (ha:PE X a (tD X.K W (den F ca))) (hst:starEach [a,.Name y p2] X.env=[(false,eval a X.env),(false,eval (.Name y p2) X.env)]):PE X (.Call (.Name x p1) [a,.Name y p2] [] pos) (tD X.K W (den F (.un (.isi t) ca))):=by
 subst hx;refine PE.imp (L2.pe_callB (qOD t) hg hm boot_isinstance (L2.pa_cons ha (L2.pa_cons (L2.pe_bltn (v:=.ty (tyS t)) hgT hmT hv rfl hn hdb) L2.pa_nil (by rfl)) (by rw[hst];rfl)) (he:=by rw[hst];rfl)) fun U H Q q=>?_;obtain ⟨Y,env,h,s,r',p⟩:=one q
 exact⟨Y,env,h,s,r',Post.imp p fun Y' H' d q v hv=>⟨v,rfl,q v hv⟩⟩
theorem kZ(he:PE X e (L2.tBM X.K T r (tD X.K W (den F ca)) (L2.tCons (tD X.K W (den F cb)) L2.tNil)))
  (hty:∀ Y h d v H,RepH X.K Y h H->RepV X.K Y H d v->∀ h',zJ o d h=.ok () h'->h'=h/\L2.tyV X.K T v H) (hexc:∀ d h c h',zJ o d h≠.exc c h') (hr:∀ x y H Q,rB X.K o x y H Q->r x [y] H Q):PE X e (tD X.K W (den F (.me o ca cb))):=PE.imp he fun U H Q t=>by
 obtain ⟨Y,env,h,s,r',p⟩:=t;dsimp only[den] at p;refine⟨Y,env,h,s,r',Post.bind p fun Y1 h1 d H1 e1 r1 q v hv=>?_⟩;unfold M.bind at q;cases z:zJ o d h1 with
 |ok u h2=>rw[z] at q;obtain ⟨rfl,ty⟩:=hty Y1 h1 d v H1 r1 hv _ z;refine⟨ty,Y1,env,_,s.mono e1,r1,?_⟩;exact Post.bind q fun Y2 h2 d2 H2 e2 r2 q2 w hw=>hr v w H2 Q ⟨_,Y2,h2,d,d2,r2,hv.mono e2 _ _,hw,q2⟩
 |exc c h2=>exact absurd z (hexc _ _ _ _)
 |bad=>rw[z] at q;cases q
theorem kD(o:Bi)(d:D)(h:AH)(c:Nat)(h':AH):zJ o d h≠.exc c h':=by
 unfold zJ;intro z;split at z
 all_goals first | cases z | (split at z <;> cases z)
theorem qNd {x:Str} (hx:x="append") (ha:PE X a (tD X.K W (den F ca))) (hb:PE X b (tD X.K W (den F cb))) (hbase:attributeBase a x X.env (eval a X.env)=eval a X.env) (hline:(apos.endLine == cpos.line)=true)
  (hst:starEach [b] X.env=[(false,eval b X.env)]):PE X (.Call (.Attribute a x apos) [b] [] cpos) (tD X.K W (den F (.me .append ca cb))):=by
 subst hx;refine kZ (L2.pe_bm PySem.F.plainAttrs_list PySem.F.slot_list_append PySem.F.type_list_append L2.mt_append ha (L2.pa_cons hb L2.pa_nil (by rw[hst];rfl)) hbase (by rw[hst];rfl) hline (by rw[hst];rfl)) (fun Y h d v H r hv h' z=>?_) (kD _) (fun x y H Q z=>?_)
 ·cases d with
  |ref i=>
   have z:(match getL h i with | some _=>R.ok () h | none=>.bad)=.ok () h':=z;cases e:getL h i with
   |none=>rw[e] at z;cases z
   |some xs=>
    rw[e] at z;cases z;obtain ⟨a,vs,rfl,h1,_⟩:=r.seen e hv
    exact⟨rfl,.inl ⟨rfl,vs,h1⟩⟩
  |_=>cases z
 ·obtain ⟨w,Y,h,d,e,r,hd,he,p⟩:=z;cases d with
  |ref k=>
   have p:PostV X.K w Q Y H (match h[k]? with | some (.lst xs)=>if xs.length<16777216 then .ok .non (h.set k (.lst (xs++[e]))) else .bad | _=>.bad):=p;split at p
   ·rename_i xs q;obtain ⟨hz,p⟩:=PostV.ite p;obtain ⟨a,vs,rfl,ha,hH,hl⟩:=r.own q hd;refine⟨a,vs,y,rfl,rfl,hH,by rw[hl.length,zF];exact hz,?_⟩;have hl':RepL X.K Y H (xs++[e]) (vs++[y]):=hl.append ⟨y,[],rfl,he,rfl⟩;exact p Y _ (Step.turn hH rfl (List.mem_of_getElem? ha)) (r.setList q ha hH hl') _ rfl
   ·cases p
  |_=>exact False.elim p
theorem bY{K:PySem.W.Frag}:∀ {ds:List D} {vs:List V} {ns:List Int},zX ds=some ns->RepL K Y H ds vs->vs=ns.map V.int
 | [],_,_,e,h=>by cases e;cases h;rfl
 |d::ds,_,ns,e,⟨v,vs,hv,h1,h2⟩=>by
  subst hv;cases d with
  |int b=>
   unfold zX at e;cases q:zX ds with
   |none=>rw[q] at e;cases e
   |some cs=>rw[q] at e;cases e;cases h1;rw[List.map_cons,bY q h2]
  |_=>cases e
theorem qCW(a:Int)(ns:List Int):L2.inV (.int a) (ns.map V.int)=ns.contains a:=by
 unfold L2.inV;rw[List.any_map,List.contains_eq_any_beq];congr 1;funext i;show L2.eqV (.int i) (.int a)=(a == i);rw[Bool.eq_iff_iff];simp[L2.eqV];exact eq_comm
theorem qCt(ns:List Int):(ns.map V.int).all L2.flatV=true:=by
 rw[List.all_map,List.all_eq_true];intro _ _;rfl
theorem qHZ(hu:X.A.units+64<cLine):OpR X (compareOp .In) (rB X.K .isin):=by
 rintro pins s U H x y v u Q I rx ry ⟨w,Y,h,d,e,r,hd,he,p⟩
 cases d with
 |str a=>
  cases e with
  |str b=>
   cases hd;cases he
   match a,p,rx with
   | [c],p,rx=>obtain ⟨t,rfl⟩:=rx;obtain ⟨t',rfl⟩:=ry;refine PyProof.Rows.in_str ?_;refine⟨.bl (b.contains c),H,I,?_,PostV.now (h:=h) p r rfl⟩;show Value.bool _=Value.bool _;have e1:(⟨[c].toArray⟩:Str)=⟨#[c]⟩:=rfl;rw[e1,PySem.StrLaws.found_one];congr 1;rw[Bool.eq_iff_iff];simp
   | [],p,_=>exact False.elim p
   |_::_::_,p,_=>exact False.elim p
  |_=>exact False.elim p
 |int c=>
  cases e with
  |ref i=>
   have p:PostV X.K w Q Y H (match (getL h i).bind zX with | some xs=>.ok (.bl (xs.contains c)) h | none=>kW i (.int c) h):=p;cases q1:(getL h i).bind zX with
   |none=>rw[q1] at p;exact qLH (ky:=.int c) I r hd he rx ry p
   |some ns=>
    rw[q1] at p;cases q:getL h i with
    |none=>rw[q] at q1;cases q1
    |some ds=>rw[q] at q1;obtain ⟨a,vs,rfl,h1,h2⟩:=r.seen q he;have hv:=bY q1 h2;subst hv;cases hd;refine L2.op_in_seq pins s U H _ _ v u Q I rx ry ⟨a,_,rfl,.inl h1,rfl,qCt ns,?_⟩;show Q (.bl (L2.inV (.int c) (ns.map V.int))) H;rw[qCW];exact PostV.now (h:=h) p r rfl
  |_=>exact False.elim p
 |_=>exact False.elim p
theorem qHT:OpR X (compareOp .NotIn) (rB X.K .notin):=by
 rintro pins s U H x y v u Q I rx ry ⟨w,Y,h,d,e,r,hd,he,p⟩
 cases d with
 |str a=>
  cases e with
  |str b=>
   cases hd;cases he
   match a,p,rx with
   | [c],p,rx=>obtain ⟨t,rfl⟩:=rx;obtain ⟨t',rfl⟩:=ry;refine PyProof.Rows.notIn_str ?_;refine⟨.bl (!b.contains c),H,I,?_,PostV.now (h:=h) p r rfl⟩;show Value.bool _=Value.bool _;have e1:(⟨[c].toArray⟩:Str)=⟨#[c]⟩:=rfl;rw[e1,PySem.StrLaws.found_one];congr 2;rw[Bool.eq_iff_iff];simp
   | [],p,_=>exact False.elim p
   |_::_::_,p,_=>exact False.elim p
  |_=>exact False.elim p
 |int c=>
  cases e with
  |ref i=>
   have p:PostV X.K w Q Y H (match (getL h i).bind zX with | some xs=>.ok (.bl (!xs.contains c)) h | none=>kE i (.int c) h):=p;cases q1:(getL h i).bind zX with
   |none=>rw[q1] at p;exact qIL (ky:=.int c) I r hd he rx ry p
   |some ns=>
    rw[q1] at p;cases q:getL h i with
    |none=>rw[q] at q1;cases q1
    |some ds=>rw[q] at q1;obtain ⟨a,vs,rfl,h1,h2⟩:=r.seen q he;have hv:=bY q1 h2;subst hv;cases hd;refine L2.op_notIn_seq pins s U H _ _ v u Q I rx ry ⟨a,_,rfl,.inl h1,rfl,qCt ns,?_⟩;show Q (.bl (!L2.inV (.int c) (ns.map V.int))) H;rw[qCW];exact PostV.now (h:=h) p r rfl
  |_=>exact False.elim p
 |_=>exact False.elim p
theorem qDW{K:PySem.W.Frag}:∀ {ds:List D} {vs:List V} {us:List Value} {bs:List Bool},vL ds=some bs->RepL K Y H ds vs->Vals vs us->LSm.BoolsAre us bs
 | [],_,_,_,e,h,r=>by
  cases e;cases h;cases r;exact .nil
 |d::ds,_,us,bs,e,⟨v,vs,hv,h1,h2⟩,r=>by
  subst hv;cases d with
  |bl b=>
   unfold vL at e;cases q:vL ds with
   |none=>rw[q] at e;cases e
   |some cs=>
    rw[q] at e;cases e;cases h1;cases r with
    |cons r1 r2=>cases r1;exact .cons b (qDW q h2 r2)
  |_=>cases e
theorem qOG (hc:X.calm=true):qM X (.builtin "all") (rC X.K .all):=by
 rintro pins s U H xs us Q I rv ⟨x,rfl,w,Y,h,d,r,hd,p⟩
 cases d with
 |ref i=>
  have p:PostV X.K w Q Y H (match (getL h i).bind uD with | some b=>.ok (.bl b) h | none=>.bad):=p;cases q:getL h i with
  |none=>rw[q] at p;cases p
  |some ds=>
   rw[q] at p;have p:PostV X.K w Q Y H (match (vL ds).map (·.all id) with | some b=>.ok (.bl b) h | none=>.bad):=p;cases qb:vL ds with
   |none=>rw[qb] at p;cases p
   |some bs=>
    rw[qb] at p;obtain ⟨a,vs,rfl,h1,h2⟩:=r.seen q hd;obtain ⟨u,rfl,ru⟩:=L2.Vals.one rv;cases ru;obtain ⟨its,rv',pl,hz⟩:=I.list h1;have hb:=qDW qb h2 rv';have hl:=pl.isList;have hlt:a<s.heap.objs.size:=by obtain ⟨_,e,_⟩:=hl;exact Heap.lt_size e
    refine PySem.call_all_walk (wpAny_pyIter_list hl ?_)
    refine⟨s.heap.objs.size,[s.heap.objs.size,a],[s.heap.objs.size],its.toArray.size,_,_,fun i=>(bs[i]?).getD true,rfl,Walks.list (A:=X.A.in1) (I.ok.hd hc) _ a (Nat.ne_of_lt hlt) its.toArray,
     ⟨⟨_,Heap.get?_push_size _ rfl,rfl,rfl⟩,hl.push _⟩,fun i v s' Q' E' hP hQ=>?_,fun h' tk hk=>?_⟩
    ·obtain ⟨b,e,rfl⟩:=hb.get i v (by simpa using hP);simp only[e,Option.getD_some] at hQ;exact wpAny_truthy_bool hQ
    ·have e:((List.range its.toArray.size).all fun i=>(bs[i]?).getD true)=bs.all id:=by
      rw[show its.toArray.size=bs.length by simpa using hb.length];exact LSm.range_all bs
     rw[e]
     exact⟨.bl (bs.all id),H,I.kept (t':=tk) (LSm.kept_iter hk),rfl,PostV.now p r rfl⟩
 |_=>exact False.elim p
end
section
variable {K:PySem.W.Frag}{Y:List Addr}{H:Hp}
theorem RepK.drop(k:Ky):∀ {kvs:List (Ky × D)} {vs:List (L2.Key × V)},RepK K Y H kvs vs->RepK K Y H (wA kvs k) (L2.dropK vs (kyV k))
 | [],_,h=>by cases h;rfl
 |x::kvs,_,⟨v,r,rfl,h1,h2⟩=>by
  unfold wA L2.dropK
  by_cases e:x.1=k
  ·rw[List.filter_cons_of_neg (by simpa using e),List.filter_cons_of_neg (by simpa using kyV_inj.mpr e)];exact RepK.drop k h2
  ·rw[List.filter_cons_of_pos (by simpa using e),List.filter_cons_of_pos (by simpa using fun z=>e (kyV_inj.mp z))]
   exact⟨v,_,rfl,h1,RepK.drop k h2⟩
end
section
variable {prog:Program}{w:World}{K:Type}[DecidableEq K]{knd:KeyKind prog w K}{A:Around}{E:Value->Shared->Prop}{s:Shared}
theorem qGP{dflt:Value}(hkey:knd.is k key=true)(hm:s.heap.DictOf knd d kvs)(hz:kvs.length<=sizeLine)
  (hthere:∀ v,valueAt kvs k=some v->Q v { s with toks:=s.toks+1 })
  (hnew:valueAt kvs k=none->∀ h',h'.DictOf knd d (stored kvs k dflt)->Heap.SameBut d s.heap h'->Q dflt { s with heap:=h',toks:=s.toks+1 }) :
  wpAny (model prog w) A (dictSetDefault d key dflt) Q E s:=by
 have hmm:=hm.mapOf;obtain ⟨o,es,ep,ho,hc,hd,hk,hp,hn⟩:=hm
 have hes:es.size<=sizeLine:=by
  have e1:=hp.length;have e2:es.toList.length=es.size:=by simp
  lia
 have hidx:(es.findIdx? fun e=>knd.is k e.key)=kvs.findIdx? fun kv=>decide (kv.1=k):=by
  rw[<- hp.findIdx k];obtain ⟨l⟩:=es;simp
 obtain ⟨o2,es2,ep2,ho2,hc2,hd2,hk2,hf2⟩:=hmm;rw[ho] at ho2;cases ho2;rw[hd] at hd2;cases hd2;unfold dictSetDefault
 try with_reducible refine wpAny_holding ?_
 refine wpAny_bind (knd.pyHash hkey ?_);refine wpAny_bind (wpAny_dictFind_of (s:={ s with toks:=s.toks+1 }) hkey ho hd hk ?_);cases hi:es.findIdx? fun e=>knd.is k e.key with
 |some i=>
  have hfk:valueAt kvs k=(es[i]?).map (·.val):=by rw[<- hf2 k,findBy_of_findIdx?,hi]
  refine wpAny_bind (wpAny_dictEntries (s:={ s with toks:=s.toks+1 }) ho hd ?_);cases he:es[i]? with
  |none=>have hlt:i<es.size:=(Array.findIdx?_eq_some_iff_findIdx_eq.mp hi).1;rw[Array.getElem?_eq_getElem hlt] at he;exact nomatch he
  |some e=>rw[he] at hfk;exact wpAny_bind (wpAny_rule (wpAny_pure (hthere e.val hfk)))
 |none=>
  have hfk:valueAt kvs k=none:=by rw[<- hf2 k,findBy_of_findIdx?,hi]
  have hnot:k∉kvs.map (·.1):=not_mem_of_findIdx_none (hidx ▸ hi)
  have hany:¬ (kvs.any fun kv=>decide (kv.1=k))=true:=by
   rw[List.any_eq_true]
   rintro ⟨kv,hkv,he⟩
   exact hnot (List.mem_map.mpr ⟨kv,hkv,of_decide_eq_true he⟩)
  have hst:stored kvs k dflt=kvs++[(k,dflt)]:=by rw[stored,if_neg hany]
  refine wpAny_bind (wpAny_rule (wpAny_bind (wpAny_updateDictKeys (hz:=hes) (s:={ s with toks:=s.toks+1 }) ho hd (wpAny_pure (hnew hfk _ (by
   rw[hst];refine⟨_,_,ep+1,Heap.get?_update_self _ ho (Obj.isFreed_of_dict (Obj.data_mapDictKeys hd _)),hc.mapDictKeys _,Obj.data_mapDictKeys hd _,hk.push hkey _,?_,?_⟩
   ·have:=hp.append hkey (knd.hash k) dflt
    obtain ⟨l⟩:=es;simpa using this
   ·rw[List.map_append,List.nodup_append];refine⟨hn,by simp,?_⟩;intro a ha b hb;have hb:b=k:=by simpa using hb
    subst hb
    exact fun e=>hnot (e ▸ ha)) (Heap.SameBut.update ..))))))
end
section
variable {prog:Program}{w:World}{K:Type}[DecidableEq K]
theorem qGQ(knd:KeyKind prog w K)(d:Addr)(hkey:knd.is k key=true)(hd:(d == sysModules)=false)(dflt:Value) :
  MeetsIn prog w (Builtin.«dict.setdefault» ⟨[.ref d,key,dflt],[]⟩) (fun _ R s=>∃ kvs,s.heap.DictOf knd d kvs/\kvs.length<=sizeLine /\
   (∀ v,valueAt kvs k=some v->R (.ok (.ret v)) { s with toks:=s.toks+1 }) /\
   (valueAt kvs k=none->∀ h',h'.DictOf knd d (stored kvs k dflt)->Heap.SameBut d s.heap h'->R (.ok (.ret dflt)) { s with heap:=h',toks:=s.toks+1 })):=
 .of_wp fun A R s ⟨kvs,hm,hz,h1,h2⟩=>by
  unfold Builtin.«dict.setdefault»;refine wpAny_bind ?_;unfold Builtin.Dict.keyAndDefault;refine wpAny_bind (wpAny_notOrdered_dict hm.typeIs ?_);refine wpAny_pure ?_;show wpAny _ _ (if (d == sysModules)=true then _ else (dictSetDefault d key dflt >>= _)) _ _ s;rw[hd];exact wpAny_bind (qGP hkey hm hz (fun v hv=>wpAny_pure ⟨v,rfl,h1 v hv⟩) fun hn h' hm' hs'=>wpAny_pure ⟨dflt,rfl,h2 hn h' hm' hs'⟩)
end
section
variable {X:Cx}{F:Nat->List D->M D}{W:WX}
theorem gJ (r:RepH X.K Y h H) (hv:RepV X.K Y H d v) (z:zJ .get d h=.ok () h'):h'=h/\L2.tyV X.K "dict" v H:=by
 cases d with
 |ref i=>
  have z:(match h[i]? with | some (.dct _)=>R.ok () h | _=>.bad)=.ok () h':=z;split at z
  ·rename_i kvs q;cases z;obtain ⟨a,vs,rfl,_,h1,_⟩:=r.dict q hv
   exact⟨rfl,.inr (.inr (.inl ⟨rfl,.inl ⟨vs,h1⟩⟩))⟩
  ·cases z
 |_=>cases z
theorem qNV {x:Str} (hx:x="get") (ha:PE X a (tD X.K W (den F ca))) (hb:PE X b (tD X.K W (den F cb))) (hbase:attributeBase a x X.env (eval a X.env)=eval a X.env) (hline:(apos.endLine == cpos.line)=true)
  (hst:starEach [b] X.env=[(false,eval b X.env)]):PE X (.Call (.Attribute a x apos) [b] [] cpos) (tD X.K W (den F (.me .get ca cb))):=by
 subst hx
 have mt:L2.MtR X "dict.get" fun x ys H Q=>∃ y,ys=[y]/\rB X.K .get x y H Q:=by
  rintro pins s U H x vs v us Q I rx rv ⟨y,rfl,w,Y,h,d,e,r,hd,he,p⟩
  obtain ⟨u,rfl,ru⟩:=rv.one;cases d with
  |ref k=>
   cases e with
   |int i=>
    have p:PostV X.K w Q Y H (match h[k]? with | some (.dct kvs)=>.ok ((qH kvs (.int i)).getD .non) h | _=>.bad):=p;split at p
    ·rename_i kvs q;obtain ⟨a,ws,rfl,ha',hH,hk⟩:=r.dict q hd;cases rx;cases he;obtain ⟨z,hd',os,rel,dd⟩:=L2.dk_rd I.hok (.inl hH);have ry:RelV (L2.kV (.inl i)) u:=ru;refine call_meetsIn PySem.F.slot_dict_get dd.typeIs PySem.F.entry_dict_get (PySem.F.args_dict_get_2 _ _) (meets_dict_get (L2.mixKind X.prog X.w) a (L2.kV_is ry) hd') ⟨_,dd.mapOf,?_⟩;have gv:=(rel.val (.inl i)).getD (d:=.non) (d':=.none) rfl;rcases hk.val (.int i) with⟨d,v',e1,e2,hv⟩ | ⟨e1,e2⟩
     ·rw[e1] at p;have e2:L2.valV ws (Sum.inl i)=some v':=e2;rw[e2] at gv
      exact⟨v',H,I.tok _,gv,PostV.now p r hv⟩
     ·rw[e1] at p;have e2:L2.valV ws (Sum.inl i)=none:=e2;rw[e2] at gv
      exact⟨.non,H,I.tok _,gv,PostV.now p r rfl⟩
    ·cases p
   |_=>exact False.elim p
  |_=>exact False.elim p
 exact kZ (L2.pe_bm PySem.F.plainAttrs_dict PySem.F.slot_dict_get PySem.F.type_dict_get mt ha (L2.pa_cons hb L2.pa_nil (by rw[hst];rfl)) hbase (by rw[hst];rfl) hline (by rw[hst];rfl)) (fun Y h d v H r hv h' z=>gJ r hv z) (kD _) (fun x y H Q z=>⟨y,rfl,z⟩)
theorem d_pop {x:Str} (hx:x="pop") (ha:PE X a (tD X.K W (den F ca))) (hb:PE X b (tD X.K W (den F cb))) (hbase:attributeBase a x X.env (eval a X.env)=eval a X.env) (hline:(apos.endLine == cpos.line)=true)
  (hst:starEach [b] X.env=[(false,eval b X.env)]):PE X (.Call (.Attribute a x apos) [b] [] cpos) (tD X.K W (den F (.me .pop ca cb))):=by
 subst hx
 have mt:L2.MtR X "dict.pop" fun x ys H Q=>∃ y,ys=[y]/\rB X.K .pop x y H Q:=by
  rintro pins s U H x vs v us Q I rx rv ⟨y,rfl,w,Y,h,d,e,r,hd,he,p⟩
  obtain ⟨u,rfl,ru⟩:=rv.one;cases d with
  |ref k=>
   cases e with
   |int i=>
    have p:PostV X.K w Q Y H (match h[k]? with | some (.dct kvs)=>(match qH kvs (.int i) with | some d=>.ok d (h.set k (.dct (wA kvs (.int i)))) | none=>.bad) | _=>.bad):=p;split at p
    ·rename_i kvs q;obtain ⟨a,ws,rfl,ha',hH,hk⟩:=r.dict q hd;cases rx;cases he;have ry:RelV (L2.kV (.inl i)) u:=ru;rcases hk.val (.int i) with⟨d,v',e1,e2,hv⟩ | ⟨e1,e2⟩
     ·rw[e1] at p;have e2:L2.valV ws (Sum.inl i)=some v':=e2;have stp:Step Y H Y (upd H a (.dK (L2.dropK ws (Sum.inl i)))):=Step.turn hH rfl (List.mem_of_getElem? ha');exact L2.d_pop (k:=Sum.inl i) I hH ry e2 (.inl rfl) fun w' s' I' rw'=>⟨v',_,I',rw',p Y _ stp (r.setDict q ha' hH (hk.drop (.int i))) v' (hv.mono stp _ _)⟩
     ·rw[e1] at p;cases p
    ·cases p
   |_=>exact False.elim p
  |_=>exact False.elim p
 exact kZ (L2.pe_bm PySem.F.plainAttrs_dict PySem.F.slot_dict_pop PySem.F.type_dict_pop mt ha (L2.pa_cons hb L2.pa_nil (by rw[hst];rfl)) hbase (by rw[hst];rfl) hline (by rw[hst];rfl)) (fun Y h d v H r hv h' z=>by cases d <;> exact gJ r hv z) (kD _) (fun x y H Q z=>⟨y,rfl,z⟩)
theorem qNU {x:Str} (hx:x="get") (ha:PE X a (tD X.K W (den F ca))) (hb:PE X b (tD X.K W (den F cb))) (hc:PE X c (tD X.K W (den F cc))) (hbase:attributeBase a x X.env (eval a X.env)=eval a X.env) (hline:(apos.endLine == cpos.line)=true)
  (hst:starEach [b,c] X.env=[(false,eval b X.env),(false,eval c X.env)]) (hst2:starEach [c] X.env=[(false,eval c X.env)]):PE X (.Call (.Attribute a x apos) [b,c] [] cpos) (tD X.K W (den F (.getd ca cb cc))):=by
 subst hx
 have mt:L2.MtR X "dict.get" fun x ys H Q=>∃ (y z:V) (w:W1) (Y:List Addr) (h:AH) (d e f:D),ys=[y,z]/\RepH X.K Y h H/\RepV X.K Y H d x/\RepV X.K Y H e y/\RepV X.K Y H f z/\PostV X.K w Q Y H (lH d e f h):=by
  rintro pins s U H x vs v us Q I rx rv ⟨y,z,w,Y,h,d,e,f,rfl,r,hd,he,hf,p⟩
  obtain ⟨u,u2,rfl,ru,ru2⟩:=L2.Vals.two rv;cases d with
  |ref k=>
   cases e with
   |int i=>
    have p:PostV X.K w Q Y H (match h[k]? with | some (.dct kvs)=>.ok ((qH kvs (.int i)).getD f) h | _=>.bad):=p;split at p
    ·rename_i kvs q;obtain ⟨a,ws,rfl,ha',hH,hk⟩:=r.dict q hd;cases rx;cases he;obtain ⟨z0,hd',os,rel,dd⟩:=L2.dk_rd I.hok (.inl hH);have ry:RelV (L2.kV (.inl i)) u:=ru;refine call_meetsIn PySem.F.slot_dict_get dd.typeIs PySem.F.entry_dict_get (PySem.F.args_dict_get_3 _ _ _) (meets_dict_get_default (L2.mixKind X.prog X.w) a (L2.kV_is ry) hd' u2) ⟨_,dd.mapOf,?_⟩;have gv:=(rel.val (.inl i)).getD (d:=z) (d':=u2) ru2;rcases hk.val (.int i) with⟨d,v',e1,e2,hv⟩ | ⟨e1,e2⟩
     ·rw[e1] at p;have e2:L2.valV ws (Sum.inl i)=some v':=e2;rw[e2] at gv
      exact⟨v',H,I.tok _,gv,PostV.now p r hv⟩
     ·rw[e1] at p;have e2:L2.valV ws (Sum.inl i)=none:=e2;rw[e2] at gv
      exact⟨z,H,I.tok _,gv,PostV.now p r hf⟩
    ·cases p
   |_=>exact False.elim p
  |_=>exact False.elim p
 refine PE.imp (L2.pe_bm PySem.F.plainAttrs_dict PySem.F.slot_dict_get PySem.F.type_dict_get mt ha (L2.pa_cons hb (L2.pa_cons hc L2.pa_nil (by rw[hst2];rfl)) (by rw[hst,hst2])) hbase (by rw[hst];rfl) hline (by rw[hst,hst2]) (by rw[hst2];rfl)) fun U H Q t=>?_;obtain ⟨Y,env,h,s,r',p⟩:=t;dsimp only[den] at p;refine⟨Y,env,h,s,r',Post.bind p fun Y1 h1 d H1 e1 r1 q v hv=>?_⟩;unfold M.bind at q;cases z:zJ .get d h1 with
 |ok u h2=>rw[z] at q;obtain ⟨rfl,ty⟩:=gJ r1 hv z;refine⟨ty,Y1,env,_,s.mono e1,r1,?_⟩;exact Post.bind q fun Y2 h2 d2 H2 e2 r2 q2 w hw=>⟨Y2,env,h2,(s.mono e1).mono e2,r2,Post.bind q2 fun Y3 h3 d3 H3 e3 r3 q3 w3 hw3=>⟨w,w3,_,Y3,h3,d,d2,d3,rfl,r3,(hv.mono e2 _ _).mono e3 _ _,hw.mono e3 _ _,hw3,q3⟩⟩
 |exc c h2=>exact absurd z (kD _ _ _ _ _)
 |bad=>rw[z] at q;cases q
theorem qND {x:Str} (hx:x="setdefault") (ha:PE X a (tD X.K W (den F ca))) (hb:PE X b (tD X.K W (den F cb))) (hc:PE X c (tD X.K W (den F cc))) (hbase:attributeBase a x X.env (eval a X.env)=eval a X.env) (hline:(apos.endLine == cpos.line)=true)
  (hst:starEach [b,c] X.env=[(false,eval b X.env),(false,eval c X.env)]) (hst2:starEach [c] X.env=[(false,eval c X.env)]):PE X (.Call (.Attribute a x apos) [b,c] [] cpos) (tD X.K W (den F (.setd ca cb cc))):=by
 subst hx
 have mt:L2.MtR X "dict.setdefault" fun x ys H Q=>∃ (y z:V) (w:W1) (Y:List Addr) (h:AH) (d e f:D),ys=[y,z]/\RepH X.K Y h H/\RepV X.K Y H d x/\RepV X.K Y H e y/\RepV X.K Y H f z/\PostV X.K w Q Y H (fB d e f h):=by
  rintro pins s U H x vs v us Q I rx rv ⟨y,z,w,Y,h,d,e,f,rfl,r,hd,he,hf,p⟩
  obtain ⟨u,u2,rfl,ru,ru2⟩:=L2.Vals.two rv;cases d with
  |ref k=>
   cases e with
   |int i=>
    have p:PostV X.K w Q Y H (match h[k]? with | some (.dct kvs)=>(match qH kvs (.int i) with | some x=>.ok x h | none=>if kvs.length<16777216 then .ok f (h.set k (.dct (zE kvs (.int i) f))) else .bad) | _=>.bad):=p;split at p
    ·rename_i kvs q;obtain ⟨a,ws,rfl,ha',hH,hk⟩:=r.dict q hd;cases rx;cases he;obtain ⟨z0,hd',os,rel,dd⟩:=L2.dk_of I.hok hH;have ry:RelV (L2.kV (.inl i)) u:=ru;have hz0:os.length<=sizeLine:=by rw[<- rel.length];exact z0
     refine call_meetsIn PySem.F.slot_dict_setdefault dd.typeIs PySem.F.entry_dict_setdefault (PySem.F.args_dict_setdefault_3 _ _ _) (qGQ (L2.mixKind X.prog X.w) a (L2.kV_is ry) hd' u2) ⟨os,dd,hz0,fun v hv=>?_,fun hn h' dd' hs=>?_⟩
     ·have gv:=rel.val (.inl i);rw[hv] at gv;rcases hk.val (.int i) with⟨d,v',e1,e2,hv'⟩ | ⟨e1,e2⟩
      ·rw[e1] at p;have e2:L2.valV ws (Sum.inl i)=some v':=e2;rw[e2] at gv
       exact⟨v',H,I.tok _,gv,PostV.now p r hv'⟩
      ·have e2:L2.valV ws (Sum.inl i)=none:=e2;rw[e2] at gv;exact (show False from gv).elim
     ·have gv:=rel.val (.inl i);rw[hn] at gv;rcases hk.val (.int i) with⟨d,v',e1,e2,hv'⟩ | ⟨e1,e2⟩
      ·have e2:L2.valV ws (Sum.inl i)=some v':=e2;rw[e2] at gv;exact (show False from gv).elim
      ·rw[e1] at p;obtain ⟨hlt,p⟩:=PostV.ite p;have stp:Step Y H Y (upd H a (.dK (L2.putK ws (Sum.inl i) z))):=Step.turn hH rfl (List.mem_of_getElem? ha')
       have hl:(L2.putK ws (Sum.inl i) z).length<=sizeLine:=by
        have h1:=L2.length_putK ws (Sum.inl i) z;have h2:=hk.length;rw[zF]
        lia
       have he:∃ q,h'.get? a=some q:=let ⟨q,_,_,hq,_⟩:=dd';⟨q,hq⟩
       exact⟨z,_,L2.d_write I (by rw[hH];exact True.intro) hs he (L2.dk_new hl hd' (rel.put (.inl i) ru2) dd'),ru2,p Y _ stp (r.setDict q ha' hH (hk.put (.int i) hf)) z (hf.mono stp _ _)⟩
    ·cases p
   |_=>exact False.elim p
  |_=>exact False.elim p
 refine PE.imp (L2.pe_bm PySem.F.plainAttrs_dict PySem.F.slot_dict_setdefault PySem.F.type_dict_setdefault mt ha (L2.pa_cons hb (L2.pa_cons hc L2.pa_nil (by rw[hst2];rfl)) (by rw[hst,hst2])) hbase (by rw[hst];rfl) hline (by rw[hst,hst2]) (by rw[hst2];rfl)) fun U H Q t=>?_;obtain ⟨Y,env,h,s,r',p⟩:=t;dsimp only[den] at p;refine⟨Y,env,h,s,r',Post.bind p fun Y1 h1 d H1 e1 r1 q v hv=>?_⟩;unfold M.bind at q;cases z:zJ .get d h1 with
 |ok u h2=>rw[z] at q;obtain ⟨rfl,ty⟩:=gJ r1 hv z;refine⟨ty,Y1,env,_,s.mono e1,r1,?_⟩;exact Post.bind q fun Y2 h2 d2 H2 e2 r2 q2 w hw=>⟨Y2,env,h2,(s.mono e1).mono e2,r2,Post.bind q2 fun Y3 h3 d3 H3 e3 r3 q3 w3 hw3=>⟨w,w3,_,Y3,h3,d,d2,d3,rfl,r3,(hv.mono e2 _ _).mono e3 _ _,hw.mono e3 _ _,hw3,q3⟩⟩
 |exc c h2=>exact absurd z (kD _ _ _ _ _)
 |bad=>rw[z] at q;cases q
end
section
open PySem.Builtin PySem.Builtin.Str
theorem bH(a:Tx)(c limit:Nat):∀ (r:Tx) (k:Nat) (f:Array Nat) (free:Nat),a.drop k=r->free<=k->f.size<=limit ->
  (forIn (List.range' k (r.length+1)) (f,free) (StrLaws.occBody ⟨a.toArray⟩ ⟨#[c]⟩ a.length limit)).run.fst.toList=f.toList++(qR c k r).take (limit-f.size)
 | [],k,f,free,hr,hf,hl=>by
  show (forIn [k] (f,free) (StrLaws.occBody ⟨a.toArray⟩ ⟨#[c]⟩ a.length limit)).run.fst.toList=_;rw[List.forIn_cons]
  have hk:a.length<=k:=by
   have:=congrArg List.length hr
   rw[List.length_drop] at this;simp at this
   lia
  unfold StrLaws.occBody;rw[if_neg (by rintro ⟨⟨_,z⟩,_⟩;have z:k+1<=a.length:=z;lia)];show f.toList=f.toList++List.take _ [];simp
 |x::r,k,f,free,hr,hf,hl=>by
  have hx:a[k]?=some x:=by
   have:=List.getElem?_drop (xs:=a) (i:=k) (j:=0)
   rw[hr] at this;simpa using this.symm
  have hr':a.drop (k+1)=r:=by
   rw[<- List.drop_drop,hr];rfl
  rw[List.length_cons,List.range'_succ,List.forIn_cons]
  have key:(k+(⟨#[c]⟩:PySem.Str).length<=a.length/\subAt ⟨a.toArray⟩ ⟨#[c]⟩ k=true)↔x=c:=by
   have:=StrLaws.subAt_one ⟨a.toArray⟩ c k
   have e:(⟨a.toArray⟩:PySem.Str).length=a.length:=by show a.toArray.size=_;simp
   rw[e] at this;rw[this];show a.toArray.toList[k]?=some c↔_;rw[List.toList_toArray,hx];constructor
   ·intro h;exact Option.some.inj h
   ·intro h;rw[h]
  unfold StrLaws.occBody;unfold qR
  by_cases e:x=c
  ·rw[if_pos e]
   by_cases hz:f.size<limit
   ·rw[if_pos ⟨⟨⟨hz,hf⟩,(key.mpr e).1⟩,(key.mpr e).2⟩];have ih:=bH a c limit r (k+1) (f.push k) (k+1) hr' (Nat.le_refl _) (by rw[Array.size_push];lia);refine ih.trans ?_;rw[Array.toList_push,Array.size_push,show limit-f.size=(limit-(f.size+1))+1 by lia,List.take_succ_cons];simp
   ·rw[if_neg (fun z=>hz z.1.1.1)];have ih:=bH a c limit r (k+1) f free hr' (by lia) hl;refine ih.trans ?_;rw[show limit-f.size=0 by lia];simp
  ·rw[if_neg e,if_neg (fun z=>e (key.mp ⟨z.1.2,z.2⟩))];exact bH a c limit r (k+1) f free hr' (by lia) hl
theorem fV(a:Tx)(c limit:Nat):occurrences ⟨a.toArray⟩ ⟨#[c]⟩ 0 a.length limit=(qR c 0 a).take limit:=by
 rw[StrLaws.occ_eq]
 have:=bH a c limit a 0 #[] 0 rfl (Nat.le_refl _) (Nat.zero_le _)
 simpa using this
theorem qAz(c:Nat):∀ (k:Nat) (a:Tx),(qR c k a).length<=a.length
 |_,[]=>Nat.le_refl _
 |k,x::r=>by
  have:=qAz c (k+1) r
  unfold qR;split
  ·simp only[List.length_cons];lia
  ·simp only[List.length_cons];lia
theorem iH(c:Nat):∀ (k:Nat) (a:Tx),(jC c k a=none/\∀ i:Nat,a[i]?≠some c)\/∃ i:Nat,jC c k a=some (k+i)/\a[i]?=some c/\∀ j:Nat,i<j->a[j]?≠some c
 |k,[]=>.inl ⟨rfl,fun i=>by simp⟩
 |k,x::r=>by
  unfold jC;rcases iH c (k+1) r with⟨h1,h2⟩ | ⟨i,h1,h2,h3⟩
  ·rw[h1];simp only
   by_cases e:x=c
   ·rw[if_pos e];refine .inr ⟨0,rfl,by rw[e];rfl,fun j hj=>?_⟩;rw[show j=(j-1)+1 by lia,List.getElem?_cons_succ];exact h2 _
   ·rw[if_neg e];refine .inl ⟨rfl,fun i=>?_⟩;cases i with
    |zero=>simpa using e
    |succ i=>rw[List.getElem?_cons_succ];exact h2 i
  ·rw[h1];refine .inr ⟨i+1,by show some (k+1+i)=_;congr 1;lia,by rw[List.getElem?_cons_succ];exact h2,fun j hj=>?_⟩;rw[show j=(j-1)+1 by lia,List.getElem?_cons_succ];exact h3 _ (by lia)
theorem qKR(a:Tx)(c:Nat):lastOccurrence ⟨a.toArray⟩ ⟨#[c]⟩ 0 a.length=jC c 0 a:=by
 have e:(⟨a.toArray⟩:PySem.Str).length=a.length:=by show a.toArray.size=_;simp
 have at':∀ i,StrLaws.At ⟨a.toArray⟩ ⟨#[c]⟩ (⟨a.toArray⟩:PySem.Str).length i↔a[i]?=some c:=fun i=>by
  have:=StrLaws.subAt_one ⟨a.toArray⟩ c i
  exact this
 have key:=StrLaws.last_spec ⟨a.toArray⟩ ⟨#[c]⟩;rw[e] at key at';rcases key with⟨h1,h2⟩ | ⟨i,h1,h2,h3⟩
 ·rw[h1];rcases iH c 0 a with⟨g1,g2⟩ | ⟨j,g1,g2,g3⟩
  ·rw[g1]
  ·exact absurd ((at' j).mpr g2) (h2 j)
 ·rw[h1];rcases iH c 0 a with⟨g1,g2⟩ | ⟨j,g1,g2,g3⟩
  ·exact absurd ((at' i).mp h2) (g2 i)
  ·rw[g1,Nat.zero_add];rcases Nat.lt_trichotomy i j with z | z | z
   ·exact absurd ((at' j).mpr g2) (h3 j z)
   ·rw[z]
   ·exact absurd ((at' i).mp h2) (g3 i z)
theorem uM(a:Tx)(i j:Nat):strSub ⟨a.toArray⟩ i j=⟨((a.drop i).take (j-i)).toArray⟩:=by
 unfold strSub;congr 1;apply Array.toList_inj.mp;rw[Array.toList_extract,List.toList_toArray,List.toList_toArray]
 try simp[List.extract]
theorem qA5(a:Tx)(cuts:List Nat):partsBetween ⟨a.toArray⟩ cuts 1=(jA a cuts).map fun p=>⟨p.toArray⟩:=by
 unfold partsBetween jA;rw[List.map_map];show List.map _ ((0::cuts.map (·+1)).zip (cuts++[a.toArray.size]))=_;rw[List.size_toArray];congr 1;funext ⟨i,j⟩;exact uM a i j
theorem qBv(hc:c<256)(x:PySem.Str):Builtin.Str.strKind x<Builtin.Str.strKind ⟨#[c]⟩↔False:=by
 have h1:Builtin.Str.strKind ⟨#[c]⟩=1:=by
  unfold Builtin.Str.strKind;rw[if_pos (by simpa using hc)]
 have h2:1<=Builtin.Str.strKind x:=by
  unfold Builtin.Str.strKind;split
  ·lia
  ·split <;> lia
 constructor
 ·intro h;lia
 ·exact False.elim
end
section
variable {K:PySem.W.Frag}{Y:List Addr}{H:Hp}
theorem uS:∀ ps:List Tx,RepL K Y H (ps.map D.str) (ps.map fun p=>V.str ⟨p.toArray⟩)
 | []=>rfl
 |p::ps=>⟨_,_,rfl,rfl,uS ps⟩
end
theorem eM:∀ (tk:Nat) (ps:List Tx),Vals (ps.map fun p=>V.str ⟨p.toArray⟩) (strsFrom tk (ps.map fun p=>(⟨p.toArray⟩:Str)))
 |_,[]=>.nil
 |tk,p::ps=>.cons ⟨tk,rfl⟩ (eM (tk+1) ps)
theorem qA3(z:Tx):jA z []=[z]:=by
 unfold jA;show [(z.drop 0).take (z.length-0)]=[z];rw[List.drop_zero,Nat.sub_zero,List.take_length]
section
variable {X:Cx}{F:Nat->List D->M D}{W:WX}
theorem eW (ho:∀ d h h',zJ o d h=.ok () h'->h'=h/\∃ y,d=.str y):∀ Y h d v H,RepH X.K Y h H->RepV X.K Y H d v->∀ h',zJ o d h=.ok () h'->h'=h/\L2.tyV X.K "str" v H:=fun Y h d v H r hv h' z=>by
 obtain ⟨rfl,y,rfl⟩:=ho d h h' z;cases hv
 exact⟨rfl,rfl⟩
theorem qNB {x:Str} (hx:x="split") (ha:PE X a (tD X.K W (den F ca))) (hb:PE X b (tD X.K W (den F cb))) (hbase:attributeBase a x X.env (eval a X.env)=eval a X.env) (hline:(apos.endLine == cpos.line)=true)
  (hst:starEach [b] X.env=[(false,eval b X.env)]):PE X (.Call (.Attribute a x apos) [b] [] cpos) (tD X.K W (den F (.me .split ca cb))):=by
 subst hx
 have mt:L2.MtR X "str.split" fun x ys H Q=>∃ y,ys=[y]/\rB X.K .split x y H Q:=by
  rintro pins s U H x ys v us Q I rx rv ⟨y,rfl,w,Y,h,d,e,r,hd,he,p⟩
  obtain ⟨u,rfl,ru⟩:=L2.Vals.one rv;cases d with
  |str z=>
   cases e with
   |str w'=>
    cases hd;cases he
    match w',p,ru with
    | [c],p,ru=>
     obtain ⟨t,rfl⟩:=rx;obtain ⟨t',rfl⟩:=ru;have p:PostV X.K w Q Y H (if c<256/\z.length<=1000000 then newL ((jA z (qR c 0 z)).map .str) h else .bad):=p;obtain ⟨⟨hc,hl⟩,p⟩:=PostV.ite p;obtain ⟨hz,q⟩:=PostV.newL p r (uS _)
     have fin:∀ (its:List Value) (tk:Nat),Vals ((jA z (qR c 0 z)).map fun x=>V.str ⟨x.toArray⟩) its->EP X pins U Q (.ref s.heap.objs.size) { s with heap:=s.heap.push { cls:=.type "list",data:=.seq its.toArray },toks:=tk }:=fun its tk hv=>
      ⟨.ref _,_,I.laid (t':=tk) (o:=.lst _) (fun b ob q=>Heap.get?_push_of_some _ q) (Nat.le_refl _) ⟨hz,_,0,hv,Heap.get?_push_size _ rfl⟩,rfl,q _ (I.hok.fresh (Nat.le_refl _))⟩
     have e1:(⟨[c].toArray⟩:Str)=⟨#[c]⟩:=rfl;have kd:=qBv hc (⟨z.toArray⟩:Str);have sl:(⟨z.toArray⟩:Str).length=z.length:=zL z
     have oc:Builtin.Str.occurrences ⟨z.toArray⟩ ⟨#[c]⟩ 0 (⟨z.toArray⟩:Str).length ((⟨z.toArray⟩:Str).length+1)=qR c 0 z:=by
      rw[sl,fV];exact List.take_of_length_le (by have:=qAz c 0 z;lia)
     by_cases h0:z=[]
     ·have h1:(decide ((⟨z.toArray⟩:Str).length<(⟨[c].toArray⟩:Str).length) || decide (Builtin.Str.strKind ⟨z.toArray⟩<Builtin.Str.strKind ⟨[c].toArray⟩))=true:=by
       rw[sl,h0];rfl
      refine call_meets PySem.F.slot_str_split (typeIs_str _ _ _) PySem.F.entry_str_split (PySem.F.args_str_split_2 _ _) (meets_str_split_cannot_occur _ _ _ _ h1) ?_;exact fin [Value.str ⟨z.toArray⟩ t] s.toks (by subst h0;exact .cons ⟨t,rfl⟩ .nil)
     ·have hz1:1<=z.length:=by cases z with | nil=>exact absurd rfl h0 | cons _ _=>simp
      have h1:(decide ((⟨z.toArray⟩:Str).length<(⟨[c].toArray⟩:Str).length) || decide (Builtin.Str.strKind ⟨z.toArray⟩<Builtin.Str.strKind ⟨[c].toArray⟩))=false:=by
       rw[sl,Bool.or_eq_false_iff,decide_eq_false_iff_not,decide_eq_false_iff_not]
       exact⟨by show ¬ z.length<1;lia,fun z=>kd.mp z⟩
      cases hp:qR c 0 z with
      |nil=>refine call_meets PySem.F.slot_str_split (typeIs_str _ _ _) PySem.F.entry_str_split (PySem.F.args_str_split_2 _ _) (meets_str_split_not_found _ _ _ _ h1 rfl (by rw[e1,oc,hp];rfl)) ?_;refine fin [Value.str ⟨z.toArray⟩ t] s.toks ?_;rw[hp,qA3];exact .cons ⟨t,rfl⟩ .nil
      |cons i r'=>
       have pb:Builtin.Str.partsBetween ⟨z.toArray⟩ (Builtin.Str.occurrences ⟨z.toArray⟩ ⟨[c].toArray⟩ 0 (⟨z.toArray⟩:Str).length ((⟨z.toArray⟩:Str).length+1)) (⟨[c].toArray⟩:Str).length=(jA z (qR c 0 z)).map fun p=>⟨p.toArray⟩:=by
        rw[e1,oc];exact qA5 z _
       refine call_meets PySem.F.slot_str_split (typeIs_str _ _ _) PySem.F.entry_str_split (PySem.F.args_str_split_2 _ _) (meets_str_split_sep _ _ _ _ h1 rfl (by rw[e1,oc,hp];rfl) (by rw[sl,zF];lia) (by rw[pb,List.length_map];rw[List.length_map] at hz;exact hz)) ?_;show EP X pins U Q _ _;rw[pb];exact fin _ _ (eM s.toks _)
    | [],p,_=>exact False.elim p
    |_::_::_,p,_=>exact False.elim p
   |_=>exact False.elim p
  |_=>exact False.elim p
 refine kZ (L2.pe_bm PySem.F.plainAttrs_str PySem.F.slot_str_split PySem.F.type_str_split mt ha (L2.pa_cons hb L2.pa_nil (by rw[hst];rfl)) hbase (by rw[hst];rfl) hline (by rw[hst];rfl)) (eW fun d h h' z=>?_) (kD _) (fun x y H Q z=>⟨y,rfl,z⟩);cases d with
 |str y=>cases z;exact⟨rfl,y,rfl⟩
 |_=>cases z
theorem qNF {x:Str} (hx:x="partition") (ha:PE X a (tD X.K W (den F ca))) (hb:PE X b (tD X.K W (den F cb))) (hbase:attributeBase a x X.env (eval a X.env)=eval a X.env) (hline:(apos.endLine == cpos.line)=true)
  (hst:starEach [b] X.env=[(false,eval b X.env)]):PE X (.Call (.Attribute a x apos) [b] [] cpos) (tD X.K W (den F (.me .part ca cb))):=by
 subst hx
 have mt:L2.MtR X "str.partition" fun x ys H Q=>∃ y,ys=[y]/\rB X.K .part x y H Q:=by
  rintro pins s U H x ys v us Q I rx rv ⟨y,rfl,w,Y,h,d,e,r,hd,he,p⟩
  obtain ⟨u,rfl,ru⟩:=L2.Vals.one rv;cases d with
  |str z=>
   cases e with
   |str w'=>
    cases hd;cases he
    match w',p,ru with
    | [c],p,ru=>
     obtain ⟨t,rfl⟩:=rx;obtain ⟨t',rfl⟩:=ru;have p:PostV X.K w Q Y H (if z.length<=1000000 then .ok (.tup ((kB z c).map .str)) h else .bad):=p;obtain ⟨hl,p⟩:=PostV.ite p;have q:=PostV.newT p r (uS _);have hz3:(kB z c).length<=sizeLine:=by unfold kB;split <;> exact (by decide:3<=sizeLine)
     have fin:∀ (its:List Value) (tk:Nat),Vals ((kB z c).map fun x=>V.str ⟨x.toArray⟩) its->EP X pins U Q (.ref s.heap.objs.size) { s with heap:=s.heap.push { cls:=.type "tuple",data:=.seq its.toArray },toks:=tk }:=fun its tk hv=>
      ⟨.ref _,_,I.laid (t':=tk) (o:=.tup _) (fun b ob q=>Heap.get?_push_of_some _ q) (Nat.le_refl _) ⟨by rw[List.length_map];exact hz3,its,hv,IsTup.new _ _⟩,rfl,q _ (I.hok.fresh (Nat.le_refl _))⟩
     have e1:(⟨[c].toArray⟩:Str)=⟨#[c]⟩:=rfl;have sl:(⟨z.toArray⟩:Str).length=z.length:=zL z
     have oc:Builtin.Str.occurrences ⟨z.toArray⟩ ⟨[c].toArray⟩ 0 (⟨z.toArray⟩:Str).length 1=(qR c 0 z).take 1:=by
      rw[sl,e1,fV]
     refine call_meets PySem.F.slot_str_partition (typeIs_str _ _ _) PySem.F.entry_str_partition (PySem.F.args_str_partition_2 _ _) (meets_str_partition _ _ _ _ rfl (by rw[sl,zF];lia)) ?_;rw[oc];cases hp:qR c 0 z with
     |nil=>
      have e2:kB z c=[z,[],[]]:=by unfold kB;rw[hp]
      exact fin [.str ⟨z.toArray⟩ t,.str Str.empty s.toks,.str Str.empty s.toks] _ (by rw[e2];exact .cons ⟨_,rfl⟩ (.cons ⟨_,rfl⟩ (.cons ⟨_,rfl⟩ .nil)))
     |cons i r'=>
      have e2:kB z c=[z.take i,[c],z.drop (i+1)]:=by unfold kB;rw[hp]
      have c1:Builtin.Str.strSub ⟨z.toArray⟩ 0 i=⟨(z.take i).toArray⟩:=by rw[uM];simp
      have c2:Builtin.Str.strSub ⟨z.toArray⟩ (i+(⟨[c].toArray⟩:Str).length) (⟨z.toArray⟩:Str).length=⟨(z.drop (i+1)).toArray⟩:=by
       rw[uM,sl];congr 2;exact List.take_of_length_le (by rw[List.length_drop];exact Nat.le_refl _)
      refine fin [.str (Builtin.Str.strSub ⟨z.toArray⟩ 0 i) s.toks,.str ⟨[c].toArray⟩ t',.str (Builtin.Str.strSub ⟨z.toArray⟩ (i+(⟨[c].toArray⟩:Str).length) (⟨z.toArray⟩:Str).length) (s.toks+1)] _ ?_;rw[e2,c1,c2];exact .cons ⟨_,rfl⟩ (.cons ⟨_,rfl⟩ (.cons ⟨_,rfl⟩ .nil))
    | [],p,_=>exact False.elim p
    |_::_::_,p,_=>exact False.elim p
   |_=>exact False.elim p
  |_=>exact False.elim p
 refine kZ (L2.pe_bm PySem.F.plainAttrs_str PySem.F.slot_str_partition PySem.F.type_str_partition mt ha (L2.pa_cons hb L2.pa_nil (by rw[hst];rfl)) hbase (by rw[hst];rfl) hline (by rw[hst];rfl)) (eW fun d h h' z=>?_) (kD _) (fun x y H Q z=>⟨y,rfl,z⟩);cases d with
 |str y=>cases z;exact⟨rfl,y,rfl⟩
 |_=>cases z
theorem qNE {x:Str} (hx:x="rpartition") (ha:PE X a (tD X.K W (den F ca))) (hb:PE X b (tD X.K W (den F cb))) (hbase:attributeBase a x X.env (eval a X.env)=eval a X.env) (hline:(apos.endLine == cpos.line)=true)
  (hst:starEach [b] X.env=[(false,eval b X.env)]):PE X (.Call (.Attribute a x apos) [b] [] cpos) (tD X.K W (den F (.me .rpart ca cb))):=by
 subst hx
 have mt:L2.MtR X "str.rpartition" fun x ys H Q=>∃ y,ys=[y]/\rB X.K .rpart x y H Q:=by
  rintro pins s U H x ys v us Q I rx rv ⟨y,rfl,w,Y,h,d,e,r,hd,he,p⟩
  obtain ⟨u,rfl,ru⟩:=L2.Vals.one rv;cases d with
  |str z=>
   cases e with
   |str w'=>
    cases hd;cases he
    match w',p,ru with
    | [c],p,ru=>
     obtain ⟨t,rfl⟩:=rx;obtain ⟨t',rfl⟩:=ru;have p:PostV X.K w Q Y H (if z.length<=1000000 then .ok (.tup ((kA z c).map .str)) h else .bad):=p;obtain ⟨hl,p⟩:=PostV.ite p;have q:=PostV.newT p r (uS _);have hz3:(kA z c).length<=sizeLine:=by unfold kA;split <;> exact (by decide:3<=sizeLine)
     have fin:∀ (its:List Value) (tk:Nat),Vals ((kA z c).map fun x=>V.str ⟨x.toArray⟩) its->EP X pins U Q (.ref s.heap.objs.size) { s with heap:=s.heap.push { cls:=.type "tuple",data:=.seq its.toArray },toks:=tk }:=fun its tk hv=>
      ⟨.ref _,_,I.laid (t':=tk) (o:=.tup _) (fun b ob q=>Heap.get?_push_of_some _ q) (Nat.le_refl _) ⟨by rw[List.length_map];exact hz3,its,hv,IsTup.new _ _⟩,rfl,q _ (I.hok.fresh (Nat.le_refl _))⟩
     have e1:(⟨[c].toArray⟩:Str)=⟨#[c]⟩:=rfl;have sl:(⟨z.toArray⟩:Str).length=z.length:=zL z
     have oc:Builtin.Str.lastOccurrence ⟨z.toArray⟩ ⟨[c].toArray⟩ 0 (⟨z.toArray⟩:Str).length=jC c 0 z:=by
      rw[sl,e1,qKR]
     refine call_meets PySem.F.slot_str_rpartition (typeIs_str _ _ _) PySem.F.entry_str_rpartition (PySem.F.args_str_rpartition_2 _ _) (meets_str_rpartition _ _ _ _ rfl (by rw[sl,zF];lia)) ?_;rw[oc];cases hp:jC c 0 z with
     |none=>
      have e2:kA z c=[[],[],z]:=by unfold kA;rw[hp]
      exact fin [.str Str.empty s.toks,.str Str.empty s.toks,.str ⟨z.toArray⟩ t] _ (by rw[e2];exact .cons ⟨_,rfl⟩ (.cons ⟨_,rfl⟩ (.cons ⟨_,rfl⟩ .nil)))
     |some i=>
      have e2:kA z c=[z.take i,[c],z.drop (i+1)]:=by unfold kA;rw[hp]
      have c1:Builtin.Str.strSub ⟨z.toArray⟩ 0 i=⟨(z.take i).toArray⟩:=by rw[uM];simp
      have c2:Builtin.Str.strSub ⟨z.toArray⟩ (i+(⟨[c].toArray⟩:Str).length) (⟨z.toArray⟩:Str).length=⟨(z.drop (i+1)).toArray⟩:=by
       rw[uM,sl];congr 2;exact List.take_of_length_le (by rw[List.length_drop];exact Nat.le_refl _)
      refine fin [.str (Builtin.Str.strSub ⟨z.toArray⟩ 0 i) s.toks,.str ⟨[c].toArray⟩ t',.str (Builtin.Str.strSub ⟨z.toArray⟩ (i+(⟨[c].toArray⟩:Str).length) (⟨z.toArray⟩:Str).length) (s.toks+1)] _ ?_;rw[e2,c1,c2];exact .cons ⟨_,rfl⟩ (.cons ⟨_,rfl⟩ (.cons ⟨_,rfl⟩ .nil))
    | [],p,_=>exact False.elim p
    |_::_::_,p,_=>exact False.elim p
   |_=>exact False.elim p
  |_=>exact False.elim p
 refine kZ (L2.pe_bm PySem.F.plainAttrs_str PySem.F.slot_str_rpartition PySem.F.type_str_rpartition mt ha (L2.pa_cons hb L2.pa_nil (by rw[hst];rfl)) hbase (by rw[hst];rfl) hline (by rw[hst];rfl)) (eW fun d h h' z=>?_) (kD _) (fun x y H Q z=>⟨y,rfl,z⟩);cases d with
 |str y=>cases z;exact⟨rfl,y,rfl⟩
 |_=>cases z
theorem qNA {x:Str} (hx:x="split") (ha:PE X a (tD X.K W (den F ca))) (hb:PE X b (tD X.K W (den F cb))) (hc:PE X c (tD X.K W (den F cc))) (hbase:attributeBase a x X.env (eval a X.env)=eval a X.env) (hline:(apos.endLine == cpos.line)=true)
  (hst:starEach [b,c] X.env=[(false,eval b X.env),(false,eval c X.env)]) (hst2:starEach [c] X.env=[(false,eval c X.env)]):PE X (.Call (.Attribute a x apos) [b,c] [] cpos) (tD X.K W (den F (.splm ca cb cc))):=by
 subst hx
 have mt:L2.MtR X "str.split" fun x ys H Q=>∃ (y z:V) (w:W1) (Y:List Addr) (h:AH) (d e f:D),ys=[y,z]/\RepH X.K Y h H/\RepV X.K Y H d x/\RepV X.K Y H e y/\RepV X.K Y H f z/\PostV X.K w Q Y H (fA d e f h):=by
  rintro pins s U H x vs v us Q I rx rv ⟨y,z,w,Y,h,d,e,f,rfl,r,hd,he,hf,p⟩
  obtain ⟨u,u2,rfl,ru,ru2⟩:=L2.Vals.two rv;cases d with
  |str z=>
   cases e with
   |str w'=>
    cases f with
    |int k=>
     cases hd;cases he;cases hf
     match w',p,ru with
     | [c],p,ru=>
      obtain ⟨t,rfl⟩:=rx;obtain ⟨t',rfl⟩:=ru;obtain ⟨t2,rfl⟩:=ru2;have p:PostV X.K w Q Y H (if (c<256/\z.length<=1000000)/\0<=k/\k<=1000000 then newL ((jA z ((qR c 0 z).take k.toNat)).map .str) h else .bad):=p;obtain ⟨⟨⟨hc,hl⟩,hk0,hk1⟩,p⟩:=PostV.ite p;obtain ⟨hz,q⟩:=PostV.newL p r (uS _)
      have fin:∀ (its:List Value) (tk:Nat),Vals ((jA z ((qR c 0 z).take k.toNat)).map fun x=>V.str ⟨x.toArray⟩) its->EP X pins U Q (.ref s.heap.objs.size) { s with heap:=s.heap.push { cls:=.type "list",data:=.seq its.toArray },toks:=tk }:=fun its tk hv=>
       ⟨.ref _,_,I.laid (t':=tk) (o:=.lst _) (fun b ob q=>Heap.get?_push_of_some _ q) (Nat.le_refl _) ⟨hz,_,0,hv,Heap.get?_push_size _ rfl⟩,rfl,q _ (I.hok.fresh (Nat.le_refl _))⟩
      have e1:(⟨[c].toArray⟩:Str)=⟨#[c]⟩:=rfl;have kd:=qBv hc (⟨z.toArray⟩:Str);have sl:(⟨z.toArray⟩:Str).length=z.length:=zL z;have lm:limitOf ⟨z.toArray⟩ k=k.toNat:=if_neg (by lia)
      have oc:Builtin.Str.occurrences ⟨z.toArray⟩ ⟨#[c]⟩ 0 (⟨z.toArray⟩:Str).length (limitOf ⟨z.toArray⟩ k)=(qR c 0 z).take k.toNat:=by
       rw[sl,fV,lm]
      have hk:(decide (k < -(2 ^ 63:Int)) || decide (k ≥ 2 ^ 63))=false:=by
       rw[Bool.or_eq_false_iff,decide_eq_false_iff_not,decide_eq_false_iff_not]
       exact⟨by lia,by lia⟩
      by_cases h0:z=[]
      ·have h1:(decide ((⟨z.toArray⟩:Str).length<(⟨[c].toArray⟩:Str).length) || decide (Builtin.Str.strKind ⟨z.toArray⟩<Builtin.Str.strKind ⟨[c].toArray⟩))=true:=by
        rw[sl,h0];rfl
       refine call_meets PySem.F.slot_str_split (typeIs_str _ _ _) PySem.F.entry_str_split (PySem.F.args_str_split_3 _ _ _) (meets_str_split_max_cannot_occur _ _ _ _ _ _ hk h1) ?_
       exact fin [Value.str ⟨z.toArray⟩ t] s.toks (by
        subst h0;rw[show (qR c 0 []).take k.toNat=[] by show List.take _ []=[];simp]
        exact .cons ⟨t,rfl⟩ .nil)
      ·have hz1:1<=z.length:=by cases z with | nil=>exact absurd rfl h0 | cons _ _=>simp
       have h1:(decide ((⟨z.toArray⟩:Str).length<(⟨[c].toArray⟩:Str).length) || decide (Builtin.Str.strKind ⟨z.toArray⟩<Builtin.Str.strKind ⟨[c].toArray⟩))=false:=by
        rw[sl,Bool.or_eq_false_iff,decide_eq_false_iff_not,decide_eq_false_iff_not]
        exact⟨by show ¬ z.length<1;lia,fun z=>kd.mp z⟩
       cases hp:(qR c 0 z).take k.toNat with
       |nil=>refine call_meets PySem.F.slot_str_split (typeIs_str _ _ _) PySem.F.entry_str_split (PySem.F.args_str_split_3 _ _ _) (meets_str_split_max_not_found _ _ _ _ _ _ hk h1 rfl (by rw[e1,oc,hp];rfl)) ?_;refine fin [Value.str ⟨z.toArray⟩ t] s.toks ?_;rw[hp,qA3];exact .cons ⟨t,rfl⟩ .nil
       |cons i r'=>
        have pb:Builtin.Str.partsBetween ⟨z.toArray⟩ (Builtin.Str.occurrences ⟨z.toArray⟩ ⟨[c].toArray⟩ 0 (⟨z.toArray⟩:Str).length (limitOf ⟨z.toArray⟩ k)) (⟨[c].toArray⟩:Str).length=(jA z ((qR c 0 z).take k.toNat)).map fun p=>⟨p.toArray⟩:=by
         rw[e1,oc];exact qA5 z _
        refine call_meets PySem.F.slot_str_split (typeIs_str _ _ _) PySem.F.entry_str_split (PySem.F.args_str_split_3 _ _ _) (meets_str_split_sep_max _ _ _ _ _ _ hk h1 rfl (by rw[e1,oc,hp];rfl) (by rw[sl,zF];lia) (by rw[pb,List.length_map];rw[List.length_map] at hz;exact hz)) ?_;show EP X pins U Q _ _;rw[pb];exact fin _ _ (eM s.toks _)
     | [],p,_=>exact False.elim p
     |_::_::_,p,_=>exact False.elim p
    |_=>exact False.elim p
   |_=>exact False.elim p
  |_=>exact False.elim p
 refine PE.imp (L2.pe_bm PySem.F.plainAttrs_str PySem.F.slot_str_split PySem.F.type_str_split mt ha (L2.pa_cons hb (L2.pa_cons hc L2.pa_nil (by rw[hst2];rfl)) (by rw[hst,hst2])) hbase (by rw[hst];rfl) hline (by rw[hst,hst2]) (by rw[hst2];rfl)) fun U H Q t=>?_;obtain ⟨Y,env,h,s,r',p⟩:=t;dsimp only[den] at p;refine⟨Y,env,h,s,r',Post.bind p fun Y1 h1 d H1 e1 r1 q v hv=>?_⟩;unfold M.bind at q;cases z:zJ .split d h1 with
 |ok u h2=>
  rw[z] at q
  have ty:h2=h1/\L2.tyV X.K "str" v H1:=by
   cases d with
   |str y=>cases z;cases hv;exact⟨rfl,rfl⟩
   |_=>cases z
  obtain ⟨rfl,ty⟩:=ty;refine⟨ty,Y1,env,_,s.mono e1,r1,?_⟩;exact Post.bind q fun Y2 h2 d2 H2 e2 r2 q2 w hw=>⟨Y2,env,h2,(s.mono e1).mono e2,r2,Post.bind q2 fun Y3 h3 d3 H3 e3 r3 q3 w3 hw3=>⟨w,w3,_,Y3,h3,d,d2,d3,rfl,r3,(hv.mono e2 _ _).mono e3 _ _,hw.mono e3 _ _,hw3,q3⟩⟩
 |exc c h2=>exact absurd z (kD _ _ _ _ _)
 |bad=>rw[z] at q;cases q
end
section
variable {X:Cx}{F:Nat->List D->M D}{W:WX}
theorem qNY {x:Str} (hx:x="extend") (ha:PE X a (tD X.K W (den F ca))) (hb:PE X b (tD X.K W (den F cb))) (hbase:attributeBase a x X.env (eval a X.env)=eval a X.env) (hline:(apos.endLine == cpos.line)=true)
  (hst:starEach [b] X.env=[(false,eval b X.env)]):PE X (.Call (.Attribute a x apos) [b] [] cpos) (tD X.K W (den F (.me .extend ca cb))):=by
 subst hx;refine kZ (L2.pe_bm PySem.F.plainAttrs_list PySem.F.slot_list_extend PySem.F.type_list_extend L2.mt_extend ha (L2.pa_cons hb L2.pa_nil (by rw[hst];rfl)) hbase (by rw[hst];rfl) hline (by rw[hst];rfl)) (fun Y h d v H r hv h' z=>?_) (kD _) (fun x y H Q z=>?_)
 ·cases d with
  |ref i=>
   have z:(match getL h i with | some _=>R.ok () h | none=>.bad)=.ok () h':=z;cases e:getL h i with
   |none=>rw[e] at z;cases z
   |some xs=>
    rw[e] at z;cases z;obtain ⟨a,vs,rfl,h1,_⟩:=r.seen e hv
    exact⟨rfl,.inl ⟨rfl,vs,h1⟩⟩
  |_=>cases z
 ·obtain ⟨w,Y,h,d,e,r,hd,he,p⟩:=z;cases d with
  |ref k=>
   cases e with
   |ref j=>
    have p:PostV X.K w Q Y H (match h[k]?,h[j]? with | some (.lst xs),some (.lst ys)=>(if xs.length+ys.length<=16777216 then .ok .non (h.set k (.lst (xs++ys))) else .bad) | _,_=>.bad):=p;split at p
    ·rename_i xs ys q1 q2;obtain ⟨hz,p⟩:=PostV.ite p;obtain ⟨a,vs,rfl,ha,hH,hl⟩:=r.own q1 hd;obtain ⟨b,us,rfl,hb,hB,hm⟩:=r.own q2 he;have stp:Step Y H Y (upd H a (.lst (vs++us))):=Step.turn hH rfl (List.mem_of_getElem? ha)
     exact⟨a,b,vs,us,rfl,rfl,hH,hB,by rw[hl.length,hm.length,zF];exact hz,p Y _ stp (r.setList q1 ha hH (hl.append hm)) .non rfl⟩
    ·cases p
   |_=>exact False.elim p
  |_=>exact False.elim p
end
section
variable {X:Cx}{F:Nat->List D->M D}{W:WX}
theorem qEZ(z:Tx)(n:Int)(h0:0<=n)(hd:jN z=true):Txt.zfill ⟨z.toArray⟩ n=⟨(List.replicate (n.toNat-z.length) 48++z).toArray⟩:=by
 unfold Txt.zfill;rw[zL]
 by_cases h:n<=(z.length:Int)
 ·rw[if_pos h,show n.toNat-z.length=0 by lia];rfl
 ·rw[if_neg h]
  have key:zfilled ⟨z.toArray⟩ (n.toNat-z.length)=Builtin.Str.padded ⟨z.toArray⟩ (n.toNat-z.length) 0 48:=by
   unfold zfilled;split
   ·rename_i e;have e:z[0]?=some 43:=by simpa using e
    have:=List.all_eq_true.mp hd 43 (List.mem_of_getElem? e)
    cases of_decide_eq_true this
    lia
   ·rename_i e;have e:z[0]?=some 45:=by simpa using e
    have:=List.all_eq_true.mp hd 45 (List.mem_of_getElem? e)
    cases of_decide_eq_true this
    lia
   ·rfl
  rw[key];unfold Builtin.Str.padded;congr 1;simp
theorem qM6 {x:Str} (hx:x="zfill") (ha:PE X a (tD X.K W (den F ca))) (hb:PE X b (tD X.K W (den F cb))) (hbase:attributeBase a x X.env (eval a X.env)=eval a X.env) (hline:(apos.endLine == cpos.line)=true)
  (hst:starEach [b] X.env=[(false,eval b X.env)]):PE X (.Call (.Attribute a x apos) [b] [] cpos) (tD X.K W (den F (.me .zfill ca cb))):=by
 subst hx
 have mt:L2.MtR X "str.zfill" fun x ys H Q=>∃ y,ys=[y]/\rB X.K .zfill x y H Q:=by
  rintro pins s U H x ys v us Q I rx rv ⟨y,rfl,w,Y,h,d,e,r,hd,he,p⟩
  obtain ⟨u,rfl,ru⟩:=L2.Vals.one rv;cases d with
  |str z=>
   cases e with
   |int n=>
    cases hd;cases he;obtain ⟨⟨h1,h2,h3,h4⟩,p⟩:=PostV.ite (c:=0<=n/\n<=1000/\jN z=true/\z.length<=1000) p;obtain ⟨t,rfl⟩:=rx;obtain ⟨t',rfl⟩:=ru;refine PySem.SC.zfill ?_ fun t2 k=>?_
    ·unfold PadOk fitsSsize;rw[Bool.and_eq_true,Bool.not_eq_true',Bool.not_eq_true']
     exact⟨by rw[decide_eq_false (by lia),decide_eq_false (by lia)];rfl,decide_eq_false (by rw[zF];lia)⟩
    ·rw[qEZ z n h1 h3]
     exact⟨V.str ⟨(List.replicate (n.toNat-z.length) 48++z:List Nat).toArray⟩,H,I.tok _,⟨_,rfl⟩,PostV.now p r rfl⟩
   |_=>exact False.elim p
  |_=>exact False.elim p
 refine kZ (L2.pe_bm PySem.F.plainAttrs_str PySem.F.slot_str_zfill PySem.F.type_str_zfill mt ha (L2.pa_cons hb L2.pa_nil (by rw[hst];rfl)) hbase (by rw[hst];rfl) hline (by rw[hst];rfl)) (fun Y h d v H r hv h' z=>?_) (kD _) (fun x y H Q z=>⟨y,rfl,z⟩);cases d with
 |str y=>cases z;cases hv;exact⟨rfl,rfl⟩
 |_=>cases z
theorem qAI{K:PySem.W.Frag}:∀ {ds:List D} {vs:List V} {us:List Value} {xs:List Tx},zU ds=some xs->RepL K Y H ds vs->Vals vs us->∃ l:List (Str × Tok),us=strValues l/\l.map (·.1)=xs.map fun x=>⟨x.toArray⟩
 | [],_,_,_,e,h,r=>by
  cases e;cases h;cases r
  exact⟨[],rfl,rfl⟩
 |d::ds,_,us,bs,e,⟨v,vs,hv,h1,h2⟩,r=>by
  subst hv;cases d with
  |str b=>
   unfold zU at e;cases q:zU ds with
   |none=>rw[q] at e;cases e
   |some cs=>
    rw[q] at e;cases e;cases h1;cases r with
    |cons r1 r2=>
     obtain ⟨t,rfl⟩:=r1;obtain ⟨l,rfl,e2⟩:=qAI q h2 r2
     exact⟨(⟨b.toArray⟩,t)::l,rfl,by rw[List.map_cons,List.map_cons,e2]⟩
  |_=>cases e
theorem qB3(z:Tx):∀ xs:List Tx,Str.join ⟨z.toArray⟩ (xs.map fun x=>⟨x.toArray⟩)=⟨(qZ z xs).toArray⟩
 | []=>rfl
 | [x]=>rfl
 |x::y::r=>by
  have ih:=qB3 z (y::r);show (⟨x.toArray⟩:Str)++⟨z.toArray⟩++Str.join ⟨z.toArray⟩ ((y::r).map fun x=>⟨x.toArray⟩)=_;rw[ih,yL,yL];rfl
theorem qNP {x:Str} (hx:x="join") (ha:PE X a (tD X.K W (den F ca))) (hb:PE X b (tD X.K W (den F cb))) (hbase:attributeBase a x X.env (eval a X.env)=eval a X.env) (hline:(apos.endLine == cpos.line)=true)
  (hst:starEach [b] X.env=[(false,eval b X.env)]):PE X (.Call (.Attribute a x apos) [b] [] cpos) (tD X.K W (den F (.me .join ca cb))):=by
 subst hx
 have mt:L2.MtR X "str.join" fun x ys H Q=>∃ y,ys=[y]/\rB X.K .join x y H Q:=by
  rintro pins s U H x ys v us Q I rx rv ⟨y,rfl,w,Y,h,d,e,r,hd,he,p⟩
  obtain ⟨u,rfl,ru⟩:=L2.Vals.one rv;cases d with
  |str z=>
   cases e with
   |ref i=>
    cases hd;have p:PostV X.K w Q Y H (match (getL h i).bind zU with | some xs=>if jS z xs<=16777216 then .ok (.str (qZ z xs)) h else .bad | none=>.bad):=p;cases q:getL h i with
    |none=>rw[q] at p;cases p
    |some ds=>
     rw[q] at p;cases qs:zU ds with
     |none=>have p:PostV X.K w Q Y H (match zU ds with | some xs=>if jS z xs<=16777216 then .ok (.str (qZ z xs)) h else .bad | none=>.bad):=p;rw[qs] at p;cases p
     |some xs=>
      have p:PostV X.K w Q Y H (match zU ds with | some xs=>if jS z xs<=16777216 then .ok (.str (qZ z xs)) h else .bad | none=>.bad):=p;rw[qs] at p;obtain ⟨hz,p⟩:=PostV.ite (c:=jS z xs<=16777216) p;obtain ⟨a',vs,rfl,h1,h2⟩:=r.seen q he;cases ru;obtain ⟨t,rfl⟩:=rx;obtain ⟨its,rv',pl,_⟩:=I.list h1;obtain ⟨l,rfl,el⟩:=qAI qs h2 rv';refine PySem.SC.join (l:=l) (texts:=xs.map fun x=>⟨x.toArray⟩) pl.isList el ?_ fun t2 k=>?_
      ·unfold JoinOk;rw[PySem.StrLaws.joinTotal,Bool.not_eq_true'];refine decide_eq_false ?_;rw[zF,List.map_map,List.length_map,zL];unfold jS at hz
       have:(xs.map ((fun p:Str=>p.length) ∘ fun x=>(⟨x.toArray⟩:Str)))=xs.map List.length:=List.map_congr_left fun x _=>zL x
       rw[this]
       lia
      ·have e:Txt.join ⟨z.toArray⟩ (xs.map fun x=>⟨x.toArray⟩)=⟨(qZ z xs).toArray⟩:=by
        unfold Txt.join;rw[PySem.StrLaws.glued_eq_join,qB3]
       rw[e]
       exact⟨.str ⟨(qZ z xs).toArray⟩,H,I.tok _,⟨_,rfl⟩,PostV.now p r rfl⟩
   |_=>exact False.elim p
  |_=>exact False.elim p
 refine kZ (L2.pe_bm PySem.F.plainAttrs_str PySem.F.slot_str_join PySem.F.type_str_join mt ha (L2.pa_cons hb L2.pa_nil (by rw[hst];rfl)) hbase (by rw[hst];rfl) hline (by rw[hst];rfl)) (fun Y h d v H r hv h' z=>?_) (kD _) (fun x y H Q z=>⟨y,rfl,z⟩);cases d with
 |str y=>cases z;cases hv;exact⟨rfl,rfl⟩
 |_=>cases z
end
open L2 (V Hp HO VK TE TT TA TS TI Cx Inv RelV Vals SqL SqT Rd upd qI qE PE PT PA PS PSs EP OpR qM IxR MtR SlR PO TO PI PG PIE Turn qT Ends thn)
section
variable {X:Cx}{F:Nat->List D->M D}{W:WX}
theorem qNW(ha:PE X a (tD X.K W (den F ca)))(hb:PE X b (tD X.K W (den F cb))) :
  PE X (.JoinedStr [.FormattedValue a (-1) none p1,.Constant (.str c) j p2,.FormattedValue b (-1) none p3] pos) (tD X.K W (den F (.bi .add (.bi .add ca (.lit (.str c.cps.toList))) cb))):=by
 intro pins s U H Q I t;obtain ⟨Y,env,h,st,r,p⟩:=t
 have p:PostV X.K (W.at U) Q Y H (M.bind (den F ca env) (fun x=>M.bind (biD .add x (.str c.cps.toList)) fun y=>M.bind (den F cb env) fun z=>biD .add y z) h):=by
  dsimp only[den] at p;rw[kS] at p;exact p
 have cc:(⟨c.cps.toList.toArray⟩:Str)=c:=by simp
 refine wpAny_JoinedStr ?_
 refine wpAny_FormattedValue_plain (thn (ha pins s U H (fun v H1=>∃ z:Tx,v=V.str ⟨z.toArray⟩/\z.length+c.cps.toList.length<=16777216/\tD X.K W (fun e=>M.bind (den F cb e) fun y=>biD .add (.str (z++c.cps.toList)) y) U H1 Q) I
  ⟨Y,env,h,st,r,Post.bind p fun Y1 h1 d H1 e1 r1 q v hv=>?_⟩) fun v s1 ⟨x,H1,I1,r1,q1⟩=>?_)
 ·cases d with
  |str z=>
   cases hv;unfold M.bind at q;rw[show biD .add (.str z) (.str c.cps.toList) h1=(if z.length+c.cps.toList.length<=16777216 then .ok (.str (z++c.cps.toList)) h1 else .bad) from rfl] at q
   by_cases hz:z.length+c.cps.toList.length<=16777216
   ·rw[if_pos hz] at q
    exact⟨z,rfl,hz,Y1,env,h1,st.mono e1,r1,q⟩
   ·rw[if_neg hz] at q;cases q
  |_=>exact (show False from q).elim
 ·obtain ⟨z,rfl,hz,t2⟩:=q1;obtain ⟨t,rfl⟩:=r1
  have key:∀ t' s',Inv X pins U H1 s'->∃ y u,Value.str ⟨z.toArray⟩ t'=.str y u/\(Str.empty++y).length<=sizeLine/\Joins (model X.prog X.w) X.A X.xe (evalEach [.Constant (.str c) j p2,.FormattedValue b (-1) none p3] X.env) (Str.empty++y) (fun out s₁=>out.length<=sizeLine/\EP X pins U Q (.str out s₁.toks) { s₁ with toks:=s₁.toks+1 }) s':=by
   intro t' s' I';have e0:Str.empty++(⟨z.toArray⟩:Str)=⟨z.toArray⟩:=yL [] z;refine⟨⟨z.toArray⟩,t',rfl,by rw[e0,zL,zF];lia,?_⟩;rw[e0];refine thn (L2.pe_str (X:=X) (x:=c) (j:=j) (pos:=p2) pins s' U H1 (fun v H'=>v=V.str c/\H'=H1) I' ⟨rfl,rfl⟩) fun v s2 ⟨x,H2,I2,r2,ex,eh⟩=>?_;subst ex eh;obtain ⟨u,rfl⟩:=r2
   have e1:(⟨z.toArray⟩:Str)++c=⟨(z++c.cps.toList).toArray⟩:=by
    conv=>lhs;rw[<- cc]
    exact yL z c.cps.toList
   refine⟨c,u,rfl,by rw[e1,zL,List.length_append,zF];exact hz,?_⟩;rw[e1];obtain ⟨Y2,env2,h2,st2,rr2,pp2⟩:=t2
   refine wpAny_FormattedValue_plain (thn (hb pins s2 U H2 (fun v H3=>∃ y:Tx,v=V.str ⟨y.toArray⟩/\(z++c.cps.toList).length+y.length<=16777216/\Q (.str ⟨(z++c.cps.toList++y).toArray⟩) H3) I2
    ⟨Y2,env2,h2,st2,rr2,Post.bind pp2 fun Y3 h3 d H3 e3 r3 q v hv=>?_⟩) fun v s3 ⟨x,H3,I3,r3,q3⟩=>?_)
   ·cases d with
    |str y=>
     cases hv;have q:PostV X.K (W.at U) Q Y3 H3 (if (z++c.cps.toList).length+y.length<=16777216 then .ok (.str (z++c.cps.toList++y)) h3 else .bad):=q;obtain ⟨hz2,q⟩:=PostV.ite q
     exact⟨y,rfl,hz2,q.now r3 rfl⟩
    |_=>exact (show False from q).elim
   ·obtain ⟨y,rfl,hz2,qq⟩:=q3;obtain ⟨t3,rfl⟩:=r3
    have last:∀ t4 s4,Inv X pins U H3 s4->∃ y' u',Value.str ⟨y.toArray⟩ t4=.str y' u'/\((⟨(z++c.cps.toList).toArray⟩:Str)++y').length<=sizeLine/\Joins (model X.prog X.w) X.A X.xe (evalEach [] X.env) (⟨(z++c.cps.toList).toArray⟩++y') (fun out s₁=>out.length<=sizeLine/\EP X pins U Q (.str out s₁.toks) { s₁ with toks:=s₁.toks+1 }) s4:=by
     intro t4 s4 I4;have e2:(⟨(z++c.cps.toList).toArray⟩:Str)++⟨y.toArray⟩=⟨(z++c.cps.toList++y).toArray⟩:=yL _ _;have hl:(⟨(z++c.cps.toList++y).toArray⟩:Str).length<=sizeLine:=by rw[zL,List.length_append,zF];exact hz2
     refine⟨⟨y.toArray⟩,t4,rfl,by rw[e2];exact hl,?_⟩;rw[e2]
     exact⟨hl,.str _,H3,I4.tok _,⟨_,rfl⟩,qq⟩
    exact wpAny_formatField_str (last _ _ I3) (last _ _ (I3.tok _)) (by rw[zL,zF];lia)
  exact wpAny_formatField_str (key _ _ I1) (key _ _ (I1.tok _)) (by rw[zL,zF];lia)
end
section
variable {X:Cx}{F:Nat->List D->M D}{W:WX}
end
theorem iZ(x:Int):∀ l:List Int,(yV x l).Perm (x::l)
 | []=>.refl _
 |y::r=>by
  unfold yV;split
  ·exact .refl _
  ·exact ((iZ x r).cons y).trans (.swap x y r)
theorem yM:∀ l:List Int,(zO l).Perm l
 | []=>.refl _
 |x::r=>(iZ x (zO r)).trans ((yM r).cons x)
theorem qCV(x:Int):∀ {l:List Int},l.Pairwise (·<=·)->(yV x l).Pairwise (·<=·)
 | [],_=>List.pairwise_singleton ..
 |y::r,h=>by
  unfold yV;obtain ⟨h1,h2⟩:=List.pairwise_cons.mp h;split
  ·rename_i c;refine List.pairwise_cons.mpr ⟨fun z hz=>?_,h⟩;rcases List.mem_cons.mp hz with e | e
   ·lia
   ·have:=h1 z e;lia
  ·rename_i c;refine List.pairwise_cons.mpr ⟨fun z hz=>?_,qCV x h2⟩;rcases List.mem_cons.mp ((iZ x r).mem_iff.mp hz) with e | e
   ·lia
   ·exact h1 z e
theorem uO:∀ l:List Int,(zO l).Pairwise (·<=·)
 | []=>.nil
 |x::r=>qCV x (uO r)
theorem aM:∀ {a b:List Int},a.Perm b->a.Pairwise (·<=·)->b.Pairwise (·<=·)->a=b
 | [],b,p,_,_=>(List.nil_perm.mp p).symm
 |x::a,[],p,_,_=>absurd p.length_eq (by simp)
 |x::a,y::b,p,ha,hb=>by
  obtain ⟨a1,a2⟩:=List.pairwise_cons.mp ha;obtain ⟨b1,b2⟩:=List.pairwise_cons.mp hb;have hx:x∈y::b:=p.mem_iff.mp (List.mem_cons_self ..);have hy:y∈x::a:=p.mem_iff.mpr (List.mem_cons_self ..)
  have e:x=y:=by
   rcases List.mem_cons.mp hx with e | e
   ·exact e
   ·rcases List.mem_cons.mp hy with z | z
    ·exact z.symm
    ·have:=b1 x e
     have:=a1 y z
     lia
  subst e;rw[aM ((List.perm_cons x).mp p) a2 b2]
end Fy
namespace Sr
open PySem PyProof.Rows
section
variable {prog:Program}{w:World}{A:Around}{E:Value->Shared->Prop}{s:Shared}
open PySem.W in
theorem qNq{T:String}{r d:Addr}{n:Nat}{P:Nat->Value->Prop}{OK:Heap->Prop}{R:List Value->Shared->Prop}(K:KdlSrc prog w T r d n P OK)(hh:A.handled=none)(hok:OK s.heap)(hn:n<=sizeLine)
  (h:∀ (g:Heap) (tk:Nat) (x:Array Value),s.heap.objs.size<g.objs.size->(∀ b o,s.heap.get? b=some o->g.get? b=some o)->ItemsOf P x n->R x.toList { s with heap:=g,toks:=tk }) :
  wpAny (model prog w) A (collect (.ref r)) R E s:=by
 have lt:=K.there _ hok;unfold collect;refine wpAny_bind (wpAny_runValue (codeAny_builtin entry_proto_collect' ?_));rw[Around.under_plainId PySem.F.plain_proto_collect _];refine wpAny_bind (m:=newList []) (wpAny_newObj_type (wpAny_pure ⟨plainId_quiet PySem.F.plain_list_iadd _,codeAny_builtin entry_list_iadd' ?_⟩));rw[Around.under_plainId PySem.F.plain_list_iadd _];have e1:(s.heap.push (seqObj "list" #[] 0)).get? s.heap.objs.size=some (seqObj "list" #[] 0):=Heap.get?_push_size _ rfl
 have go:∀ (g:Heap) (tk:Nat) (x:Array Value) (c:Nat),(∀ b o,s.heap.get? b=some o->g.get? b=some o)->g.get? s.heap.objs.size=some (seqObj "list" x c)->ItemsOf P x n ->
   wpAny (model prog w) A (load s.heap.objs.size >>= fun o=>match o.data with
    | .seq xs _=>pure xs.toList
    |_=>unsupported "internal:collect") R E { s with heap:=g,toks:=tk }:=fun g tk x c k1 k2 k3=>
  wpAny_bind (wpAny_load k2 (wpAny_pure (h g tk x (Heap.lt_size k2) k1 k3)))
 have key:=kdl_extend (A:=A) (s:={ s with heap:=s.heap.push (seqObj "list" #[] 0) })
  (R:=fun (q:Result) (s':Shared)=>∃ (g:Heap) (tk:Nat) (x:Array Value) (c:Nat),q=.ok (.ret (.ref s.heap.objs.size))/\s'={ s with heap:=g,toks:=tk } /\
   (∀ b o,s.heap.get? b=some o->g.get? b=some o)/\g.get? s.heap.objs.size=some (seqObj "list" x c)/\ItemsOf P x n)
  K hh (K.keep _ _ hok fun b _ o e=>Heap.get?_push_of_some _ e) s.heap.objs.size (Nat.ne_of_gt lt.1) (Nat.ne_of_gt lt.2) (.ref s.heap.objs.size) 0 e1
  (fun g tk x c k1 k2 k3=>⟨g,tk,x,c,rfl,rfl,fun b o e=>k1 b o (Nat.ne_of_lt (Heap.lt_size e)) (Heap.get?_push_of_some _ e),k2,k3⟩) hn
 refine wpAny_mono key (fun f s' q=>?_) fun e s' q=>?_
 ·cases f with
  |done f=>obtain ⟨g,tk,x,c,e,rfl,k1,k2,k3⟩:=q;cases e;exact go g tk x c k1 k2 k3
  |again c1=>refine⟨q.1,codeAny_mono q.2 fun f s2 q=>?_⟩;obtain ⟨g,tk,x,c,rfl,rfl,k1,k2,k3⟩:=q;exact go g tk x c k1 k2 k3
 ·obtain ⟨_,_,_,_,e',_⟩:=q;cases e'
theorem qCQ:∀ (vs:List Value) (ns:List Int),vs.length=ns.length->(∀ (j:Nat) v,vs[j]?=some v->∃ t n,ns[j]?=some n/\v=.int n t)->IntsAre vs ns
 | [],[],_,_=>.nil
 | [],_::_,e,_=>by cases e
 |_::_,[],e,_=>by cases e
 |v::vs,n::ns,e,q=>by
  obtain ⟨t,n',e1,e2⟩:=q 0 v rfl;cases e1;subst e2;exact .cons n t (qCQ vs ns (Nat.succ.inj e) fun j v hj=>q (j+1) v hj)
theorem sorted_dict{K:Type}[DecidableEq K]{knd:KeyKind prog w K}{kvs:List (K × Value)}(hh:A.handled=none)(hd:(d == sysModules)=false)
  (hat:s.heap.DictAt knd d kvs ep) (hz:kvs.length<=sizeLine) (h64:kvs.length<64) (hk:∀ (i:Nat) (k:K) (x v:Value),kvs[i]?=some (k,x)->knd.is k v=true->∃ t n,ns[i]?=some n/\v=.int n t) (hn:ns.length=kvs.length)
  (h:∀ (h':Heap) (tk:Nat) (B:Addr) (o:Array Value) (e:Nat) (m:List Int),s.heap.objs.size<=B->(∀ b ob,s.heap.get? b=some ob->h'.get? b=some ob)->h'.get? B=some (seqObj "list" o e)->IntsAre o.toList m->m.Perm ns->m.Pairwise (·<=·) ->
   Q (.ref B) { s with heap:=h',toks:=tk }):wpAny (model prog w) A (call (.builtin "sorted") [.ref d]) Q E s:=by
 refine Calls.call_function_entry kind_sorted plain_sorted entry_sorted (args_sorted1 _) ?_;unfold Builtin.«sorted»;refine wpAny_bind (m:=checkCount "sorted" 1 1 _) (wpAny_pure ?_);refine wpAny_bind (qNq (A:=A.in1) (PySem.W.kdl_dict (knd:=knd) (kvs:=kvs) (ep:=ep) hd) hh hat hz fun h1 tk x lt hk1 hx=>?_);have hl:x.toList.length=kvs.length:=by rw[Array.length_toList];exact hx.1
 have hI:IntsAre x.toList ns:=qCQ _ _ (hl.trans hn.symm) fun j v hj=>by
  obtain ⟨k,y,e1,e2⟩:=hx.2 j v (by rw[<- Array.getElem?_toList];exact hj);exact hk j k y v e1 e2
 refine wpAny_bind (wpAny_newList ?_ (by rw[hl];exact hz));have hB:(h1.push (seqObj "list" x.toList.toArray 0)).get? h1.objs.size=some (seqObj "list" x.toList.toArray 0):=Heap.get?_push_size _ rfl;refine wpAny_bind (wpAny_holding (wpAny_call_entry slot_list_sort ⟨_,hB,rfl⟩ entry_list_sort (list_sort_tree hB hI (by rw[hl];exact h64) fun o m a1 a2 a3=>⟨_,rfl,?_⟩) (args_list_sort _)));obtain ⟨e,he⟩:=sortedHeap_at (out:=o) hB;refine wpAny_pure ⟨_,rfl,h _ tk h1.objs.size o e m (Nat.le_of_lt lt) (fun b ob q=>?_) he a1 a2 a3⟩;have q1:=hk1 b ob q;have q2:=Heap.lt_size q1;exact (sortedHeap_old (Nat.ne_of_lt q2) (by rw[size_push'];exact Nat.lt_succ_of_lt q2)).trans (Heap.get?_push_of_some _ q1)
end
end Sr
namespace Fy
open PySem PySem.Spec PyProof.Rows
open L2 (V Hp HO VK TE TT TA TS TI Cx Inv RelV Vals SqL SqT Rd upd qI qE PE PT PA PS PSs EP OpR qM IxR MtR SlR PO TO thn)
theorem fJ{K:PySem.W.Frag}:∀ ns:List Int,RepL K Y H (ns.map .int) (ns.map V.int)
 | []=>rfl
 |n::r=>⟨.int n,_,rfl,rfl,fJ r⟩
theorem vals_ints:∀ {us:List Value} {ns:List Int},IntsAre us ns->Vals (ns.map V.int) us
 | [],[],_=>.nil
 |u::us,n::ns,h=>by
  cases h with
  |cons _ t h2=>exact .cons ⟨_,rfl⟩ (vals_ints h2)
section
variable {X:Cx}{F:Nat->List D->M D}{W:WX}
theorem qCT{K:PySem.W.Frag}:∀ {kvs:List (Ky × D)} {vs:List (L2.Key × V)} {ns:List Int},wZ kvs=some ns->RepK K Y H kvs vs->vs.map (·.1)=ns.map Sum.inl
 | [],_,_,e,h=>by cases e;cases h;rfl
 | (.str _,_)::_,_,_,e,_=>by cases e
 | (.int i,d)::r,_,_,e,⟨v,vs,rfl,_,h2⟩=>by
  unfold wZ at e;cases q:wZ r with
  |none=>rw[q] at e;cases e
  |some ns=>rw[q] at e;cases e;rw[List.map_cons,List.map_cons,qCT q h2];rfl
theorem qGH(hc:X.calm=true)(I:Inv X pins U H s)(r:RepH X.K Y h H)(he:RepV X.K Y H (.ref k) y)(ry:RelV y u)
  (p:PostV X.K w Q Y H (yN k h)):wpAny (model X.prog X.w) X.A (call (.builtin "sorted") [u]) (EP X pins U Q) X.xe s:=by
 unfold yN at p;split at p
 ·rename_i kvs q;split at p
  ·rename_i ns q2;obtain ⟨h64,p⟩:=PostV.ite (c:=ns.length<64) p;obtain ⟨a,vs,rfl,ha,hH,hk⟩:=r.dict q he;cases ry;obtain ⟨z,hd,ws,rel,dd⟩:=L2.dk_rd I.hok (.inl hH);obtain ⟨ep,hat⟩:=dd.dictAt;have ks:ws.map (·.1)=ns.map Sum.inl:=rel.keys.symm.trans (qCT q2 hk);have ln:ns.length=ws.length:=by simpa using (congrArg List.length ks).symm
   refine Sr.sorted_dict (I.ok.hd hc) hd hat (by rw[<- rel.length];exact z) (by lia) (fun i k x v e1 e2=>?_) ln fun h' tk B o e m le kp he a1 a2 a3=>?_
   ·have e3:(ns.map Sum.inl)[i]?=some k:=by rw[<- ks,List.getElem?_map,e1];rfl
    rw[List.getElem?_map] at e3;cases q3:ns[i]? with
    |none=>rw[q3] at e3;cases e3
    |some n=>
     rw[q3] at e3;cases e3;have e2:L2.keyIs (Sum.inl n) v=true:=e2;rcases L2.keyIs_shape e2 with⟨j,t,w1,rfl⟩ | ⟨x,t,w1,_⟩
     ·cases w1;exact⟨t,n,rfl,rfl⟩
     ·cases w1
   ·have e':m=zO ns:=aM (a2.trans (yM ns).symm) a3 (uO ns);subst e';have pv:=PostV.newL p r (fJ (K:=X.K) (Y:=Y) (H:=H) (zO ns))
    exact⟨.ref B,_,I.laid (t':=tk) kp le (show L2.ObjOk X.prog X.w _ _ _ (.lst ((zO ns).map V.int)) from ⟨pv.1,o.toList,e,vals_ints a1,he⟩),rfl,pv.2 _ (I.hok.fresh le)⟩
  ·cases p
 ·cases p
theorem qN6 (hc:X.calm=true):qM X (.builtin "sorted") (rC X.K .sorted):=by
 rintro pins s U H xs us Q I rv ⟨x,rfl,w,Y,h,d,r,hd,p⟩
 cases d with
 |ref i=>
  have p:PostV X.K w Q Y H (match getL h i with | some ds=>aU ds h | none=>yN i h):=p;obtain ⟨u,rfl,ru⟩:=L2.Vals.one rv;cases q:getL h i with
  |none=>rw[q] at p;exact qGH hc I r hd ru p
  |some ds=>
   rw[q] at p;have p:PostV X.K w Q Y H (match zX ds with | some xs=>(if xs.length<64 then newL ((zO xs).map .int) h else .bad) | none=>.bad):=p;cases qb:zX ds with
   |none=>rw[qb] at p;cases p
   |some ns=>
    rw[qb] at p;obtain ⟨h64,p⟩:=PostV.ite (c:=ns.length<64) p;obtain ⟨a,vs,rfl,h1,h2⟩:=r.seen q hd;cases ru;obtain ⟨its,rv',pl,hz⟩:=I.list h1;have hv:=bY qb h2;subst hv;have hb:=L2.intsAre_of rv';have hl:=pl.isList;have len:=rv'.length;rw[List.length_map] at len;refine sorted_ints hl hb (by lia) fun out ns' o1 o2 o3=>?_;have e:ns'=zO ns:=aM (o2.trans (yM ns).symm) o3 (uO ns);subst e;obtain ⟨e,he⟩:=sortedAll_at s.heap its out;have pv:=PostV.newL p r (fJ (K:=X.K) (Y:=Y) (H:=H) (zO ns))
    exact⟨.ref (s.heap.objs.size+1),_,I.laid (t':=s.toks) (fun _ _=>sortedAll_old) (Nat.le_succ _) (show L2.ObjOk X.prog X.w _ _ _ (.lst ((zO ns).map V.int)) from ⟨pv.1,out.toList,e,vals_ints o1,he⟩),rfl,pv.2 _ (I.hok.fresh (Nat.le_succ _))⟩
 |_=>exact False.elim p
end
section
variable {prog:Program}{w:World}{K:Type}[DecidableEq K]{knd:KeyKind prog w K}{A:Around}{E:Value->Shared->Prop}{s:Shared}
theorem qMl:typeLookup (.type "list") "keys"=pure none:=am_miss_of_fast (by decide +kernel)
theorem qMn(hx:s.heap.get? a=some { cls:=.type "list",dict:=none,data:=.seq xs k,slots:=sl })(hA:A.handled=none)
  (h:∀ h' tk,(∀ b o,s.heap.get? b=some o->h'.get? b=some o)->Q none { s with heap:=h',toks:=tk }):wpAny (model prog w) A (getAttr? (.ref a) "keys") Q E s:=by
 obtain ⟨hp,g,d,tk,os⟩:=s;have hT:∀ tk',(⟨hp,g,d,tk',os⟩:Shared).TypeIs (.ref a) "list":=fun _=>⟨_,hx,rfl⟩;have f1:=sub_AttributeError;have f3:=F.slot_list_getattribute.lookup;have f4:=F.slot_list_getattribute.bind (.ref a);have f5:=am_list_getattr_none;have hname:(["__module__","__name__","__qualname__","__doc__","__annotations__"]:List Str).contains (Str.ofString "keys")=false:=by decide +kernel
 unfold getAttr? getAttrBy? getAttrBy
 repeat (any_goals (first | assumption | exact hT _ | ((with_reducible show wpAny _ _ (call (Value.builtin "list.__getattribute__") _ _) _ _ _);refine call_meets F.slot_list_getattribute (hT _) am_entry_list_getattribute (F.args_list_getattribute_2 _ _) (meets_getattribute_miss_list a xs k sl "keys" _ qMl hname (by size_fits)) ⟨hx,hA,fun h' tk' e hx'=>?_⟩) | wp_step))
 obtain ⟨t',u',he⟩:=hx'.there;show wpAny _ _ (getattributeRaised _ _ _ _ _ _ _) _ _ _;unfold getattributeRaised
 repeat (any_goals (first | assumption | wp_step))
 exact h _ _ hx'.keeps
theorem cL:plainId "dict.update.loop"=true:=by decide +kernel
theorem qCz:entryFor table "dict.update.loop"=some Builtin.«dict.update.loop»:=entryFor_of_tree (by kernel_rfl)
theorem qMk(hT:s.heap.IsTuple T #[u,v])(h:Q [u,v] s):wpAny (model prog w) A (Builtin.Dict.pairItems (.ref T)) Q E s:=by
 obtain ⟨o,ho,hc,n,hd⟩:=hT;unfold Builtin.Dict.pairItems;refine wpAny_bind (wpAny_typeOf (T:="tuple") ⟨_,ho,hc⟩ ?_);rw[if_pos (by decide)];exact wpAny_bind (wpAny_seqItems ho hd (wpAny_pure h))
theorem qMm(hh:A.in1.handled=none){It:Addr}(hne:l≠It)(hdI:d≠It)(hdl:d≠l)(hlen:ps.length=items.size)(hz:ps.length<=sizeLine){h0:Heap}{R:Result->Shared->Prop}
  (hps:∀ (i:Nat) (k:K) (v:Value),ps[i]?=some (k,v)->∃ T u,items[i]?=some (.ref T)/\h0.IsTuple T #[u,v]/\knd.is k u=true/\T≠d/\T≠It) :
  ∀ (m i:Nat) (s:Shared),items.size-i=m->i<=items.size->s.heap.IsListIter It l i->s.heap.IsList l items->s.heap.DictOf knd d (merged [] (ps.take i))->(∀ b o,b≠d->b≠It->h0.get? b=some o->s.heap.get? b=some o) ->
  (∀ h' tk,h'.DictOf knd d (merged [] ps)->(∀ b o,b≠d->b≠It->h0.get? b=some o->h'.get? b=some o)->R (.ok (.ret .none)) { s with heap:=h',toks:=tk }) ->
  codeAny (model prog w) A (.builtin "dict.update.loop" ⟨[.ref d,.ref It,rawInt i,.none],[]⟩) R s:=by
 have W:=Walks.list (prog:=prog) (w:=w) hh It l hne items;intro m
 induction m with
 |zero=>
  intro i s hm hi hit hl hd hk hR;have e:i=items.size:=by lia
  subst e;refine codeAny_builtin qCz ?_;rw[Around.under_plainId cL _];show wpAny _ A.in1 (pyNext (.ref It) >>= _) _ _ s;refine wpAny_bind (W.done s _ _ ⟨hit,hl⟩ fun h' tk kp=>?_);rw[<- hlen,List.take_length] at hd;obtain ⟨od,ho,hod⟩:=Heap.dictOf_iff.mp hd;have hd':=Heap.dictOf_iff.mpr ⟨od,kp d od (by simpa using hdI) ho,hod⟩;show wpAny _ _ (Builtin.Dict.addKeywords d [] >>= _) _ _ _;exact wpAny_bind (wpAny_pure (wpAny_pure (hR h' tk hd' fun b o b1 b2 e=>kp b o (by simpa using b2) (hk b o b1 b2 e))))
 |succ m ih=>
  intro i s hm hi hit hl hd hk hR;have hlt:i<items.size:=by lia
  refine codeAny_builtin qCz ?_;rw[Around.under_plainId cL _];show wpAny _ A.in1 (pyNext (.ref It) >>= _) _ _ s;refine wpAny_bind (W.item i s _ _ hlt ⟨hit,hl⟩ fun v h' tk hv st kp=>?_);obtain ⟨⟨k,x⟩,hkx⟩:∃ p,ps[i]?=some p:=⟨ps[i]'(by lia),List.getElem?_eq_getElem _⟩;obtain ⟨T,u,e1,e2,e3,e4,e5⟩:=hps i k x hkx;rw[e1] at hv;cases hv;obtain ⟨oT,hoT,r⟩:=e2;have hT':h'.IsTuple T #[u,x]:=⟨oT,kp T oT (by simpa using e5) (hk T oT e4 e5 hoT),r⟩;obtain ⟨od,ho,hod⟩:=Heap.dictOf_iff.mp hd;have hd':=Heap.dictOf_iff.mpr ⟨od,kp d od (by simpa using hdI) ho,hod⟩
  have hl1:(merged [] (ps.take i)).length<=sizeLine:=by
   have:=merged_length_le [] (ps.take i)
   rw[List.length_take,List.length_nil] at this
   lia
  refine wpAny_bind (wpAny_holding (wpAny_bind (wpAny_tryCatch (qMk hT' ?_))));refine wpAny_holding (wpAny_dictSet_pairs (hsz:=hl1) e3 hd' fun h2 d2 s2=>?_);have hd2:h2.DictOf knd d (merged [] (ps.take (i+1))):=by rw[merged_take_succ [] ps i (k,x) hkx];exact d2
  refine wpAny_pure ⟨plainId_quiet cL _,ih (i+1) _ (by lia) hlt (st.1.at fun o e=>?_) (st.2.at fun o e=>?_) hd2 (fun b o b1 b2 e=>?_) fun h3 tk3 d3 k3=>hR h3 tk3 d3 k3⟩
  ·exact (s2.2 It hdI.symm).trans e
  ·exact (s2.2 l hdl.symm).trans e
  ·exact (s2.2 b b1).trans (kp b o (by simpa using b2) (hk b o b1 b2 e))
theorem qMo(hA:A.handled=none)(hl:s.heap.get? o=some { cls:=.type "list",dict:=none,data:=.seq items n,slots:=sl })(hlen:ps.length=items.size)(hz:ps.length<=sizeLine)
  (hps:∀ (i:Nat) (k:K) (v:Value),ps[i]?=some (k,v)->∃ T u,items[i]?=some (.ref T)/\s.heap.IsTuple T #[u,v]/\knd.is k u=true)
  (h:∀ h' tk,h'.DictOf knd s.heap.objs.size (merged [] ps)->(∀ b o,s.heap.get? b=some o->h'.get? b=some o)->Q (.ref s.heap.objs.size) { s with heap:=h',toks:=tk }) :
  wpAny (model prog w) A (call (.type "dict") [.ref o]) Q E s:=by
 refine callType_codes (Q₁:=fun obj s₁=>obj=.ref s.heap.objs.size/\s₁={ s with heap:=s.heap.push { cls:=.type "dict",data:=.dict #[] } }) F.kt_called_dict (F.kt_typeCall_dict_1 _) F.entry_dict_init (kt_code_dict_new _ ⟨rfl,rfl⟩) ?_
 rintro obj s₁ ⟨rfl,rfl⟩
 have hnew:(s.heap.push { cls:=.type "dict",data:=.dict #[] }).DictOf knd s.heap.objs.size []:=Heap.DictOf.new s.heap;have hg:=Heap.get?_push_of_some { cls:=.type "dict",data:=.dict #[] } hl;have lo:o<s.heap.objs.size:=Heap.lt_size hl;refine⟨hnew.typeIs,F.args_dict_init_2 _ _,?_⟩;unfold Builtin.«dict.__init__»;refine wpAny_bind ?_;unfold Builtin.Dict.selfAndRest;refine wpAny_bind (wpAny_notOrdered_dict hnew.typeIs ?_);show wpAny _ _ (pure (s.heap.objs.size,[Value.ref o])) _ _ _;refine wpAny_pure ?_;show wpAny _ _ (Builtin.Dict.updateFrom "dict.__init__" s.heap.objs.size (.ref o) [] .none) _ _ _;unfold Builtin.Dict.updateFrom;refine wpAny_bind (wpAny_typeOf (T:="list") ⟨_,hg,rfl⟩ ?_);rw[if_pos (by decide)];refine wpAny_bind (qMn hg (by simpa using hA) fun h2 tk2 k2=>?_);have hl2:h2.IsList o items:=⟨_,k2 _ _ hg,rfl,n,rfl⟩;obtain ⟨od,hod,hdo⟩:=Heap.dictOf_iff.mp hnew;have hd2:=k2 _ _ hod;have ls2:s.heap.objs.size<h2.objs.size:=Heap.lt_size hd2;refine wpAny_bind (wpAny_rule (wpAny_bind (wpAny_pyIter_list hl2 ?_)));have old:∀ b ob,s.heap.get? b=some ob->b≠s.heap.objs.size/\b≠h2.objs.size:=fun b ob e=>⟨Nat.ne_of_lt (Heap.lt_size e),Nat.ne_of_lt (Nat.lt_trans (Heap.lt_size e) ls2)⟩;refine wpAny_pure ⟨plainId_quiet cL _,qMm (knd:=knd) (h0:=s.heap) (by simpa using hA) (It:=h2.objs.size) (l:=o) (d:=s.heap.objs.size) (Nat.ne_of_lt (Nat.lt_trans lo ls2)) (Nat.ne_of_lt ls2) (Nat.ne_of_gt lo) hlen hz (fun i k v e=>?_) _ 0 _ rfl (Nat.zero_le _) ⟨_,Heap.get?_push_size _ rfl,rfl,rfl⟩ (hl2.push _) ?_ (fun b ob _ _ e=>Heap.get?_push_of_some _ (k2 _ _ (Heap.get?_push_of_some _ e))) fun h3 tk3 d3 k3=>⟨rfl,h h3 tk3 d3 fun b ob e=>k3 b ob (old b ob e).1 (old b ob e).2 e⟩⟩
 ·obtain ⟨T,u,e1,⟨oT,hoT,r⟩,e3⟩:=hps i k v e
  exact⟨T,u,e1,⟨oT,hoT,r⟩,e3,old T oT hoT⟩
 ·exact Heap.dictOf_iff.mpr ⟨od,Heap.get?_push_of_some _ hd2,hdo⟩
end
section
variable {X:Cx}{F:Nat->List D->M D}{W:WX}
theorem qA9{K:PySem.W.Frag}:∀ (ds:List D) {kvs:List (Ky × D)} {vs:List V},kG ds=some kvs->RepL K Y H ds vs->∃ ws:List (L2.Key × V),RepK K Y H kvs ws/\ws.length=vs.length/\∀ (i:Nat) (k:L2.Key) (v:V),ws[i]?=some (k,v)->∃ a,vs[i]?=some (V.ref a)/\SqT K H a [L2.kV k,v]
 | [],_,_,e,r=>by
  cases e;cases r
  exact⟨[],rfl,rfl,fun i k v z=>by simp at z⟩
 |d::ds,kvs,vs,e,r=>by
  obtain ⟨v,vs,rfl,hv,hr⟩:=r;unfold kG at e;split at e
  ·rename_i h;cases h
  ·rename_i k y r' h;cases h;cases q:kG ds with
   |none=>rw[q] at e;cases e
   |some kr=>
    rw[q] at e;cases e;obtain ⟨ws,h1,h2,h3⟩:=qA9 ds q hr;obtain ⟨a,us,rfl,ha,u1,ur,rfl,e1,u2,ur2,rfl,e2,e3⟩:=hv;cases e3;cases e1;refine⟨(.inl k,u2)::ws,⟨u2,ws,rfl,e2,h1⟩,by rw[List.length_cons,List.length_cons,h2],fun i k' v' z=>?_⟩;cases i with
    |zero=>cases z;exact⟨a,rfl,ha⟩
    |succ i=>exact h3 i k' v' z
  ·cases e
theorem qBA(I:Inv X pins U H s):∀ (ws:List (L2.Key × V)) {vs:List V} {its:List Value},Vals vs its->ws.length=vs.length->(∀ (i:Nat) (k:L2.Key) (v:V),ws[i]?=some (k,v)->∃ a,vs[i]?=some (V.ref a)/\SqT X.K H a [L2.kV k,v]) ->
  ∃ ps:List (L2.Key × Value),L2.KV ws ps/\ps.length=its.length/\∀ (i:Nat) (k:L2.Key) (x:Value),ps[i]?=some (k,x)->∃ T u,its[i]?=some (.ref T)/\s.heap.IsTuple T #[u,x]/\(L2.mixKind X.prog X.w).is k u=true
 | [],vs,its,r,e,_=>by
  cases vs with
  |cons _ _=>cases e
  |nil=>cases r;exact⟨[],.nil,rfl,fun i k x z=>by simp at z⟩
 | (k,v)::ws,vs,its,r,e,h=>by
  cases vs with
  |nil=>cases e
  |cons y vs=>
   cases r with
   | @cons _ u _ us ry r=>
    obtain ⟨a,e1,e2⟩:=h 0 k v rfl;cases e1;obtain ⟨xs,rx,tp,_⟩:=I.tuple e2;cases rx with
    | @cons _ u1 _ xs1 r1 rx=>
     obtain ⟨x,rfl,r2⟩:=L2.Vals.one rx;cases ry;obtain ⟨ps,p1,p2,p3⟩:=qBA I ws r (by simpa using e) fun i k v z=>h (i+1) k v (by simpa using z);refine⟨(k,x)::ps,.cons ⟨rfl,r2⟩ p1,by rw[List.length_cons,List.length_cons,p2],fun i k' x' z=>?_⟩;cases i with
     |zero=>cases z;exact⟨a,u1,rfl,tp,L2.kV_is r1⟩
     |succ i=>exact p3 i k' x' z
theorem qOF (hc:X.calm=true):qM X (.type "dict") (rC X.K .dictl):=by
 rintro pins s U H xs us Q I rv ⟨x,rfl,w,Y,h,d,r,hd,p⟩
 cases d with
 |ref i=>
  have p:PostV X.K w Q Y H (match (getL h i).bind kG with | some kvs=>(if kvs.length<16777216 then .ok (.ref h.length) (h++[.dct (zI [] kvs)]) else .bad) | none=>.bad):=p;obtain ⟨u,rfl,ru⟩:=L2.Vals.one rv;cases q:getL h i with
  |none=>rw[q] at p;cases p
  |some ds=>
   rw[q] at p;have p:PostV X.K w Q Y H (match kG ds with | some kvs=>(if kvs.length<16777216 then .ok (.ref h.length) (h++[.dct (zI [] kvs)]) else .bad) | none=>.bad):=p;cases qb:kG ds with
   |none=>rw[qb] at p;cases p
   |some kvs=>
    rw[qb] at p;obtain ⟨hl,p⟩:=PostV.ite (c:=kvs.length<16777216) p;obtain ⟨a,vs,rfl,h1,h2⟩:=r.seen q hd;cases ru;obtain ⟨its,rv',pl,hz⟩:=I.list h1;obtain ⟨ws,k1,k2,k3⟩:=qA9 ds qb h2;obtain ⟨ps,p1,p2,p3⟩:=qBA I ws rv' k2 k3;have lw:ps.length<=sizeLine:=by rw[<- p1.length,<- k1.length,zF];exact Nat.le_of_lt hl
    have hm:=(L2.dk_empty (P:=X.prog) (w:=X.w) (H:=H) s.heap I.big).2.1;obtain ⟨⟨oc,od,oa,os⟩,n,g1,g2,g3,g4⟩:=pl;have g2:oc=.type "list":=g2;have g3:od=none:=g3;have g4:oa=.seq its.toArray n:=g4;subst g2 g3 g4;refine qMo (knd:=L2.mixKind X.prog X.w) (I.ok.hd hc) g1 (by simpa using p2) lw (fun i k v e=>?_) fun h' tk dd kp=>?_
    ·obtain ⟨T,u,e1,e2,e3⟩:=p3 i k v e
     exact⟨T,u,by simpa using e1,e2,e3⟩
    ·have hn:=I.hok.fresh (Nat.le_refl s.heap.objs.size)
     have lm:(L2.mergeK [] ws).length<=sizeLine:=by
      have:=L2.length_mergeK ws []
      rw[List.length_nil,Nat.zero_add,<- k1.length] at this;rw[zF];lia
     have stp:Step Y H (Y++[s.heap.objs.size]) (upd H s.heap.objs.size (.dK (L2.mergeK [] ws))):=Step.new1 hn;refine⟨.ref s.heap.objs.size,_,I.laid (t':=tk) kp (Nat.le_refl _) (L2.dk_new lm hm (p1.merge .nil) dd),rfl,?_⟩;exact p _ _ stp (r.newO hn ⟨_,qI,RepK.mono stp _ _ (RepK.merge k1 rfl)⟩) _ ⟨_,by rw[<- r.len,List.getElem?_append_right (Nat.le_refl _)];simp,rfl⟩
 |_=>exact False.elim p
theorem qM8 {x:Str} (hx:x="update") (ha:PE X a (tD X.K W (den F ca))) (hb:PE X b (tD X.K W (den F cb))) (hbase:attributeBase a x X.env (eval a X.env)=eval a X.env) (hline:(apos.endLine == cpos.line)=true)
  (hst:starEach [b] X.env=[(false,eval b X.env)]):PE X (.Call (.Attribute a x apos) [b] [] cpos) (tD X.K W (den F (.me .update ca cb))):=by
 subst hx
 have mt:L2.MtR X "dict.update" fun x ys H Q=>∃ y,ys=[y]/\rB X.K .update x y H Q:=by
  rintro pins s U H x vs v us Q I rx rv ⟨y,rfl,w,Y,h,d,e,r,hd,he,p⟩
  obtain ⟨u,rfl,ru⟩:=rv.one;cases d with
  |ref k=>
   cases e with
   |ref j=>
    have p:PostV X.K w Q Y H (match h[k]?,h[j]? with | some (.dct a),some (.dct b)=>(if k≠j/\a.length+b.length<16777216 then .ok .non (h.set k (.dct (zI a b))) else .bad) | _,_=>.bad):=p;split at p
    ·rename_i ka kb q1 q2;obtain ⟨⟨nk,nl⟩,p⟩:=PostV.ite (c:=k≠j/\ka.length+kb.length<16777216) p;obtain ⟨a1,w1,rfl,ha1,hH1,hk1⟩:=r.dict q1 hd;obtain ⟨a2,w2,rfl,ha2,hH2,hk2⟩:=r.dict q2 he;cases rx;cases ru;have ne:a1≠a2:=fun z=>nk (r.inj k j a1 _ _ q1 q2 rfl rfl ha1 (by rw[z];exact ha2));obtain ⟨z1,m1,v1,rel1,dd1⟩:=L2.dk_of I.hok hH1;obtain ⟨z2,m2,v2,rel2,dd2⟩:=L2.dk_of I.hok hH2;have e1:=hk1.length;have e2:=hk2.length;have e3:=rel1.length;have e4:=rel2.length;refine call_meetsIn PySem.F.slot_dict_update dd1.typeIs PySem.F.entry_dict_update (PySem.F.args_dict_update_2 _ _) (meets_dict_update (L2.mixKind X.prog X.w) a1 a2 ne m2) ⟨v1,v2,dd1,dd2,by rw[zF];lia,fun h' d1 d2 hs=>?_⟩;have hx:∃ q,h'.get? a1=some q:=let ⟨q,_,_,hq,_⟩:=d1;⟨q,hq⟩
     have lm:(L2.mergeK w1 w2).length<=sizeLine:=by
      have:=L2.length_mergeK w2 w1
      rw[zF];lia
     have stp:Step Y H Y (upd H a1 (.dK (L2.mergeK w1 w2))):=Step.turn hH1 rfl (List.mem_of_getElem? ha1)
     exact⟨.non,_,L2.d_write I (by rw[hH1];exact True.intro) hs hx (L2.dk_new lm m1 (rel2.merge rel1) d1),rfl,p Y _ stp (r.setDict q1 ha1 hH1 (RepK.merge hk2 hk1)) .non rfl⟩
    ·cases p
   |_=>exact False.elim p
  |_=>exact False.elim p
 exact kZ (L2.pe_bm PySem.F.plainAttrs_dict PySem.F.slot_dict_update PySem.F.type_dict_update mt ha (L2.pa_cons hb L2.pa_nil (by rw[hst];rfl)) hbase (by rw[hst];rfl) hline (by rw[hst];rfl)) (fun Y h d v H r hv h' z=>by cases d <;> exact gJ r hv z) (kD _) (fun x y H Q z=>⟨y,rfl,z⟩)
end
open L2 (V Hp HO VK TE TT TA TS TI Cx Inv RelV Vals SqL SqT Rd upd qI qE PE PT PA PS PSs EP PI PG PIE Turn qT Ends Un HOk frs)
section
variable {prog:Program}{w:World}{A:Around}{R:Result->Shared->Prop}{s:Shared}
theorem qNn(I:Nat->Shared->Prop)
  (turn:∀ n s,I n s->wpAny (model prog w) A (pyNext it) (fun r s₁=>match r with
   |none=>R (.ok .next) s₁
   |some v=>wpAny (model prog w) A (letOwnedTupleGo target it v) (fun _ s₁'=>wpAny (model prog w) A (assign target env v) (fun _ s₂=>
     wpAny (model prog w) A (forIn ifs true fun c r=>if r=true then do let ok <- isTrue c env (eval c env);pure (ForInStep.yield ok) else pure (ForInStep.yield r)) (fun ok s₃=>
      if ok=true then wpAny (model prog w) A (eval elt env) (fun x s₄=>
       wpAny (model prog w) A (call (.builtin "list.append") [acc,x]) (fun _ s₅=>∃ m,m<n/\I m s₅) (notedBy (model prog w) A env fun e s'=>R (.error e) s') s₄) (notedBy (model prog w) A env fun e s'=>R (.error e) s') s₃
      else ∃ m,m<n/\I m s₃) (notedBy (model prog w) A env fun e s'=>R (.error e) s') s₂) (notedBy (model prog w) A env fun e s'=>R (.error e) s') s₁') (notedBy (model prog w) A env fun e s'=>R (.error e) s') s₁) (notedBy (model prog w) A env fun e s'=>R (.error e) s') s)
  (n:Nat) (h:I n s):codeAny (model prog w) A (.compLoop (.ListComp elt [⟨target,iter,ifs,0⟩] scope pos) 0 it acc env) R s:=by
 refine codeAny_loop rfl I (fun n s hI=>?_) n h;show wpAny _ A ((compTurn (.ListComp elt [⟨target,iter,ifs,0⟩] scope pos) 0 it acc env).onRaise (fun x=>do noteFrame x env;theTreesLotGoes x)) _ _ s;refine wpAny_noted ?_;rw[compTurn_list];refine wpAny_bind (wpAny_standAt (wpAny_bind (wpAny_mono (turn n s hI) (fun r s₁ h₁=>?_) fun _ _ h'=>h')));cases r with
 |none=>exact wpAny_pure h₁
 |some v=>
  refine wpAny_bind (wpAny_mono h₁ (fun _ s₁' h₁'=>?_) fun _ _ h'=>h');refine wpAny_bind (wpAny_mono h₁' (fun _ s₂ h₂=>wpAny_bind (wpAny_mono h₂ (fun ok s₃ h₃=>?_) fun _ _ h'=>h')) fun _ _ h'=>h');cases ok with
  |false=>exact wpAny_pure ⟨rfl,h₃⟩
  |true=>exact wpAny_bind (wpAny_bind (wpAny_mono h₃ (fun x s₄ h₄=>wpAny_bind (wpAny_mono h₄ (fun _ s₅ h₅=>wpAny_pure (wpAny_pure ⟨rfl,h₅⟩)) fun _ _ h'=>h')) fun _ _ h'=>h'))
end
theorem pI:∀ (names:List (Str × NameKind)) (acc:List (Str × Addr)),(∀ y∈names,y.2=.free->∃ c,env.cells.lookup y.1=some c)->(∀ y c,acc.lookup y=some c->env.cells.lookup y=some c) ->
  ∃ cl,(forIn names acc fun (p:Str × NameKind) (r:List (Str × Addr))=>(do if (p.2 == NameKind.free)=true then (do let a <- cellOf env p.1;pure (ForInStep.yield ((p.1,a)::r))) else pure (ForInStep.yield r):Sem (ForInStep (List (Str × Addr)))))=(pure cl:Sem (List (Str × Addr))) /\
   (∀ y c,cl.lookup y=some c->env.cells.lookup y=some c)/\(∀ y∈names,y.2=.free->∃ c,cl.lookup y.1=some c)/\∀ y c,acc.lookup y=some c->∃ c,cl.lookup y=some c
 | [],acc,_,ha=>⟨acc,rfl,ha,fun _ h=>absurd h (by simp),fun y c h=>⟨c,h⟩⟩
 | (n,k)::r,acc,hn,ha=>by
  by_cases hk:k=.free
  ·subst hk;obtain ⟨c,hc⟩:=hn (n,.free) (List.mem_cons_self ..) rfl
   have ha':∀ y d,((n,c)::acc).lookup y=some d->env.cells.lookup y=some d:=fun y d h=>by
    rw[List.lookup_cons] at h;cases q:(y == n) with
    |true=>
     rw[q] at h;cases h
     have:y=n:=by simpa using q
     rw[this];exact hc
    |false=>rw[q] at h;exact ha y d h
   obtain ⟨cl,h1,h2,h3,h4⟩:=pI r ((n,c)::acc) (fun y hy=>hn y (List.mem_cons_of_mem _ hy)) ha';have hl:((n,c)::acc).lookup n=some c:=by rw[List.lookup_cons];simp
   refine⟨cl,?_,h2,fun y hy hf=>?_,fun y d hd=>?_⟩
   ·rw[List.forIn_cons];have e:cellOf env n=pure c:=by unfold cellOf;rw[hc]
    simp only[beq_self_eq_true,if_true,e];exact h1
   ·rcases List.mem_cons.mp hy with rfl | hy
    ·exact h4 n c hl
    ·exact h3 y hy hf
   ·by_cases q:y=n
    ·subst q;exact h4 y c hl
    ·refine h4 y d ?_;rw[List.lookup_cons]
     have:(y == n)=false:=by simpa using q
     rw[this];exact hd
  ·obtain ⟨cl,h1,h2,h3,h4⟩:=pI r acc (fun y hy=>hn y (List.mem_cons_of_mem _ hy)) ha;refine⟨cl,?_,h2,fun y hy hf=>?_,h4⟩
   ·rw[List.forIn_cons];have e:(k == NameKind.free)=false:=by simpa using hk
    simp only[e,Bool.false_eq_true,if_false];exact h1
   ·rcases List.mem_cons.mp hy with rfl | hy
    ·exact absurd hf hk
    ·exact h3 y hy hf
theorem qNt(hn:∀ y∈scope.names,y.2=.free->∃ c,env.cells.lookup y.1=some c) :
  ∃ cl,closureFor scope env=pure cl/\(∀ y c,cl.lookup y=some c->env.cells.lookup y=some c)/\∀ y∈scope.names,y.2=.free->∃ c,cl.lookup y.1=some c:=by
 obtain ⟨cl,h1,h2,h3,_⟩:=pI (env:=env) scope.names [] hn (fun _ _ h=>nomatch h);refine⟨cl,?_,h2,h3⟩;exact (congrArg (fun t:Sem (List (Str × Addr))=>t >>= fun z=>pure z) h1).trans rfl
abbrev noN:Str:=""
def jM(N:List Str)(x:Str):List Str:=N.map fun y=>if y=x then noN else y
theorem bM(N:List Str)(x:Str):(jM N x).length=N.length:=by unfold jM;simp
theorem qJY{i:Nat}(h:(jM N x)[i]?=some y):(N[i]?=some y/\y≠x)\/(N[i]?=some x/\y=noN):=by
 unfold jM at h;rw[List.getElem?_map] at h;cases q:N[i]? with
 |none=>rw[q] at h;cases h
 |some z=>
  rw[q] at h;have h:(if z=x then noN else z)=y:=Option.some.inj h
  by_cases e:z=x
  ·rw[if_pos e] at h;exact .inr ⟨by rw[e],h.symm⟩
  ·rw[if_neg e] at h;exact .inl ⟨by rw[h],h ▸ e⟩
theorem qBQ(nd:N.Nodup)(h1:x≠noN)(h2:x∈N->noN∉N):(jM N x++[x]).Nodup:=by
 have inj:∀ a∈N,∀ b∈N,(if a=x then noN else a)=(if b=x then noN else b)->a=b:=fun a ha b hb e=>by
  by_cases ea:a=x
  ·by_cases eb:b=x
   ·rw[ea,eb]
   ·rw[if_pos ea,if_neg eb] at e;exact absurd (e ▸ hb) (h2 (ea ▸ ha))
  ·by_cases eb:b=x
   ·rw[if_neg ea,if_pos eb] at e;exact absurd (e ▸ ha) (h2 (eb ▸ hb))
   ·rw[if_neg ea,if_neg eb] at e;exact e
 rw[List.nodup_append];refine⟨?_,by simp,fun a ha b hb z=>?_⟩
 ·unfold jM
  clear h1 h2
  induction N with
  |nil=>simp
  |cons c r ih=>
   rw[List.nodup_cons] at nd;rw[List.map_cons,List.nodup_cons];refine⟨fun hm=>?_,ih nd.2 fun a ha b hb=>inj a (List.mem_cons_of_mem _ ha) b (List.mem_cons_of_mem _ hb)⟩;obtain ⟨d,hd,e⟩:=List.mem_map.mp hm
   have:=inj d (List.mem_cons_of_mem _ hd) c (List.mem_cons_self ..) e
   exact nd.1 (this ▸ hd)
 ·rw[List.mem_singleton.mp hb] at z;subst z;unfold jM at ha;obtain ⟨d,hd,e⟩:=List.mem_map.mp ha;have e:(if d=a then noN else d)=a:=e
  by_cases q:d=a
  ·rw[if_pos q] at e;exact h1 e.symm
  ·rw[if_neg q] at e;exact q e
def cxC(X:Cx)(x:Str)(scope:Scope)(cl:List (Str × Addr))(C:Addr)(s3:Shared)(H3:Hp)(fp:List Addr)(E:Value->Shared->Prop):Cx:=
 { X with N:=jM X.N x++[x],s₀:=s3,H₀:=H3,env:=compEnvC scope cl C X.env,outer:=X.stack,ex:=fp,fn:=fun _=>false,pn:=[],xe:=E }
structure CompOk (X:Cx) (x:Str) (scope:Scope):Prop where
 kind:scope.kind=.function
 nocell:∀ y∈scope.names,y.2≠.cell
 loc:∀ y∈scope.names,y.2=.local->scope.names.lookup y.1=some .local
 own:scope.names.lookup x=some .local
 free:∀ y∈scope.names,y.2=.free->X.env.kindOf y.1=some .cell\/X.env.kindOf y.1=some .free
 new:x≠noN
 hole:x∈X.N->noN∉X.N/\scope.names.lookup noN=none
 others:∀ y,y≠x->scope.names.lookup y=some .local->y∈X.N->False
section
variable {X:Cx}{x:Str}{scope:Scope}{cl:List (Str × Addr)}{pins:List (Addr × Obj)}{U:L2.St}{H:Hp}{s:Shared}{fp:List Addr}
theorem kJ{env:PySem.Env}{y:Str}{k:NameKind}:∀ {names:List (Str × NameKind)},(names.map fun (n,k)=>if (k == NameKind.free&&env.scope.kind == .function&&env.kindOf n == some .cell) then (n,NameKind.cell) else (n,k)).lookup y=some k ->
  names.lookup y=some k\/(names.lookup y=some .free/\k=.cell)
 | [],h=>by simp at h
 | (n,k')::r,h=>by
  have ih:=@kJ env y k r;have h:List.lookup y ((if (k' == NameKind.free&&env.scope.kind == .function&&env.kindOf n == some .cell)=true then (n,NameKind.cell) else (n,k'))::(r.map fun (n,k)=>if (k == NameKind.free&&env.scope.kind == .function&&env.kindOf n == some .cell) then (n,NameKind.cell) else (n,k)))=some k:=h
  by_cases hc:(k' == NameKind.free&&env.scope.kind == .function&&env.kindOf n == some .cell)=true
  ·rw[if_pos hc,List.lookup_cons] at h;rw[List.lookup_cons];cases q:(y == n) with
   |true=>
    rw[q] at h;cases h
    have:k'=.free:=by
     simp only[Bool.and_eq_true] at hc;simpa using hc.1.1
    subst this;exact .inr ⟨rfl,rfl⟩
   |false=>rw[q] at h;exact ih h
  ·rw[if_neg hc,List.lookup_cons] at h;rw[List.lookup_cons];cases q:(y == n) with
   |true=>rw[q] at h;exact .inl h
   |false=>rw[q] at h;exact ih h
theorem wV{names:List (Str × NameKind)}(h:names.lookup y=some k):(y,k)∈names:=PySem.mem_of_lookup h
theorem CompOk.vis(C:CompOk X x scope)(hy:y∈X.N)(hne:y≠x)(hv:L2.Vis (relabel scope X.env) y):(scope.names.lookup y=some .free)/\((relabel scope X.env).names.lookup y=some .cell\/(relabel scope X.env).names.lookup y=some .free):=by
 rcases hv with h | h | h
 ·rcases kJ h with z | ⟨_,z⟩
  ·exact (C.others y hne z hy).elim
  ·cases z
 ·rcases kJ h with z | ⟨z,_⟩
  ·exact absurd rfl (C.nocell _ (wV z))
  ·exact⟨z,.inl h⟩
 ·rcases kJ h with z | ⟨z,w⟩
  ·exact⟨z,.inr h⟩
  ·cases w
theorem qNf{C:Addr}{E:Value->Shared->Prop}(K:CompOk X x scope)(I:Inv X pins U H s)(hC:C=s.heap.objs.size)(hcl:∀ y c,cl.lookup y=some c->X.env.cells.lookup y=some c)(hfr:∀ y∈scope.names,y.2=.free->∃ c,cl.lookup y.1=some c)
  (hfp:∀ b∈fp,qT X pins H b) (hlt:∀ b∈fp,b<s.heap.objs.size):(cxC X x scope cl C s H fp E).Ok where
 mod:=I.mod
 kind:=K.kind
 glob:=I.ok.glob
 blt:=I.ok.blt
 above:=by rw[hC];exact Nat.le_refl _
 inj:=fun y z c h1 h2=>I.ok.inj y z c (hcl y c h1) (hcl z c h2)
 has:=fun y hy=>by
  have hy:(relabel scope X.env).names.lookup y=some .cell\/(relabel scope X.env).names.lookup y=some .free:=hy
  have:scope.names.lookup y=some .free:=by
   rcases hy with h | h
   ·rcases kJ h with z | ⟨z,_⟩
    ·exact absurd rfl (K.nocell _ (wV z))
    ·exact z
   ·rcases kJ h with z | ⟨_,w⟩
    ·exact z
    ·cases w
  exact hfr _ (wV this) rfl
 cab:=fun y c h=>by cases h
 hd:=I.ok.hd
 frames:=I.ok.frames
 stk:=.inl rfl
 exf:=fun b hb=>⟨fun z=>by have:=hlt b hb;rw[show b=C from z,hC] at this;exact absurd this (Nat.lt_irrefl _),fun y c h=>(hfp b hb).2.2.2.2.1 y c (hcl y c h)⟩
 bs:=I.bs
 bsz:=Nat.le_trans I.ok.bsz I.sz
 noex:=fun b o e hb=>by
  obtain ⟨_,_,_,f3,_⟩:=hfp b hb;rcases f3 with z | z
  ·exact I.ok.noex b o e z
  ·exact absurd (Nat.lt_of_lt_of_le (Heap.lt_size e) (Nat.le_trans I.ok.bsz z)) (Nat.lt_irrefl _)
 exfs:=fun b hb z=>by
  obtain ⟨_,f1,f2,_⟩:=hfp b hb;rcases List.mem_cons.mp (I.stkSub b z) with q | q
  ·exact f1 q
  ·exact f2 q
 funs:=I.stack
 frf:=I.stkFree
theorem qNg(K:CompOk X x scope)(I:Inv X pins U H s)(hC:C=s.heap.objs.size)(hcl:∀ y c,cl.lookup y=some c->X.env.cells.lookup y=some c)(hfr:∀ y∈scope.names,y.2=.free->∃ c,cl.lookup y.1=some c)
  (hfp:∀ b∈fp,qT X pins H b) (hlt:∀ b∈fp,b<s.heap.objs.size) (hns:h1.Ns C fun _=>none) (old:∀ b o,s.heap.get? b=some o->h1.get? b=some o) :
  Inv (cxC X x scope cl C s H fp E) [] (U++[none]) H { s with heap:=h1,toks:=tk }:=by
 have ok:(cxC X x scope cl C s H fp E).Ok:=qNf K I hC hcl hfr hfp hlt;have fC:H C=none:=I.hok.fresh (by rw[hC];exact Nat.le_refl _);refine⟨ok,rfl,I.bare,Un.kept old,⟨_,hns,fun i y v e1 e2 e3=>?_⟩,fun y c h=>?_,fC,fun y c h=>I.freeC y c (hcl y c h),fun p hp=>absurd hp (by show p∉([]:List (Addr × Obj))++[];simp),I.hok.kept old,?_⟩
 ·have e1:(jM X.N x++[x])[i]?=some y:=e1
  by_cases hi:i<U.length
  ·rw[List.getElem?_append_left hi] at e2;rw[List.getElem?_append_left (by rw[bM,<- I.len];exact hi)] at e1;rcases qJY e1 with⟨e1,hne⟩ | ⟨e9,rfl⟩
   rotate_left
   ·exfalso;have hz:=(K.hole (List.mem_of_getElem? e9)).2;rcases e3 with z | z | z
    ·rcases kJ z with w | ⟨w,_⟩ <;> (rw[hz] at w;cases w)
    ·rcases kJ z with w | ⟨w,_⟩ <;> (rw[hz] at w;cases w)
    ·rcases kJ z with w | ⟨w,_⟩ <;> (rw[hz] at w;cases w)
   obtain ⟨hf,hk⟩:=K.vis (List.mem_of_getElem? e1) hne e3;have ho:=K.free _ (wV hf) rfl;obtain ⟨m,hn,hl⟩:=I.loc
   have vo:L2.Vis X.env.scope y:=by
    rcases ho with z | z
    ·exact .inr (.inl z)
    ·exact .inr (.inr z)
   obtain ⟨u,r,l⟩:=hl i y v e1 e2 vo;refine⟨u,r,.inr ⟨hk,?_⟩⟩;rcases l with⟨hk',_⟩ | ⟨_,c,hc,o,hoc,hd⟩
   ·rcases ho with z | z
    ·have z:X.env.kindOf y=some .cell:=z;rw[hk'] at z;cases z
    ·have z:X.env.kindOf y=some .free:=z;rw[hk'] at z;cases z
   ·obtain ⟨c',hc'⟩:=hfr _ (wV hf) rfl;have e:=hcl _ _ hc';rw[hc] at e;cases e
    exact⟨c,hc',o,old _ _ hoc,hd⟩
  ·rw[List.getElem?_append_right (Nat.le_of_not_lt hi)] at e2;cases q:i-U.length with
   |zero=>rw[q] at e2;cases e2
   |succ n=>rw[q] at e2;simp at e2
 ·obtain ⟨v,o,ho,hd⟩:=I.cell y c (hcl y c h)
  exact⟨v,o,old _ _ ho,hd⟩
 ·show (U++[none]).length=(jM X.N x++[x]).length;rw[List.length_append,List.length_append,bM,I.len];rfl
end
open L2 (store_ok V Hp HO VK TE TT TA TS TI Cx Inv RelV Vals SqL SqT Rd upd qI qE PE PT PA PS PSs EP TP PI PG PIE Turn qT Ends Un HOk frs thn)
def bF:Option TT->TT
 |none=>fun _ H Q=>Q true H
 |some t=>t
def uL(K:PySem.W.Frag)(wi:TI)(tt:Option TT)(te:TE):TE:=fun U H Q=>wi U H fun J H1=>∀ d,H1 d=none->K.lookup d=none->∃ W:Nat->Nat->Hp->Prop,(∃ m,W 0 m (upd H1 d (.lst [])))/\∀ i m H,W i m H ->
 (J.stop i H/\Q (.ref d) H)\/(J.go i H/\∀ x H',J.yld i H x H'->bF tt (U++[some x]) H' fun b H2=>if b=true then te (U++[some x]) H2 fun y H3=>∃ ys,H3 d=some (.lst ys)/\ys.length<sizeLine/\∃ m',m'<m/\W (i+1) m' (upd H3 d (.lst (ys++[y]))) else ∃ m',m'<m/\W (i+1) m' H2)
def PTs(X:Cx)(ifs:List Expr):Option TT->Prop
 |none=>ifs=[]
 |some t=>∃ c,ifs=[c]/\PT X c t
section
variable {X:Cx}{x:Str}{scope:Scope}{pins:List (Addr × Obj)}{U:L2.St}{H:Hp}{s:Shared}{elt iter:Expr}{ifs:List Expr}{px pos p:Pos}{wi:TI}{tt:Option TT}{te:TE}{Q:VK}
theorem qFY(h:PTs X ifs t)(I:Inv X pins U H s)(q:bF t U H Q') :
  wpAny (model X.prog X.w) X.A (forIn ifs true fun c r=>if r=true then do let ok <- isTrue c X.env (eval c X.env);pure (ForInStep.yield ok) else pure (ForInStep.yield r)) (TP X pins U Q') X.xe s:=by
 cases t with
 |none=>have h:ifs=[]:=h;subst h;exact wpAny_tests_nil ⟨H,I,q⟩
 |some t=>obtain ⟨c,rfl,hc⟩:=h;exact wpAny_tests_one (hc pins s U H Q' I q)
theorem qDA(K:CompOk X x scope)(nd:X.N.Nodup)(hc:X.calm=true)(hi:PI X (.Name x px) iter wi)(hfs:∀ x,foldedSetIterable iter X.env x=pure x)
  (hin:∀ cl C s3 H3 fp E,PE (cxC X x scope cl C s3 H3 fp E) elt te/\PTs (cxC X x scope cl C s3 H3 fp E) ifs tt) (I:Inv X pins U H s) (h:uL X.K wi tt te U H Q)
  (fin:∀ (d C:Addr) (H':Hp) (s':Shared) (m:Str->Option Value),Inv X pins U H' s'->s'.heap.Ns C m->qT X pins H' C->Q (.ref d) H'->compPost (model X.prog X.w) X.A X.xe use Qf (.ref d) C (.ok .next) s') :
  wpAny (model X.prog X.w) X.A (comprehension (.ListComp elt [⟨.Name x px,iter,ifs,0⟩] scope pos) scope X.env p (newList []) false (eval iter X.env) use) Qf X.xe s:=by
 obtain ⟨cl,hclos,hcl,hfr⟩:=qNt (env:=X.env) (scope:=scope) fun y hy hf=>I.ok.has _ (K.free y hy hf);refine wpAny_comprehension_free (use:=use) rfl hfs hclos K.kind K.loc (thn (hi pins s U H _ I h) fun v s1 h1=>thn h1 fun itv s2 h2=>?_);obtain ⟨it,fp,tn,J,H2,e,I2,T,st2,f2,hR⟩:=h2;subst e;refine wpAny_newObj_type ?_
 obtain ⟨W,⟨m0,w0⟩,turn⟩:=hR s2.heap.objs.size I2.fresh (by
  cases q:X.K.lookup s2.heap.objs.size with
  |none=>rfl
  |some o=>exact absurd (Heap.lt_size (I2.kIn _ o q)) (Nat.lt_irrefl _))
 have I3:=I2.lnew (its:=[]) (ys:=[]) (t':=s2.toks) .nil (Nat.zero_le _);have fd:∀ b∈fp,b<s2.heap.objs.size:=fun b hb=>let ⟨o,e,_⟩:=T.obj _ _ st2 b hb;Heap.lt_size e;have f3:∀ b∈fp,qT X pins (upd H2 s2.heap.objs.size (.lst [])) b:=fun b hb=>⟨by rw[qE (Nat.ne_of_lt (fd b hb))];exact (f2 b hb).1,(f2 b hb).2⟩;have st3:tn 0 (s2.heap.push { cls:=.type "list",data:=.seq ([]:List Value).toArray }):=T.keep _ _ _ st2 fun b _ o e=>Heap.get?_push_of_some _ e;generalize hd:s2.heap.objs.size=d at *;generalize hH3:upd H2 d (.lst [])=H3 at *;generalize hs3:({ s2 with heap:=s2.heap.push { cls:=.type "list",data:=.seq ([]:List Value).toArray },toks:=s2.toks }:Shared)=s3 at *;have st3:tn 0 s3.heap:=by rw[<- hs3];exact st3
 have lt3:∀ b∈fp,b<s3.heap.objs.size:=fun b hb=>let ⟨o,e,_⟩:=T.obj _ _ st3 b hb;Heap.lt_size e;refine wpAny_newFunctionEnv K.nocell (by intro y hy;simp at hy) (fun h1 hns hsb=>?_) K.kind;have old:∀ b o,s3.heap.get? b=some o->h1.get? b=some o:=fun b o e=>hsb.extBut b o (Nat.ne_of_lt (Heap.lt_size e)) (Heap.get?_push_of_some _ e);show codeAny _ _ (.compStart (.ListComp elt [⟨.Name x px,iter,ifs,0⟩] scope pos) 0 (.ref it) (.ref d) (compEnvC scope cl s3.heap.objs.size X.env)) (compPost (model X.prog X.w) X.A X.xe use Qf (.ref d) s3.heap.objs.size) _;generalize hC:s3.heap.objs.size=C at *;have I4:=qNg (E:=notedBy (model X.prog X.w) X.A (compEnvC scope cl C X.env) fun e s'=>compPost (model X.prog X.w) X.A X.xe use Qf (.ref d) C (.error e) s') (tk:=s3.toks+([]:List (Str × Value)).length) K I3 hC.symm hcl hfr f3 (by rw[hC];exact lt3) hns old;obtain ⟨hE,hT⟩:=hin cl C s3 H3 fp (notedBy (model X.prog X.w) X.A (compEnvC scope cl C X.env) fun e s'=>compPost (model X.prog X.w) X.A X.xe use Qf (.ref d) C (.error e) s');generalize hX:cxC X x scope cl C s3 H3 fp (notedBy (model X.prog X.w) X.A (compEnvC scope cl C X.env) fun e s'=>compPost (model X.prog X.w) X.A X.xe use Qf (.ref d) C (.error e) s')=X' at I4 hE hT;have pX:X'.prog=X.prog:=by rw[<- hX];rfl
 have wX:X'.w=X.w:=by rw[<- hX];rfl
 have kX:X'.K=X.K:=by rw[<- hX];rfl
 have aX:X'.A=X.A:=by rw[<- hX];rfl
 have cX:X'.calm=true:=by rw[<- hX];exact hc
 have eX:X'.env=compEnvC scope cl C X.env:=by rw[<- hX];rfl
 have xX:X'.xe=notedBy (model X.prog X.w) X.A (compEnvC scope cl C X.env) fun e s'=>compPost (model X.prog X.w) X.A X.xe use Qf (.ref d) C (.error e) s':=by rw[<- hX];rfl
 have nX:X'.N=jM X.N x++[x]:=by rw[<- hX];rfl
 have sX:X'.s₀=s3:=by rw[<- hX];rfl
 have hX0:X'.H₀=H3:=by rw[<- hX];rfl
 have oX:X'.fs=frs X.stack:=by rw[<- hX];rfl
 have exX:X'.ex=fp:=by rw[<- hX];rfl
 have pnX:X'.pn=[]:=by rw[<- hX];rfl
 have lX:X'.env.locals=C:=by rw[eX];rfl
 have slot:X'.N[U.length]?=some x:=by
  rw[nX,List.getElem?_append_right (by rw[bM,I3.len];exact Nat.le_refl _),bM,I3.len];simp
 have ndX:X'.N.Nodup:=by
  rw[nX];exact qBQ nd K.new fun z=>(K.hole z).1
 have locX:L2.Loc X'.env.scope x:=by
  rw[eX];exact .inl (lookup_relabel_local K.own)
 have stat:∀ {H':Hp},(∀ b∈fp,H' b=none)->∀ b∈fp,qT X' [] H' b:=fun hn b hb=>by
  refine⟨hn b hb,?_,?_,.inl (by rw[exX];exact hb),fun y c h=>?_,fun p hp=>?_⟩
  ·rw[lX];exact Nat.ne_of_lt (lt3 b hb)
  ·rw[oX];intro z;rcases List.mem_cons.mp (I3.stkSub b z) with q | q
   ·exact (f3 b hb).2.1 q
   ·exact (f3 b hb).2.2.1 q
  ·rw[eX] at h;exact (f3 b hb).2.2.2.2.1 y c (hcl y c h)
  ·rw[pnX] at hp;simp at hp
 have loop:∀ s':Shared,s'={ s3 with heap:=h1,toks:=s3.toks+([]:List (Str × Value)).length } ->
   codeAny (model X.prog X.w) X.A (.compLoop (.ListComp elt [⟨.Name x px,iter,ifs,0⟩] scope pos) 0 (.ref it) (.ref d) (compEnvC scope cl C X.env)) (compPost (model X.prog X.w) X.A X.xe use Qf (.ref d) C) s':=by
  rintro s' rfl
  refine qNn (fun n s'=>∃ i v H',Inv X' [] (U++[v]) H' s'/\tn i s'.heap/\(∀ b∈fp,H' b=none)/\W i n H') ?_ m0 ⟨0,none,H3,I4,T.keep _ _ _ st3 fun b _ o e=>old b o e,fun b hb=>(f3 b hb).1,w0⟩
  rintro n s4 ⟨i,v4,H4,I4,st4,fr4,w4⟩
  rcases turn i n H4 w4 with⟨stop,qn⟩ | ⟨go,step⟩
  ·have td:=T.done X' pX wX kX cX i [] s4 _ H4 (notedBy (model X.prog X.w) X.A (compEnvC scope cl C X.env) fun e s'=>compPost (model X.prog X.w) X.A X.xe use Qf (.ref d) C (.error e) s') I4 (stat fr4) st4 stop;rw[aX] at td;refine thn td fun r s5 ⟨hr,I5⟩=>?_;subst hr;obtain ⟨m,hn,_⟩:=I5.loc;rw[lX] at hn;have fC:H4 C=none:=by rw[<- lX];exact I5.free
   have un:L2.Un (frs X.stack) fp H3 H4 s3.heap s5.heap:=by
    have:=I5.base
    rw[sX,hX0,oX,exX] at this;exact this
   have IX:Inv X pins U H4 s5:=I3.call' (by have:=I5.os;rw[sX] at this;exact this) un (by have:=I5.hok;rw[pX,wX] at this;exact this) I5.bare fun b hb=>⟨(f3 b hb).2.2.2.1,(f3 b hb).2.1,(f3 b hb).2.2.2.2.1,(f3 b hb).2.2.2.2.2⟩;exact fin d C H4 s5 m IX hn (I3.fpOk (by rw[hC];exact Nat.le_refl _) fC) qn
  ·have ti:=T.item X' pX wX kX cX i [] s4 _ H4 (notedBy (model X.prog X.w) X.A (compEnvC scope cl C X.env) fun e s'=>compPost (model X.prog X.w) X.A X.xe use Qf (.ref d) C (.error e) s') I4 (stat fr4) st4 go;rw[aX] at ti;refine thn ti fun r s5 ⟨u,hr,h5⟩=>?_;subst hr;refine thn h5 fun _ s6 ⟨xv,H6,I6,r6,y6,st6,fr6⟩=>?_;have I6':=I6.pinned (stat fr6) (T.obj _ _ st6)
   have as:=wpAny_assign_Name (pos:=px) (store_ok (M:=model X.prog X.w) (A:=X.A) (E:=notedBy (model X.prog X.w) X.A (compEnvC scope cl C X.env) fun e s'=>compPost (model X.prog X.w) X.A X.xe use Qf (.ref d) C (.error e) s') (Q:=fun _ s7=>Inv X' ([]++L2.pinsAt fp s6.heap) (U++[some xv]) H6 s7) I6' ndX slot locX r6 (fun s7 I7=>by
    have e:(U++[v4]).set U.length (some xv)=U++[some xv]:=by simp
    rw[e] at I7
    exact I7) (.inr (by rw[eX];exact lookup_relabel_local K.own)))
   rw[eX] at as;refine thn as fun _ s7 I7=>?_;have te:=qFY hT I7 (step xv H6 y6);rw[pX,wX,aX,xX,eX] at te;refine thn te fun ok s8 ⟨H8,I8,q8⟩=>?_
   have again:∀ {H9:Hp} {s9:Shared} {k:Nat},Inv X' ([]++L2.pinsAt fp s6.heap) (U++[some xv]) H9 s9->W (i+1) k H9->∃ i v H',Inv X' [] (U++[v]) H' s9/\tn i s9.heap/\(∀ b∈fp,H' b=none)/\W i k H':=fun {H9 s9 k} I9 w9=>by
    refine⟨i+1,some xv,H9,I9.unpinned,T.keep _ _ _ st6 fun b hb o e=>(I9.pin (b,o) (List.mem_append_right _ (List.mem_append_right _ (L2.mem_pinsAt hb e)))).1,fun b hb=>?_,w9⟩;obtain ⟨o,e,_⟩:=T.obj _ _ st6 b hb;exact (I9.pin (b,o) (List.mem_append_right _ (List.mem_append_right _ (L2.mem_pinsAt hb e)))).2.1
   cases ok with
   |false=>
    obtain ⟨m',hm,w9⟩:=q8
    exact⟨m',hm,again I8 w9⟩
   |true=>
    have ev:=hE _ s8 _ H8 _ I8 q8;rw[pX,wX,aX,xX,eX] at ev;refine thn ev fun y s9 ⟨yv,H9,I9,r9,ys,hd9,hz,m',hm,w9⟩=>?_;have ap:=L2.mt_append (X:=X') _ s9 _ H9 (.ref d) [yv] (.ref d) [y] (fun _ H'=>H'=upd H9 d (.lst (ys++[yv]))) I9 rfl (.cons r9 .nil) ⟨d,ys,yv,rfl,rfl,hd9,hz,rfl⟩;rw[pX,wX,aX,xX] at ap;refine thn ap fun z s10 ⟨_,H10,I10,_,e10⟩=>?_;subst e10
    exact⟨m',hm,again I10 w9⟩
 exact codeAny_compStart_list (loop _ rfl) (T.self _ 0 _ _ _ (T.keep _ _ _ st3 fun b _ o e=>old b o e) (loop _ rfl))
theorem qEX(I:Inv X pins U H' s')(f:qT X pins H' C)(hs:Heap.SameBut C s'.heap h'):Inv X pins U H' { s' with heap:=h' }:=
 I.turned (t':=s'.toks) (fun b o hb e=>hs.extBut b o hb e) f.1 f.2.1 f.2.2.2.1 f.2.2.2.2.1 f.2.2.2.2.2
theorem bD(K:CompOk X x scope)(nd:X.N.Nodup)(hc:X.calm=true)(hi:PI X (.Name x px) iter wi)(hfs:∀ x,foldedSetIterable iter X.env x=pure x)
  (hin:∀ cl C s3 H3 fp E,PE (cxC X x scope cl C s3 H3 fp E) elt te/\PTs (cxC X x scope cl C s3 H3 fp E) ifs tt):PE X (.ListComp elt [⟨.Name x px,iter,ifs,0⟩] scope pos) (uL X.K wi tt te):=by
 intro pins s U H Q I h;rw[eval_ListComp];refine qDA (use:=none) K nd hc hi hfs hin I h fun d C H' s' m IX hn f q=>?_
 exact⟨m,hn,fun h' hs'=>⟨.ref d,H',qEX IX f hs',rfl,q⟩⟩
theorem qAx(K:CompOk X x scope)(nd:X.N.Nodup)(hc:X.calm=true)(hi:PI X (.Name x px) iter wi)(hfs:∀ x,foldedSetIterable iter X.env x=pure x)
  (hin:∀ cl C s3 H3 fp E,PE (cxC X x scope cl C s3 H3 fp E) elt te/\PTs (cxC X x scope cl C s3 H3 fp E) ifs tt) (hy:X.N[i]?=some y) (hk:X.env.scope.names.lookup y=some .local)
  (hsw:swapsWith (.ListComp elt [⟨.Name x px,iter,ifs,0⟩] scope pos) (some (.Name y py)) spos.line X.env=pure true) :
  PS X (.Assign [.Name y py] (.ListComp elt [⟨.Name x px,iter,ifs,0⟩] scope pos) spos) (fun D U H=>uL X.K wi tt te U H fun v H'=>D.nx (U.set i (some v)) H'):=by
 intro pins s U H D I h;rw[exec_Assign_Name_used _ _ _ _ hsw];refine wpAny_bind (wpAny_standAt (wpAny_bind ?_));show wpAny _ X.A (do let _ <- comprehension (.ListComp elt [⟨.Name x px,iter,ifs,0⟩] scope pos) scope X.env _ (newList []) false (eval iter X.env) (some (assign (.Name y py) X.env))) _ _ s;refine wpAny_bind (wpAny_mono (qDA (use:=some (assign (.Name y py) X.env)) (Qf:=fun _ s'=>L2.SP X pins D .next s') K nd hc hi hfs hin I h fun d C H' s' m IX hn f q=>?_) (fun _ s' hq=>wpAny_pure (wpAny_pure hq)) fun _ _ e=>e);obtain ⟨oC,es,ep,hC,hr⟩:=id hn;have dC:∀ v,oC.data≠.cell v:=fun v z=>by rw[hr.1] at z;cases z
 have IP:Inv X (pins++[(C,oC)]) U H' s':=IX.pins_of fun p hp=>by
  rcases List.mem_append.mp hp with z | z
  ·exact IX.pin p (List.mem_append_right _ z)
  ·have e:p=(C,oC):=List.mem_singleton.mp z;subst e
   exact⟨hC,f.1,f.2.1,f.2.2.1,dC⟩
 show wpAny _ X.A (assign (.Name y py) X.env (.ref d)) _ _ _;refine wpAny_assign_Name (store_ok IP nd hy (.inl hk) (v:=.ref d) rfl (fun s7 I7=>?_) (.inr hk));have k7:=(I7.pin (C,oC) (List.mem_append_right _ (List.mem_append_right _ (List.mem_singleton.mpr rfl)))).1
 exact⟨m,⟨oC,es,ep,k7,hr⟩,fun h' hs'=>⟨_,H',qEX I7.unpinned f hs',q⟩⟩
end
structure CompM (X:Cx) (N' xs:List Str) (scope:Scope):Prop where
 kind:scope.kind=.function
 nocell:∀ y∈scope.names,y.2≠.cell
 loc:∀ y∈scope.names,y.2=.local->scope.names.lookup y.1=some .local
 own:∀ x∈xs,scope.names.lookup x=some .local
 free:∀ y∈scope.names,y.2=.free->X.env.kindOf y.1=some .cell\/X.env.kindOf y.1=some .free
 len:N'.length=X.N.length
 nd:(N'++xs).Nodup
 get:∀ (i:Nat) (y:Str),N'[i]?=some y->(X.N[i]?=some y/\y∉xs)\/scope.names.lookup y=none
 others:∀ y,y∉xs->scope.names.lookup y=some .local->y∈X.N->False
section
variable {X:Cx}{N' xs:List Str}{scope:Scope}{cl:List (Str × Addr)}{pins:List (Addr × Obj)}{U:L2.St}{H:Hp}{s:Shared}{fp:List Addr}
theorem CompM.vis(C:CompM X N' xs scope)(hy:y∈X.N)(hne:y∉xs)(hv:L2.Vis (relabel scope X.env) y):(scope.names.lookup y=some .free)/\((relabel scope X.env).names.lookup y=some .cell\/(relabel scope X.env).names.lookup y=some .free):=by
 rcases hv with h | h | h
 ·rcases kJ h with z | ⟨_,z⟩
  ·exact (C.others y hne z hy).elim
  ·cases z
 ·rcases kJ h with z | ⟨z,_⟩
  ·exact absurd rfl (C.nocell _ (wV z))
  ·exact⟨z,.inl h⟩
 ·rcases kJ h with z | ⟨z,w⟩
  ·exact⟨z,.inr h⟩
  ·cases w
end
section
variable {X:Cx}{N' xs:List Str}{scope:Scope}{pins:List (Addr × Obj)}{U:L2.St}{H:Hp}{s:Shared}{tg elt iter:Expr}{g:L2.TG}{ifs:List Expr}{pos p:Pos}{wi:TI}{tt:Option TT}{te:TE}{Q:VK}
end
def uE(K:PySem.W.Frag)(Y:List Addr)(H:Hp):It->L2.It->Prop
 | .row xs,J=>(∀ (i:Nat) Y' H',Step Y H Y' H'->i<xs.length->J.go i H')/\(∀ (i:Nat) Y' H' x H'',Step Y H Y' H'->i<xs.length->J.yld i H' x H''->H''=H'/\∃ d,xs[i]?=some d/\RepV K Y' H' d x)/\∀ (i:Nat) Y' H',Step Y H Y' H'->i=xs.length->J.stop i H'
 | .live k,J=>∃ a,Y[k]?=some a/\J=L2.Itl K a
 | .pairs xs,J=>(∀ (i:Nat) Y' H',Step Y H Y' H'->i<xs.length->J.go i H')/\(∀ (i:Nat) Y' H' x H'',Step Y H Y' H'->i<xs.length->J.yld i H' x H''->∃ p u,H' p=none/\H''=upd H' p u/\∃ d,xs[i]?=some d/\RepV K Y' H'' d x)/\∀ (i:Nat) Y' H',Step Y H Y' H'->i=xs.length->J.stop i H'
def tDI(K:PySem.W.Frag)(W:WX)(m:Env->M It):TI:=fun U H R=>∃ Y env h,RepS K Y H env U/\RepH K Y h H/\Post K (W.at U) (fun Y' H' r=>∀ J,uE K Y' H' r J->R J H') Y H (m env h)
theorem PI.imp(h:PI X tg e t)(i:∀ U H R,t' U H R->t U H R):PI X tg e t':=fun pins s U H R I q=>h pins s U H R I (i U H R q)
theorem qAm{K:PySem.W.Frag}(lo:Int)(n:Nat):uE K Y H (.row (jD lo n)) (L2.Itr lo n):=by
 have hl:(jD lo n).length=n:=by unfold jD;simp
 refine⟨fun i Y' H' _ hi=>by rw[hl] at hi;exact hi,fun i Y' H' x H'' _ hi y=>?_,fun i Y' H' _ hi=>by rw[hl] at hi;exact Nat.le_of_eq hi.symm⟩;obtain ⟨rfl,rfl⟩:=y;rw[hl] at hi;refine⟨rfl,.int (lo+i),?_,rfl⟩;unfold jD;rw[List.getElem?_map,List.getElem?_range hi];rfl
theorem qG1{K:PySem.W.Frag}(x:Tx):uE K Y H (.row (x.map fun c=>D.str [c])) (Its ⟨x.toArray⟩):=by
 have hl:(x.map fun c=>D.str [c]).length=x.toArray.size:=by simp
 refine⟨fun i Y' H' _ hi=>by rw[hl] at hi;exact hi,fun i Y' H' z H'' _ hi y=>?_,fun i Y' H' _ hi=>by rw[hl] at hi;exact hi⟩;obtain ⟨rfl,c,hc,rfl⟩:=y;refine⟨rfl,.str [c],?_,rfl⟩;have hc:x.toArray[i]?=some c:=hc;rw[List.getElem?_map];rw[List.getElem?_toArray] at hc;rw[hc];rfl
theorem qG0{K:PySem.W.Frag}(ha:SqT K H a vs)(hx:RepL K Y H xs vs):uE K Y H (.row xs) (L2.Itt K a):=by
 have hl:=hx.length;refine⟨fun i Y' H' e hi=>?_,fun i Y' H' z H'' e hi y=>?_,fun i Y' H' e hi=>⟨vs,e.sqt ha,by lia⟩⟩
 ·exact⟨vs,vs[i]'(by lia),e.sqt ha,by simp[show i<vs.length by lia]⟩
 ·obtain ⟨rfl,y⟩:=y;have q:xs[i]?=some xs[i]:=by simp[hi]
  obtain ⟨w,h1,h2⟩:=hx.get q;have y':=y vs (e.sqt ha);rw[h1] at y';cases y'
  exact⟨rfl,_,q,h2.mono e _ _⟩
section
variable {X:Cx}{F:Nat->List D->M D}{tg:Expr}{W:WX}
theorem qM2(he:PE X e (tD X.K W (den F c))):PI X tg e (tDI X.K W (jF F (.of c))):=PI.imp (qHN he) fun U H Rr t=>by
 obtain ⟨Y,env,h,s,r,p⟩:=t;dsimp only[jF] at p;refine⟨Y,env,h,s,r,Post.bind p fun Y1 h1 d H1 e1 r1 q v hv=>?_⟩;cases d with
 |str x=>cases hv;exact .inr (.inr ⟨_,rfl,Post.ret (a:=It.row (x.map fun c=>D.str [c])) q r1 _ (qG1 x)⟩)
 |tup xs=>obtain ⟨a,vs,rfl,k1,k2⟩:=hv;exact .inr (.inl ⟨a,rfl,⟨vs,k1⟩,Post.ret (a:=It.row xs) q r1 _ (qG0 k1 k2)⟩)
 |ref i=>
  have q:Post X.K (W.at U) _ Y1 H1 (match getL h1 i with | some _=>R.ok (It.live i) h1 | none=>.bad):=q;cases z:getL h1 i with
  |none=>rw[z] at q;cases q
  |some xs=>rw[z] at q;obtain ⟨a,k1,rfl⟩:=hv;obtain ⟨b,vs,k2,k3,_⟩:=r1.list z;rw[k1] at k2;cases k2;exact .inl ⟨a,rfl,⟨vs,k3⟩,Post.ret (a:=It.live i) q r1 _ ⟨a,k1,rfl⟩⟩
 |_=>cases q
theorem qM1 (hgl:L2.Gl X "range") (hm:X.mg "range"=none) (he:PE X a (tD X.K W (den F c))) (hst:starEach [a] X.env=[(false,eval a X.env)]) :
  PI X tg (.Call (.Name "range" p1) [a] [] p2) (tDI X.K W (jF F (.rng1 c))):=PI.imp (L2.pi_range1 hgl hm (L2.pa_cons he L2.pa_nil hst) hst) fun U H R t=>by
 obtain ⟨Y,env,h,s,r,p⟩:=t;dsimp only[jF] at p;refine⟨Y,env,h,s,r,Post.bind p fun Y1 h1 d H1 e1 r1 q v hv=>?_⟩;cases d with
 |int j=>
  cases hv;obtain ⟨z,q⟩:=Post.when q
  exact⟨j,rfl,by have:=z.1;lia,by have:=z.2;lia,Post.ret q r1 _ (qAm 0 j.toNat)⟩
 |_=>cases q
theorem qM0 (hgl:L2.Gl X "range") (hm:X.mg "range"=none) (he:PE X a (tD X.K W (den F c))) (he':PE X b (tD X.K W (den F c'))) (hst:starEach [a,b] X.env=[(false,eval a X.env),(false,eval b X.env)]) (hst2:starEach [b] X.env=[(false,eval b X.env)]) :
  PI X tg (.Call (.Name "range" p1) [a,b] [] p2) (tDI X.K W (jF F (.rng2 c c'))):=PI.imp (L2.pi_range2 hgl hm (L2.pa_cons he (L2.pa_cons he' L2.pa_nil hst2) (by rw[hst,hst2])) hst hst2) fun U H R t=>by
 obtain ⟨Y,env,h,s,r,p⟩:=t;dsimp only[jF] at p;refine⟨Y,env,h,s,r,Post.bind p fun Y1 h1 d H1 e1 r1 q v hv=>?_⟩;refine⟨Y1,env,h1,s.mono e1,r1,Post.bind q fun Y2 h2 d2 H2 e2 r2 q2 w hw=>?_⟩;have hv:=hv.mono e2 _ _;cases d with
 |int i=>
  cases d2 with
  |int j=>
   cases hv;cases hw;obtain ⟨z,q⟩:=Post.when q2
   exact⟨i,j,rfl,⟨by have:=z.1.1;lia,by have:=z.1.2;lia,by have:=z.2.1;lia,by have:=z.2.2;lia⟩,Post.ret q r2 _ (qAm i _)⟩
  |_=>cases q2
 |_=>cases q2
end
def del(H:Hp)(d:Addr):Hp:=fun b=>if b=d then none else H b
theorem wC:del H d d=none:=if_pos rfl
theorem vK(h:b≠d):del H d b=H b:=if_neg h
theorem kY:del (upd H d o) d=del H d:=by
 funext b
 by_cases h:b=d
 ·rw[h,wC,wC]
 ·rw[vK h,vK h,qE h]
theorem eO(h:H d=some o):upd (del H d) d o=H:=by
 funext b
 by_cases hb:b=d
 ·rw[hb,qI,h]
 ·rw[qE hb,vK hb]
theorem uB(h:H d=none):del H d=H:=by
 funext b
 by_cases hb:b=d
 ·rw[hb,wC,h]
 ·rw[vK hb]
section
variable {K:PySem.W.Frag}{Y:List Addr}{H:Hp}{d:Addr}{ys:List V}
theorem qAN(hd:H d=some (.lst ys))(h:SqT K H a vs):SqT K (del H d) a vs:=by
 rcases h with (h | ⟨o,h⟩) | h
 ·exact .inl (.inl (by rw[vK (by rintro rfl;rw[hd] at h;cases h)];exact h))
 ·exact .inl (.inr ⟨o,by rw[vK (by rintro rfl;rw[hd] at h;cases h)];exact h⟩)
 ·exact .inr h
mutual
theorem RepV.sq(hs:∀ b us,SqT K H b us->SqT K H' b us):∀ (x:D) (v:V),RepV K Y H x v->RepV K Y H' x v
 | .non,_,h=>h
 | .bl _,_,h=>h
 | .int _,_,h=>h
 | .str _,_,h=>h
 | .tup xs,v,⟨a,vs,h1,h2,h3⟩=>⟨a,vs,h1,hs _ _ h2,RepL.sq hs xs vs h3⟩
 | .ref _,_,h=>h
theorem RepL.sq(hs:∀ b us,SqT K H b us->SqT K H' b us):∀ (xs:List D) (vs:List V),RepL K Y H xs vs->RepL K Y H' xs vs
 | [],_,h=>h
 |x::xs,_,⟨v,r,h1,h2,h3⟩=>⟨v,r,h1,RepV.sq hs x v h2,RepL.sq hs xs r h3⟩
end
theorem RepF.sq{H':Hp}(hs:∀ b us,SqT K H b us->SqT K H' b us){C:Addr}:∀ (xs:List (Nat × D)) (vs:List (Str × V)),RepF K Y H C xs vs->RepF K Y H' C xs vs
 | [],_,h=>h
 |x::xs,_,⟨v,r,h1,hb,hn,h2,h3⟩=>⟨v,r,h1,hb,hn,RepV.sq hs _ v h2,RepF.sq hs xs r h3⟩
theorem RepK.sq{H':Hp}(hs:∀ b us,SqT K H b us->SqT K H' b us):∀ (xs:List (Ky × D)) (vs:List (L2.Key × V)),RepK K Y H xs vs->RepK K Y H' xs vs
 | [],_,h=>h
 |x::xs,_,⟨v,r,h1,h2,h3⟩=>⟨v,r,h1,RepV.sq hs _ v h2,RepK.sq hs xs r h3⟩
theorem RepO.sq{H':Hp}(hs:∀ b us,SqT K H b us->SqT K H' b us){o:O}{a:Addr}(na:H' a=H a)(h2:RepO K Y H o a):RepO K Y H' o a:=by
 cases o with
 |lst xs=>
  obtain ⟨vs,k1,k2⟩:=h2
  exact⟨vs,by rw[na];exact k1,k2.sq hs _ _⟩
 |rol xs=>
  obtain ⟨vs,k1,k2⟩:=h2;refine⟨vs,?_,k2.sq hs _ _⟩;rcases k1 with⟨ob,k1⟩ | k1
  ·exact .inl ⟨ob,by rw[na];exact k1⟩
  ·exact .inr k1
 |ins c fs=>
  obtain ⟨C,dx,vs,k1,kc,k2,k3⟩:=h2
  exact⟨C,dx,vs,k1,kc,by rw[na];exact k2,k3.sq hs _ _⟩
 |dct kvs=>
  obtain ⟨vs,k1,k2⟩:=h2
  exact⟨vs,by rw[na];exact k1,k2.sq hs _ _⟩
 |xc c=>
  obtain ⟨C,k1,k2⟩:=h2
  exact⟨C,k1,by rw[na];exact k2⟩
 |rod kvs=>
  obtain ⟨ob,vs,k1,k2⟩:=h2
  exact⟨ob,vs,by rw[na];exact k1,k2.sq hs _ _⟩
theorem RepV.del(hd:H d=some (.lst ys))(x:D)(v:V)(h:RepV K Y H x v):RepV K Y (del H d) x v:=RepV.sq (fun _ _=>qAN hd) x v h
theorem RepH.del{h:AH}(r:RepH K Y h H)(hd:H d=some (.lst ys))(hn:d∉Y):RepH K Y h (del H d):=by
 refine⟨r.len,fun i o hi=>?_,r.inj⟩;obtain ⟨a,h1,h2⟩:=r.obj i o hi
 exact⟨a,h1,h2.sq (fun _ _=>qAN hd) (vK (by
  rintro rfl
  exact hn (List.mem_of_getElem? h1)))⟩
theorem RepH.not{h:AH}(r:RepH K Y h H)(hd:H d=none)(hK:K.lookup d=none):d∉Y:=fun z=>by
 obtain ⟨k,hk⟩:=List.getElem?_of_mem z;have hlt:=(List.getElem?_eq_some_iff.mp hk).1;obtain ⟨a,h2,h3⟩:=r.obj k _ (List.getElem?_eq_getElem (by rw[<- r.len];exact hlt));rw[hk] at h2;cases h2;generalize h[k]'(by rw[<- r.len];exact hlt)=o at h3;cases o with
 |lst xs=>obtain ⟨vs,z1,_⟩:=h3;rw[hd] at z1;cases z1
 |rol xs=>
  obtain ⟨vs,z1,_⟩:=h3;rcases z1 with⟨ob,z1⟩ | ⟨ob,its,n,z1,_⟩
  ·rw[hd] at z1;cases z1
  ·rw[hK] at z1;cases z1
 |ins c fs=>obtain ⟨C,dx,vs,_,_,z1,_⟩:=h3;rw[hd] at z1;cases z1
 |dct kvs=>obtain ⟨vs,z1,_⟩:=h3;rw[hd] at z1;cases z1
 |xc c=>obtain ⟨C,_,z1⟩:=h3;rw[hd] at z1;cases z1
 |rod kvs=>obtain ⟨ob,vs,z1,_⟩:=h3;rw[hd] at z1;cases z1
theorem Step.del(e:Step Y H Y' H')(hn:d∉Y)(hd:H d=some (.lst ys)):Step Y (del H d) Y' (del H' d)/\d∉Y'/\H' d=some (.lst ys):=by
 refine⟨⟨e.pre,fun a ha=>?_,fun a o h c=>?_⟩,fun z=>?_,e.keep _ _ hd (.inr hn)⟩
 ·rcases e.new a ha with z | z
  ·exact .inl z
  ·refine .inr ?_
   by_cases q:a=d
   ·rw[q];exact wC
   ·rw[vK q];exact z
 ·have na:a≠d:=by
   rintro rfl
   rw[wC] at h;cases h
  rw[vK na] at h ⊢;exact e.keep a o h c
 ·rcases e.new d z with q | q
  ·exact hn q
  ·rw[hd] at q;cases q
end
theorem qAl{α β:Type}(a:α)(f:α->M β):M.bind (M.ret a) f=f a:=rfl
theorem qJb(f:D->M (Option D))(x:D)(r acc:List D):(M.bind (zG f (x::r)) fun qG=>newL (acc++qG))=M.bind (f x) fun y=>M.bind (zG f r) fun qG=>newL ((acc++y.toList)++qG):=by
 rw[zG,kS];congr 1;funext y;rw[kS];congr 1;funext ys;rw[qAl];cases y <;> simp
section
variable {K:PySem.W.Frag}{F:Nat->List D->M D}{Q:VK}{w:W1}{W:WX}
structure Mid (K:PySem.W.Frag) (Y1:List Addr) (H1:Hp) (d:Addr) (Y:List Addr) (h:AH) (acc:List D) (ys:List V) (H:Hp):Prop where
 st:Step Y1 H1 Y (del H d)
 nd:d∉Y
 at':H d=some (.lst ys)
 rh:RepH K Y h (del H d)
 rl:RepL K Y (del H d) acc ys
theorem Mid.up(G0:Mid K Y1 H1 d Y h acc ys H):Step Y (del H d) Y H:=by
 have:=Step.fresh (Y:=Y) (H:=del H d) (p:=d) (o:=.lst ys) wC
 rw[eO G0.at'] at this;exact this
theorem Mid.rh'(G0:Mid K Y1 H1 d Y h acc ys H):RepH K Y h H:=by
 have:=G0.rh.fresh (p:=d) (o:=.lst ys) wC
 rw[eO G0.at'] at this;exact this
theorem Mid.go(G0:Mid K Y1 H1 d Y h acc ys H)(e:Step Y H Y2 H2)(r:RepH K Y2 h2 H2):Step Y (del H d) Y2 (del H2 d)/\Mid K Y1 H1 d Y2 h2 acc ys H2:=by
 obtain ⟨e1,e2,e3⟩:=e.del G0.nd G0.at'
 exact⟨e1,G0.st.trans e1,e2,e3,r.del e3 e2,G0.rl.mono e1 _ _⟩
theorem Mid.add(G0:Mid K Y1 H1 d Y h acc ys H)(hv:RepV K Y H y v):Mid K Y1 H1 d Y h (acc++[y]) (ys++[v]) (upd H d (.lst (ys++[v]))):=by
 refine⟨by rw[kY];exact G0.st,G0.nd,qI,by rw[kY];exact G0.rh,?_⟩;rw[kY];exact G0.rl.append ⟨v,[],rfl,hv.del G0.at' _ _,rfl⟩
theorem qCx{qG:List D->M D}{W:Hp->Prop}(G0:Mid K Y1 H1 d Y h acc ys H)(s:RepS K Y H env U)(hz:acc.length<16777216)
  (p:PostV K w Q Y (del H d) (M.bind (m env).calm (fun y=>qG (acc++[y])) h))
  (hW:∀ Y' h' acc' ys' H',Mid K Y1 H1 d Y' h' acc' ys' H'->acc'.length=acc.length+1->PostV K w Q Y' (del H' d) (qG acc' h')->W H') :
  tD K WF m U H fun v H3=>∃ ys,H3 d=some (.lst ys)/\ys.length<sizeLine/\W (upd H3 d (.lst (ys++[v]))):=by
 refine⟨Y,env,h,s,G0.rh',?_⟩;unfold M.bind M.calm at p;cases q:m env h with
 |ok y h2=>rw[q] at p;intro Y2 H2 e2 r2 v hv;obtain ⟨e3,M2⟩:=G0.go e2 r2;refine⟨ys,M2.at',by rw[G0.rl.length,zF];exact hz,hW Y2 h2 _ _ _ (M2.add hv) (by simp) ?_⟩;rw[kY];exact Post.mono p e3
 |exc c h2=>rw[q] at p;cases p
 |bad=>rw[q] at p;exact p
def aG(K:PySem.W.Frag)(f:Env->D->M (Option D))(tt:Option TT)(te:TE):Prop:=
 ∀ (w:W1) (Q:VK) (Y1 Y:List Addr) (H1 H:Hp) (d:Addr) (h:AH) (acc:List D) (ys:List V) (qG:List D->M D) (env:Env) (U:L2.St) (W:Hp->Prop) (x:D) (xv:V),Mid K Y1 H1 d Y h acc ys H->RepS K Y H env U->RepV K Y H x xv->acc.length<16777216 ->
  PostV K w Q Y (del H d) (M.bind (f env x) (fun y=>qG (acc++y.toList)) h) ->
  (∀ Y' h' acc' ys' H',Mid K Y1 H1 d Y' h' acc' ys' H'->acc'.length<=acc.length+1->PostV K w Q Y' (del H' d) (qG acc' h')->W H') ->
  bF tt (U++[some xv]) H fun b H2=>if b=true then te (U++[some xv]) H2 fun v H3=>∃ ys,H3 d=some (.lst ys)/\ys.length<sizeLine/\W (upd H3 d (.lst (ys++[v]))) else W H2
theorem RepS.snoc(s:RepS K Y H env U)(hx:RepV K Y H x xv):RepS K Y H (env++[some x]) (U++[some xv]):=by
 refine⟨by simp[s.1],fun i e hi=>?_⟩
 by_cases hlt:i<env.length
 ·rw[List.getElem?_append_left hlt] at hi;rw[List.getElem?_append_left (by rw[<- s.1];exact hlt)];exact s.2 i e hi
 ·rw[List.getElem?_append_right (Nat.le_of_not_lt hlt)] at hi;rw[List.getElem?_append_right (by rw[<- s.1];exact Nat.le_of_not_lt hlt),<- s.1];cases q:i-env.length with
  |zero=>
   rw[q] at hi;cases hi
   exact⟨xv,rfl,hx⟩
  |succ n=>rw[q] at hi;simp at hi
theorem eU(m:Env->M D):aG K (fun env x=>jH m env x) none (tD K WF m):=by
 intro w Q Y1 Y H1 H d h acc ys qG env U W x xv G0 s hx hz p hW;refine L2.iteT (B:=W H) (qCx (qG:=qG) G0 (s.snoc hx) hz ?_ fun Y' h' acc' ys' H' M' hl p'=>hW Y' h' acc' ys' H' M' (Nat.le_of_eq hl) p')
 have e:(M.bind (jH m env x) fun y=>qG (acc++y.toList))=M.bind (m (env++[some x])).calm fun y=>qG (acc++[y]):=by
  unfold jH;rw[kS];rfl
 rw[e] at p;exact p
theorem eT(m:Env->M D)(c:Env->M Bool):aG K (fun env x=>jW m c env x) (some (tDT K WF c)) (tD K WF m):=by
 intro w Q Y1 Y H1 H d h acc ys qG env U W x xv G0 s hx hz p hW;have p:PostV K w Q Y (del H d) (M.bind (M.bind (c (env++[some x])).calm fun k=>if k then M.bind (m (env++[some x])).calm (fun y=>M.ret (some y)) else M.ret none) (fun y=>qG (acc++y.toList)) h):=p;rw[kS] at p;refine⟨Y,env++[some x],h,s.snoc hx,G0.rh',?_⟩;unfold M.bind M.calm at p;cases q:c (env++[some x]) h with
 |ok k h2=>
  rw[q] at p;intro Y2 H2 e2 r2;obtain ⟨e3,M2⟩:=G0.go e2 r2;have p:=Post.mono p e3;cases k with
  |true=>
   refine L2.iteT (qCx (qG:=qG) M2 ((s.snoc hx).mono e2) hz ?_ fun Y' h' acc' ys' H' M' hl p'=>hW Y' h' acc' ys' H' M' (Nat.le_of_eq hl) p')
   have e:(M.bind (M.bind (m (env++[some x])).calm fun y=>M.ret (some y)) fun y=>qG (acc++y.toList))=M.bind (m (env++[some x])).calm fun y=>qG (acc++[y]):=by
    rw[kS];rfl
   have p':PostV K w Q Y2 (del H2 d) (M.bind (M.bind (m (env++[some x])).calm fun y=>M.ret (some y)) (fun y=>qG (acc++y.toList)) h2):=p;rw[e] at p';exact p'
  |false=>refine L2.iteF (hW Y2 h2 acc ys H2 M2 (Nat.le_succ _) ?_);have p':PostV K w Q Y2 (del H2 d) (qG (acc++[]) h2):=p;rw[List.append_nil] at p';exact p'
 |exc _ h2=>rw[q] at p;cases p
 |bad=>rw[q] at p;exact p
theorem Mid.fin(G0:Mid K Y1 H1 d Y' h' acc ys H')(p:PostV K w Q Y' (del H' d) (newL (acc++[]) h')):Q (.ref d) H':=by
 rw[List.append_nil] at p;have q:=(PostV.newL p G0.rh G0.rl).2 d wC;rw[eO G0.at'] at q;exact q
theorem qC9(ht:aG K f tt te)(s1:RepS K Y1 H1 env U)(r1:RepH K Y1 h1 H1)(hJ:uE K Y1 H1 (.row xs) J)(hz:xs.length<16777216)(q:PostV K w Q Y1 H1 (M.bind (zG (f env) xs) newL h1))(hd:H1 d=none)(hK:K.lookup d=none) :
  ∃ W:Nat->Nat->Hp->Prop,(∃ m,W 0 m (upd H1 d (.lst [])))/\∀ i m H,W i m H ->
   (J.stop i H/\Q (.ref d) H)\/(J.go i H/\∀ x H',J.yld i H x H'->bF tt (U++[some x]) H' fun b H2=>if b=true then te (U++[some x]) H2 fun y H3=>∃ ys,H3 d=some (.lst ys)/\ys.length<sizeLine/\∃ m',m'<m/\W (i+1) m' (upd H3 d (.lst (ys++[y]))) else ∃ m',m'<m/\W (i+1) m' H2):=by
 have M0:Mid K Y1 H1 d Y1 h1 [] [] (upd H1 d (.lst [])):=⟨by rw[kY,uB hd];exact Step.refl _ _,r1.not hd hK,qI,by rw[kY,uB hd];exact r1,rfl⟩;obtain ⟨go,yl,sp⟩:=hJ;have q:PostV K w Q Y1 H1 (M.bind (zG (f env) xs) (fun qG=>newL ([]++qG)) h1):=q;refine⟨fun i m H'=>m=xs.length-i/\i<=xs.length/\∃ Y' h' acc ys,Mid K Y1 H1 d Y' h' acc ys H'/\acc.length<=i/\PostV K w Q Y' (del H' d) (M.bind (zG (f env) (xs.drop i)) (fun qG=>newL (acc++qG)) h'),⟨_,rfl,Nat.zero_le _,Y1,h1,[],[],M0,Nat.le_refl _,by rw[kY,uB hd];exact q⟩,?_⟩
 rintro i m H' ⟨rfl,hi,Y',h',acc,ys,G0,ha,p'⟩
 have up:Step Y1 H1 Y' H':=G0.st.trans G0.up
 by_cases hlt:i<xs.length
 ·refine .inr ⟨go i Y' H' up hlt,fun x H'' y=>?_⟩;obtain ⟨rfl,dx,hdx,hv⟩:=yl i Y' H' x H'' up hlt y;rw[List.drop_eq_getElem_cons hlt] at p'
  have ed:xs[i]=dx:=by
   rw[List.getElem?_eq_getElem hlt] at hdx;exact Option.some.inj hdx
  rw[ed,qJb] at p'
  exact ht _ Q Y1 Y' H1 H'' d h' acc ys (fun a=>M.bind (zG (f env) (xs.drop (i+1))) fun qG=>newL (a++qG)) env U (fun H3=>∃ m',m'<xs.length-i/\m'=xs.length-(i+1)/\i+1<=xs.length/\∃ Y' h' acc ys,Mid K Y1 H1 d Y' h' acc ys H3/\acc.length<=i+1/\PostV K w Q Y' (del H3 d) (M.bind (zG (f env) (xs.drop (i+1))) (fun qG=>newL (acc++qG)) h')) dx x G0 (s1.mono up) hv (by lia) p'
   fun Y2 h2 acc2 ys2 H2 M2 hl2 p2=>⟨xs.length-(i+1),by lia,rfl,hlt,Y2,h2,acc2,ys2,M2,by lia,p2⟩
 ·have e:i=xs.length:=by lia
  subst e;rw[List.drop_length] at p';exact .inl ⟨sp _ Y' H' up rfl,G0.fin p'⟩
theorem cR(ht:aG K f tt te)(t:tD K W (fun env=>M.bind (mi env) fun r=>M.bind (yO (f env) r) newL) U H Q):uL K (tDI K W mi) tt te U H Q:=by
 obtain ⟨Y,env,h,s,r,p⟩:=t;refine⟨Y,env,h,s,r,Post.bind p fun Y1 h1 it H1 e1 r1 q J hJ d hd hK=>?_⟩;have s1:=s.mono e1;have nd:d∉Y1:=r1.not hd hK;cases it with
 |row xs=>
  have q:PostV K (W.at U) Q Y1 H1 (M.bind (M.when (xs.length<16777216) (zG (f env) xs)) newL h1):=q
  have hz:xs.length<16777216:=by
   unfold M.bind M.when at q
   by_cases z:xs.length<16777216
   ·exact z
   ·rw[if_neg z] at q;cases q
  have q:PostV K (W.at U) Q Y1 H1 (M.bind (zG (f env) xs) newL h1):=by
   unfold M.bind M.when at q;rw[if_pos hz] at q;exact q
  exact qC9 ht s1 r1 hJ hz q hd hK
 |pairs xs=>exact (show False from q).elim
 |live k=>
  obtain ⟨a,ha,rfl⟩:=hJ;have M0:Mid K Y1 H1 d Y1 h1 [] [] (upd H1 d (.lst [])):=⟨by rw[kY,uB hd];exact Step.refl _ _,nd,qI,by rw[kY,uB hd];exact r1,rfl⟩;have q:PostV K (W.at U) Q Y1 H1 (M.bind (M.when (zS h1 k<16777216) (zR (f env) k (zS h1 k) 0)) newL h1):=q
  have hz:zS h1 k<16777216:=by
   unfold M.bind M.when at q
   by_cases z:zS h1 k<16777216
   ·exact z
   ·rw[if_neg z] at q;cases q
  have q:PostV K (W.at U) Q Y1 H1 (M.bind (zR (f env) k (zS h1 k) 0) (fun qG=>newL ([]++qG)) h1):=by
   unfold M.bind M.when at q;rw[if_pos hz] at q;exact q
  generalize zS h1 k=n at hz q;refine⟨fun i m H'=>m+i=n/\∃ Y' h' acc ys,Mid K Y1 H1 d Y' h' acc ys H'/\acc.length<=i/\PostV K (W.at U) Q Y' (del H' d) (M.bind (zR (f env) k m i) (fun qG=>newL (acc++qG)) h'),⟨n,rfl,Y1,h1,[],[],M0,Nat.le_refl _,by rw[kY,uB hd];exact q⟩,?_⟩
  rintro i m H' ⟨hm,Y',h',acc,ys,G0,hl,p'⟩
  have up:Step Y1 H1 Y' H':=G0.st.trans G0.up;cases m with
  |zero=>cases p'
  |succ m=>
   have r':=G0.rh';cases qg:getL h' k with
   |none=>unfold M.bind zR at p';rw[qg] at p';cases p'
   |some xs=>
    obtain ⟨b,vs,h2,h3,h4⟩:=r'.list qg;rw[vE up.pre ha] at h2;cases h2;cases qx:xs[i]? with
    |none=>
     refine .inl ⟨⟨vs,h3,?_⟩,Mid.fin (w:=W.at U) G0 ?_⟩
     ·rw[h4.length];exact List.getElem?_eq_none_iff.mp qx
     ·unfold M.bind zR at p';simp only[qg,qx] at p';exact p'
    |some dx=>
     obtain ⟨w,hw,hv⟩:=h4.get qx;refine .inr ⟨⟨vs,w,h3,hw⟩,fun x H'' y=>?_⟩;obtain ⟨rfl,y⟩:=y;have ew:=y vs h3;rw[hw] at ew;cases ew
     have e:M.bind (zR (f env) k (m+1) i) (fun qG=>newL (acc++qG)) h'=M.bind (f env dx) (fun y=>M.bind (zR (f env) k m (i+1)) fun qG=>newL ((acc++y.toList)++qG)) h':=by
      have e1:zR (f env) k (m+1) i h'=M.bind (f env dx) (fun y=>M.bind (zR (f env) k m (i+1)) fun ys=>M.ret (match y with | some y=>y::ys | none=>ys)) h':=by
       rw[zR];simp only[qg,qx] <;> rfl
      show R.bind (zR (f env) k (m+1) i h') _=_;rw[e1];show M.bind (M.bind (f env dx) _) (fun qG=>newL (acc++qG)) h'=_;rw[kS];congr 1;funext y;rw[kS];congr 1;funext ys;rw[qAl];cases y <;> simp
     rw[e] at p'
     exact ht _ Q Y1 Y' H1 _ d h' acc ys (fun a=>M.bind (zR (f env) k m (i+1)) fun qG=>newL (a++qG)) env U (fun H3=>∃ m',m'<m+1/\m'+(i+1)=n/\∃ Y' h' acc ys,Mid K Y1 H1 d Y' h' acc ys H3/\acc.length<=i+1/\PostV K (W.at U) Q Y' (del H3 d) (M.bind (zR (f env) k m' (i+1)) (fun qG=>newL (acc++qG)) h')) dx _ G0 (s1.mono up) hv (by lia) p'
      fun Y2 h2 acc2 ys2 H2 M2 hl2 p2=>⟨m,Nat.lt_succ_self _,by lia,Y2,h2,acc2,ys2,M2,by lia,p2⟩
end
section
variable {K:PySem.W.Frag}{W:WX}{Q:VK}
def g2(K:PySem.W.Frag)(n:Nat):L2.TG:=L2.gTup K 2 (L2.gCons (L2.gName n) (L2.gCons (L2.gName (n+1)) L2.gNil))
end
end Fy
namespace L2
open PySem PySem.Spec PyProof.Rows
section
variable {X:Cx}{pins:List (Addr × Obj)}{U:St}{H:Hp}{s:Shared}{h':Heap}
end
section
variable {X:Cx}
end
end L2
namespace Fy
open PySem PySem.Spec PySem.Calls PyProof.Rows
open L2 (V Hp HO VK XK TE TT TA TS TI Cx Inv RelV Vals SqL SqT Rd upd qI qE PE PT PA PS PSs EP TP SP PI PG PIE Turn qT Ends HOk frs thn OpR qM)
section
variable {F:Nat->List D->M D}{B:Nat}{W:WX}
end
end Fy
namespace L2
open PySem PySem.Spec PyProof.Rows
section
variable {X:Cx}{pins:List (Addr × Obj)}{U:St}{H:Hp}{s:Shared}{h':Heap}
end
section
variable {prog:Program}{w:World}{A:Around}{E:Value->Shared->Prop}{s:Shared}{z TI TO i1 i2:Addr}{n1 n2 k:Nat}{P1 P2:Nat->Value->Prop}{S1 S2:Nat->Heap->Prop}{va vb:Value}
end
section
variable {prog:Program}{w:World}{A:Around}{E:Value->Shared->Prop}{s:Shared}
end
section
variable {X:Cx}
end
end L2
namespace Fy
open PySem PySem.Spec PyProof.Rows
open L2 (V Hp HO VK TE TT TA TS TI Cx Inv RelV Vals SqL SqT Rd upd qI qE PE PT PA PS PSs EP TP PI PG PIE Turn qT Ends HOk frs thn)
section
variable {X:Cx}{F:Nat->List D->M D}{W:WX}
end
end Fy
namespace L2
open PySem PySem.Spec PyProof.Rows
def Itd(a:Addr)(ob:Obj)(vs:List (Key × V)):It:=
 ⟨fun i H=>H a=some (.frz ob (.dK vs))/\i<vs.length,fun i H x H'=>H'=H/\∃ kv,vs[i]?=some kv/\x=kV kv.1,fun i H=>H a=some (.frz ob (.dK vs))/\vs.length<=i⟩
section
variable {X:Cx}{pins:List (Addr × Obj)}{U:St}{H:Hp}{s:Shared}
theorem Inv.refit(I:Inv X pins U H s)(ha:H a=some o)(no:∀ x,o≠.own x)(nt:∀ xs,o≠.tup xs)(nb:∀ ps,o≠.tbl ps)(nf:∀ ob u,X.H₀ a≠some (.frz ob u))
  (new:ObjOk X.prog X.w (upd H a o') s.heap a o'):Inv X pins U (upd H a o') s:=by
 have nn:∀ b,H b=none->b≠a:=fun b z q=>by rw[q,ha] at z;cases z
 refine⟨I.ok,I.os,I.bare,⟨I.base.keep,I.base.slot,fun b ob q n hx=>?_,I.base.there,fun b xs q=>?_,fun b ob u q=>?_,fun b ps q=>?_⟩,I.loc,I.cell,?_,fun x c e=>?_,fun p hpp=>?_,fun b u e=>?_,I.len⟩
 ·have z:=I.base.free b ob q n hx;rw[qE (nn b z)];exact z
 ·have z:=I.base.tups b xs q;rw[qE (fun w=>by rw[w,ha] at z;cases z;exact nt _ rfl)];exact z
 ·rw[qE (fun w=>by rw[w] at q;exact nf _ _ q)];exact I.base.frzs b ob u q
 ·obtain ⟨more,z⟩:=I.base.tbls b ps q
  exact⟨more,by rw[qE (fun w=>by rw[w,ha] at z;cases z;exact nb _ rfl)];exact z⟩
 ·rw[qE (nn _ I.free)];exact I.free
 ·rw[qE (nn _ (I.freeC x c e))];exact I.freeC x c e
 ·obtain ⟨e,n,ne,nf',d⟩:=I.pin p hpp
  exact⟨e,by rw[qE (nn _ n)];exact n,ne,nf',d⟩
 ·by_cases hb:b=a
  ·subst hb;rw[qI] at e;cases e;exact new
  ·rw[qE hb] at e;exact (I.hok b u e).stay (fun c v _ q=>q) (fun c q=>by rw[qE (fun w=>by rw[w,ha] at q;cases q;exact no _ rfl)];exact q) fun c xs q=>by rw[qE (fun w=>by rw[w,ha] at q;cases q;exact nt _ rfl)];exact q
theorem qMw(H':Hp)(x:ObjOk P w H h a (.dK vs))(e:h.get? a=some ob):ObjOk P w H' h a (.frz ob (.dK vs)):=⟨e,x⟩
theorem qMx(H':Hp)(x:ObjOk P w H h a (.dK vs)):ObjOk P w H' h a (.dK vs):=x
theorem qKg(h:keyIs k v=true):RelV (kV k) v:=by
 rcases keyIs_shape h with⟨i,t,rfl,rfl⟩ | ⟨x,t,rfl,rfl⟩
 ·exact⟨t,rfl⟩
 ·exact⟨t,rfl⟩
theorem qCn(hep:∃ es,ob.data=.dict es ep)(x:ObjOk P w H h a (.frz ob (.dK vs))):∃ ws,KV vs ws/\h.DictAt (mixKind P w) a ws ep:=by
 obtain ⟨e,_,_,ws,rel,o,es,ep',h1,h2,h3,h4⟩:=x;obtain ⟨es',h5⟩:=hep;rw[e] at h1;cases h1;rw[h3] at h5;cases h5
 exact⟨ws,rel,ob,es,e,h2,h3,h4⟩
theorem qFH{P:Program}{w:World}{K:PySem.W.Frag}{tg:Expr}(a it:Addr)(ob:Obj)(vs:List (Key × V))(ep:Nat)(hep:∃ es,ob.data=.dict es ep):Turn P w K tg (Itd a ob vs) [it] it (fun i h=>h.IsKeyIter it a i vs.length ep) where
 mem:=by simp
 obj:=fun i h st b hb=>by
  have e:b=it:=by simpa using hb
  subst e;obtain ⟨o,e,c,d⟩:=st
  exact⟨o,e,fun v z=>by rw[d] at z;cases z⟩
 keep:=fun i h h' st k=>st.at fun o e=>k it (by simp) o e
 item:=by
  intro X hP hw hK hc i pins s U H E I hf st hg;subst hP hw hK;obtain ⟨hH,hi⟩:=hg;obtain ⟨ws,rel,dd⟩:=qCn hep (I.hok a _ hH);have hl:=rel.length;obtain ⟨f0,f1,f2,f3,f4,f5⟩:=hf it (by simp);obtain ⟨⟨k,x⟩,hx⟩:∃ p,ws[i]?=some p:=⟨ws[i]'(by lia),by simp⟩;obtain ⟨⟨k',y⟩,hy⟩:∃ p,vs[i]?=some p:=⟨vs[i]'hi,by simp[hi]⟩
  have ek:k'=k:=by
   have z:=congrArg (fun l:List Key=>l[i]?) rel.keys;simp only[List.getElem?_map,hx,hy,Option.map_some] at z;exact Option.some.inj z
  subst ek;refine wpAny_pyNext_dict_item (knd:=mixKind X.prog X.w) (by rw[hl] at st;exact st) dd hx fun key h' hkey st' sb=>?_;rw[<- hl] at st';have I1:Inv X pins U H { s with heap:=h' }:=I.turned (t':=s.toks) (fun b o hb e=>(sb.2 b hb).trans e) f0 f1 f3 f4 f5;obtain ⟨o,e,c,d⟩:=id st'
  exact⟨key,rfl,go_of (s:={ s with heap:=h' }) e c d (by decide) ⟨kV k',H,I1,qKg hkey,⟨rfl,_,hy,rfl⟩,st',fun b hb=>(hf b hb).1⟩⟩
 done:=by
  intro X hP hw hK hc i pins s U H E I hf st hg;subst hP hw hK;obtain ⟨hH,hi⟩:=hg;obtain ⟨ws,rel,dd⟩:=qCn hep (I.hok a _ hH);have hl:=rel.length;obtain ⟨f0,f1,f2,f3,f4,f5⟩:=hf it (by simp);exact wpAny_pyNext_dict_end (knd:=mixKind X.prog X.w) (I.ok.hd hc) (by rw[hl] at st;exact st) dd (by simp;lia) fun h' eb=>⟨rfl,I.turned (t':=s.toks) (fun b o hb e=>eb b o hb e) f0 f1 f3 f4 f5⟩
 self:=fun _ _ _ _ _ st h=>wpAny_pyIter_keyiter st h
abbrev Nfz(X:Cx)(a:Addr):Prop:=∀ o u,X.H₀ a≠some (.frz o u)
def iDict(X:Cx)(tl:TE):TI:=fun U H R=>tl U H fun x H1=>∃ a vs,x=.ref a/\H1 a=some (.dK vs)/\∀ ob,Nfz X a->R (Itd a ob vs) (upd H1 a (.frz ob (.dK vs)))
theorem pi_dict(hl:PE X l tl):PI X tg l (iDict X tl):=by
 intro pins s U H R I h;refine thn (hl pins s U H _ I h) fun v s1 ⟨x,H1,I1,r1,q1⟩=>?_;obtain ⟨a,vs,e,hH,q⟩:=q1;subst e;cases r1;have ok:=I1.hok a _ hH;obtain ⟨z,hd,ws,rel,o,es,ep,h1,h2,h3,h4⟩:=id ok
 have nf:Nfz X a:=fun o u w=>by
  have:=I1.base.frzs a o u w
  rw[hH] at this;cases this
 have dd:s1.heap.DictAt (mixKind X.prog X.w) a ws ep:=⟨o,es,h1,h2,h3,h4⟩;refine wpAny_pyIter_dict hd dd ?_;have I2:Inv X pins U (upd H1 a (.frz o (.dK vs))) s1:=I1.refit hH (fun _ w=>nomatch w) (fun _ w=>nomatch w) (fun _ w=>nomatch w) nf (qMw _ ok h1);refine⟨s1.heap.objs.size,[s1.heap.objs.size],_,_,_,rfl,I2.kept (t':=s1.toks) fun b o e=>Heap.get?_push_of_some _ e,qFH a _ o vs ep ⟨es,h3⟩,?_,fun b hb=>?_,q o nf⟩
 ·rw[rel.length]
  exact⟨_,Heap.get?_push_size _ rfl,rfl,rfl⟩
 ·have e:=List.mem_singleton.mp hb;subst e;exact I2.fpOk (Nat.le_refl _) (I2.hok.fresh (Nat.le_refl _))
def thawQ(X:Cx)(Q:VK):VK:=fun v H'=>∃ a ob vs,Nfz X a/\H' a=some (.frz ob (.dK vs))/\Q v (upd H' a (.dK vs))
theorem Inv.thaw(I:Inv X pins U H s)(nf:Nfz X a)(ha:H a=some (.frz ob (.dK vs))):Inv X pins U (upd H a (.dK vs)) s:=
 I.refit ha (fun _ w=>nomatch w) (fun _ w=>nomatch w) (fun _ w=>nomatch w) nf (qMx _ (I.hok a _ ha).2)
theorem pe_thaw(h:PE X e t):PE X e (fun U H Q=>t U H (thawQ X Q)):=fun pins s U H Q I q=>thn (h pins s U H _ I q) fun u s' ⟨v,H',I',rv,a,ob,vs,nf,ha,z⟩=>⟨v,_,I'.thaw nf ha,rv,z⟩
def thawE(X:Cx)(E:Ends):Ends:=
 ⟨fun U H'=>∃ a ob vs,Nfz X a/\H' a=some (.frz ob (.dK vs))/\E.nx U (upd H' a (.dK vs)),fun v H'=>∃ a ob vs,Nfz X a/\H' a=some (.frz ob (.dK vs))/\E.rt v (upd H' a (.dK vs)),fun _ _=>False,fun _ _=>False⟩
theorem ps_thaw{st:Stmt}(h:PS X st t):PS X st (fun E U H=>t (thawE X E) U H):=fun pins s U H E I q=>thn (h pins s U H _ I q) fun f s' z=>by
 cases f with
 |next=>obtain ⟨U',H',I',a,ob,vs,nf,ha,z⟩:=z;exact⟨U',_,I'.thaw nf ha,z⟩
 |ret u=>obtain ⟨v,U',H',I',rv,a,ob,vs,nf,ha,z⟩:=z;exact⟨v,U',_,I'.thaw nf ha,rv,z⟩
 |brk=>obtain ⟨U',H',I',z⟩:=z;cases z
 |cont=>obtain ⟨U',H',I',z⟩:=z;cases z
end
end L2
namespace Fy
open PySem PySem.Spec PyProof.Rows
open L2 (V Hp HO VK XK TE TT TA TS TI Cx Inv RelV Vals SqL SqT Rd upd qI qE PE PT PA PS PSs EP TP SP PI PG PIE Turn qT Ends HOk frs thn OpR qM)
section
variable {K:PySem.W.Frag}{Y Y1:List Addr}{H H1:Hp}{a:Addr}{i:Nat}{ob:Obj}{vs:List (L2.Key × V)}{kvs:List (Ky × D)}
theorem qAn(ha:H a=some (.frz ob (.dK vs)))(hk:RepK K Y H kvs vs):uE K Y H (.row (jE kvs)) (L2.Itd a ob vs):=by
 have hl:(jE kvs).length=vs.length:=by unfold jE;rw[List.length_map];exact hk.length
 have key:∀ {kvs:List (Ky × D)} {vs:List (L2.Key × V)} {j:Nat} {kv:L2.Key × V},RepK K Y H kvs vs->vs[j]?=some kv->∃ k:Ky,(jE kvs)[j]?=some (kyD k)/\kv.1=kyV k:=by
  intro kvs
  induction kvs with
  |nil=>intro vs j kv h e;cases h;simp at e
  |cons x r ih=>
   intro vs j kv h e;obtain ⟨v,r',rfl,h1,h2⟩:=h;cases j with
   |zero=>simp at e;subst e;exact⟨x.1,rfl,rfl⟩
   |succ j=>exact ih h2 (by simpa using e)
 refine⟨fun j Y' H' e hj=>⟨e.keep _ _ ha (.inl rfl),by lia⟩,fun j Y' H' x H'' e hj y=>?_,fun j Y' H' e hj=>⟨e.keep _ _ ha (.inl rfl),by lia⟩⟩;obtain ⟨rfl,kv,h1,rfl⟩:=y;obtain ⟨k,h2,h3⟩:=key hk h1;refine⟨rfl,_,h2,?_⟩;rw[h3];cases k with
 |int j=>rfl
 |str y=>rfl
theorem RepH.freeze(r:RepH K Y h H)(hi:h[i]?=some (.dct kvs))(hr:Y[i]?=some a)(ha:H a=some (.dK vs))(hk:RepK K Y H kvs vs):RepH K Y (h.set i (.rod kvs)) (upd H a (.frz ob (.dK vs))):=
 r.setO hi rfl rfl hr ha rfl ⟨ob,vs,qI,RepK.mono (Step.turn ha rfl (List.mem_of_getElem? hr)) _ _ hk⟩
theorem aQ(ha:H a=some (.frz ob (.dK vs)))(b:Addr)(us:List V)(h:SqT K H b us):SqT K (upd H a (.dK vs)) b us:=by
 rcases h with (h | ⟨o,h⟩) | h
 ·exact .inl (.inl (by rw[qE (by rintro rfl;rw[ha] at h;cases h)];exact h))
 ·exact .inl (.inr ⟨o,by rw[qE (by rintro rfl;rw[ha] at h;cases h)];exact h⟩)
 ·exact .inr h
theorem RepH.thaw(r:RepH K Y h H)(hi:h[i]?=some (.rod kvs))(hr:Y[i]?=some a)(ha:H a=some (.frz ob (.dK vs))):RepH K Y (h.set i (.dct kvs)) (upd H a (.dK vs)):=by
 have sq:=aQ (K:=K) ha;have hil:=(List.getElem?_eq_some_iff.mp hi).1;refine⟨by simp[r.len],fun j o hj=>?_,fun j k b o1 o2 hj hk m1 m2 e1 e2=>?_⟩
 ·rw[List.getElem?_set] at hj
  by_cases z:i=j
  ·rw[if_pos z,if_pos (by lia)] at hj;cases hj;subst z;obtain ⟨b,h1,ob',vs',h2,h3⟩:=r.obj i _ hi;rw[hr] at h1;cases h1;rw[ha] at h2;cases h2
   exact⟨a,hr,vs,qI,h3.sq sq _ _⟩
  ·rw[if_neg z] at hj;obtain ⟨b,h1,h2⟩:=r.obj j o hj
   by_cases hb:b=a
   ·subst hb;cases hm:kH o with
    |true=>exact absurd (r.inj i j b _ _ hi hj rfl hm hr h1) z
    |false=>
     refine⟨b,h1,?_⟩;cases o with
     |rol xs=>
      obtain ⟨us,k1,k2⟩:=h2;rcases k1 with⟨o',k1⟩ | k1
      ·rw[ha] at k1;cases k1
      ·exact⟨us,.inr k1,k2.sq sq _ _⟩
     |xc c=>obtain ⟨C,_,k1⟩:=h2;rw[ha] at k1;cases k1
     |_=>cases hm
   ·exact⟨b,h1,h2.sq sq (qE hb)⟩
 ·have key:∀ (j:Nat) (z:O),kH z=true->(h.set i (.dct kvs))[j]?=some z->∃ z',h[j]?=some z'/\kH z'=true:=fun j z mz hj=>by
   rw[List.getElem?_set] at hj
   by_cases q:i=j
   ·subst q
    exact⟨_,hi,rfl⟩
   ·rw[if_neg q] at hj
    exact⟨_,hj,mz⟩
  obtain ⟨_,g1,n1⟩:=key j _ m1 hj;obtain ⟨_,g2,n2⟩:=key k _ m2 hk;exact r.inj j k b _ _ g1 g2 n1 n2 e1 e2
theorem eZ(hr:a∈Y)(ha:H a=some (.dK vs))(e:Step Y (upd H a (.frz ob (.dK vs))) Y' H'):Step Y H Y' (upd H' a (.dK vs)):=by
 refine⟨e.pre,fun b hb=>?_,fun b o h c=>?_⟩
 ·rcases e.new b hb with z | z
  ·exact .inl z
  ·by_cases q:b=a
   ·rw[q,qI] at z;cases z
   ·rw[qE q] at z;exact .inr z
 ·by_cases q:b=a
  ·subst q;rw[ha] at h;cases h;rw[qI]
  ·rw[qE q];exact e.keep b o (by rw[qE q];exact h) c
theorem qFV(nf:L2.Nfz X a)(hr:Y[i]?=some a)(ha:H a=some (.dK vs))(p:PostV K w Q Y H (yK i r)):PostV K w (L2.thawQ X Q) Y (upd H a (.frz ob (.dK vs))) r:=by
 cases r with
 |ok d h=>
  have p:PostV K w Q Y H (match h[i]? with | some (.rod kvs)=>.ok d (h.set i (.dct kvs)) | _=>.bad):=p;split at p
  ·rename_i kvs z;intro Y' H' e rh v hv;have ha':H' a=some (.frz ob (.dK vs)):=e.keep _ _ qI (.inl rfl);have hr':=vE e.pre hr
   exact⟨a,ob,vs,nf,ha',p Y' _ (eZ (List.mem_of_getElem? hr) ha e) (rh.thaw z hr' ha') v (hv.sq (aQ ha') _ _)⟩
  ·cases p
 |exc c h=>cases p
 |bad=>cases p
theorem qFU(nf:L2.Nfz X a)(hr:Y[i]?=some a)(ha:H a=some (.dK vs))(p:PostS K W E Y H (SR.thaw i r)):PostS K W (L2.thawE X E) Y (upd H a (.frz ob (.dK vs))) r:=by
 have rs:∀ {Y':List Addr} {H':Hp} {env:Env} {U:L2.St},H' a=some (.frz ob (.dK vs))->RepS K Y' H' env U->RepS K Y' (upd H' a (.dK vs)) env U:=fun {Y' H' env U} ha' s=>⟨s.1,fun j d h=>let ⟨v,h1,h2⟩:=s.2 j d h;⟨v,h1,h2.sq (aQ ha') _ _⟩⟩;cases r with
 |nx env h=>
  have p:PostS K W E Y H (match h[i]? with | some (.rod kvs)=>.nx env (h.set i (.dct kvs)) | _=>.bad):=p;split at p
  ·rename_i kvs z;intro Y' H' st e rh s;have ha':H' a=some (.frz ob (.dK vs)):=e.keep _ _ qI (.inl rfl)
   exact⟨a,ob,vs,nf,ha',p Y' _ st (eZ (List.mem_of_getElem? hr) ha e) (rh.thaw z (vE e.pre hr) ha') (rs ha' s)⟩
  ·cases p
 |rt d h=>
  have p:PostS K W E Y H (match h[i]? with | some (.rod kvs)=>.rt d (h.set i (.dct kvs)) | _=>.bad):=p;split at p
  ·rename_i kvs z;intro Y' H' v e rh hv;have ha':H' a=some (.frz ob (.dK vs)):=e.keep _ _ qI (.inl rfl)
   exact⟨a,ob,vs,nf,ha',p Y' _ v (eZ (List.mem_of_getElem? hr) ha e) (rh.thaw z (vE e.pre hr) ha') (hv.sq (aQ ha') _ _)⟩
  ·cases p
 |_=>cases p
end
section
variable {X:Cx}{F:Nat->List D->M D}{B:Nat}{W:WX}
theorem compD(ht:aG X.K (fun env x=>jW (den F e) (qJ F c) env x) tt (tD X.K WF (den F e)))(t:tD X.K W (den F (.compD e c d)) U H Q):uL X.K (L2.iDict X (tD X.K W (den F d))) tt (tD X.K WF (den F e)) U H (L2.thawQ X Q):=by
 obtain ⟨Y,env,h,s,r,p⟩:=t;dsimp only[den] at p;refine⟨Y,env,h,s,r,Post.bind p fun Y1 h1 x H1 e1 r1 q v hv=>?_⟩;cases x with
 |ref i=>
  have q:PostV X.K (W.at U) Q Y1 H1 (match h1[i]? with | some (.dct kvs)=>(if kvs.length<16777216 then yK i (M.bind (zG (jW (den F e) (qJ F c) env) (jE kvs)) newL (h1.set i (.rod kvs))) else .bad) | _=>.bad):=q;split at q
  ·rename_i kvs z;obtain ⟨hz,q⟩:=PostV.ite q;obtain ⟨a,vs,rfl,hr,hH,hk⟩:=r1.dict z hv;refine⟨a,vs,rfl,hH,fun ob nf dd hd hK=>?_⟩;have st:Step Y1 H1 Y1 (upd H1 a (.frz ob (.dK vs))):=Step.turn hH rfl (List.mem_of_getElem? hr);exact qC9 ht ((s.mono e1).mono st) (r1.freeze z hr hH hk) (qAn qI (hk.mono st _ _)) (by unfold jE;rw[List.length_map];exact hz) (qFV nf hr hH q) hd hK
  ·cases q
 |_=>cases q
theorem qDI{α:Type}{K:PySem.W.Frag}{rep:List Addr->Hp->α->Prop}{r:R α}(p:Post K w rep Y H r.calm)(w':W1):Post K w' rep Y H r:=by
 cases r with
 |ok a h=>exact p
 |exc _ _=>cases p
 |bad=>exact p
theorem qGr(ht:wM X.K (.nm i) g)(hc:X.calm=true)(he:PE X.nox iter (tD X.K WF (den F ce)))(hg:PG X.nox tg g)(hb:PSs X.nox body (tDS X.K WF (qB F B cb)))
  (hs:∀ x,foldedSetIterable iter X.env x=pure x):PS X (.For tg iter body [] pos) (tDS X.K W (qB F B (.forD i ce cb))):=PS.imp (PS.nox (L2.ps_thaw (X:=X.nox) (L2.ps_for PassesOwn.never hc (L2.pi_dict he) hg hb hs))) fun E U H q=>by
 obtain ⟨Y,env,h,s,r,p⟩:=q;dsimp only[qB] at p;refine⟨Y,env,h,s,r,qDI (PostS.ofR s p fun Y1 h1 x H1 e1 r1 q v hv=>?_) _⟩;cases x with
 |ref k=>
  have q:PostS X.K W E Y1 H1 (match h1[k]? with | some (.dct kvs)=>(jP (zT (.nm i) (qB F B cb)) (jE kvs) env (h1.set k (.rod kvs))).thaw k | _=>.bad):=q;split at q
  ·rename_i kvs z;obtain ⟨a,vs,rfl,hr,hH,hk⟩:=r1.dict z hv;refine⟨a,vs,rfl,hH,fun ob nf=>?_⟩;have st:Step Y1 H1 Y1 (upd H1 a (.frz ob (.dK vs))):=Step.turn hH rfl (List.mem_of_getElem? hr);obtain ⟨go,yl,sp⟩:=qAn (K:=X.K) (Y:=Y1) (a:=a) (ob:=ob) (H:=upd H1 a (.frz ob (.dK vs))) qI (hk.mono st _ _);exact qBn ht ((s.mono e1).mono st) (r1.freeze z hr hH hk) go yl sp (qFU (X:=X.nox) nf hr hH q)
  ·cases q
 |_=>cases q
end
def CXD(P:Program)(w:World)(ex:Nat->Option Addr):L2.CXT:=fun outer H s E e s'=>
 ∃ (a C:Addr) (c:Nat) (B:Heap) (a0:Value) (H':Hp),e=.ref a/\ex c=some C/\Heap.FlyingW B outer a (.ref C) a0 s'.heap/\HOk P w H' B /\
  (∀ b o,s.heap.get? b=some o->b∉frs outer->∃ o',B.get? b=some o')/\L2.Un (frs outer) [] H H' s.heap s'.heap/\s'.os=s.os/\AllBare s'.gens/\E e (some c) H'
section
variable {fs:List Addr}{H H':Hp}{h0 h1 h' B:Heap}{l:List PySem.Env}
theorem eP(u:L2.Un (frs l) [] H H' h0 h1)(hB:B.StaysIn h1)(cov:∀ b o,h0.get? b=some o->b∉frs l->∃ o',B.get? b=some o')(fr:h1.FunFrames B l)(hB':B.StaysIn h')(up:h1.UpToSlots h'):L2.Un (frs l) [] H H' h0 h' where
 keep:=fun b o e n hb hx=>by
  obtain ⟨o',e'⟩:=cov b o e hb;have k1:=u.keep b o e n hb hx;have k2:=hB b o' e';rw[k1] at k2;cases k2;exact hB' b o e'
 slot:=fun b o e n hb hx=>by
  obtain ⟨sl,k1⟩:=u.slot b o e n hb hx;obtain ⟨_,o2,k2,k3⟩:=fr.mem hb;rw[k1] at k2;cases k2;obtain ⟨sl',k4⟩:=up b _ k1 k3
  exact⟨sl',k4⟩
 free:=u.free
 there:=fun b o e hx=>by
  by_cases hb:b∈frs l
  ·obtain ⟨_,o2,k2,k3⟩:=fr.mem hb;obtain ⟨sl',k4⟩:=up b _ k2 k3
   exact⟨_,k4⟩
  ·obtain ⟨o',e'⟩:=cov b o e hb
   exact⟨o',hB' b o' e'⟩
 tups:=u.tups
 frzs:=u.frzs
 tbls:=u.tbls
theorem qEr{fs':List Addr}(u:L2.Un fs' [] H H' h0 h')(hs:∀ b∈fs',b∉fs->h0.get? b=none):L2.Un fs [] H H' h0 h' where
 keep:=fun b o e n hb hx=>u.keep b o e n (fun z=>by rw[hs b z hb] at e;cases e) hx
 slot:=fun b o e n hb hx=>u.any e n hx
 free:=u.free
 there:=u.there
 tups:=u.tups
 frzs:=u.frzs
 tbls:=u.tbls
end
theorem funFrames_hide'{h:Heap}(x:h.FunFrames base l)(ha:∀ b∈frs l,b∈as):h.FunFrames (PySem.W.hideAll h as) l:=
 PySem.W.funFrames_hide x fun env he a ha'=>ha a (List.mem_filterMap.mpr ⟨env,he,ha'⟩)
section
variable {X:Cx}{pins:List (Addr × Obj)}{U:L2.St}{H:Hp}{s s':Shared}{ex:Nat->Option Addr}
theorem bB(F:L2.FnOk X.prog X.w X.K X.mg X.base (CXD X.prog X.w ex) k f fd ps sp)(hr:L2.Room k X.A)(hb:L2.Binds X.K fd ps [])
  (hx:∀ e s',CXD X.prog X.w ex X.stack H s E e s'->X.xe e s') (I:Inv X pins U H s) (r:Vals vs us) (h:sp vs H Q E):wpAny (model X.prog X.w) X.A (call (.ref f) us) (EP X pins U Q) X.xe s:=by
 have hl:us.length=ps.length:=by rw[<- r.length];exact F.len _ _ _ _ h
 have hb':=hb s us I.kIn (by rw[List.append_nil];exact hl);rw[List.append_nil] at hb';refine wpAny_call (codeAny_mono (F.run X.A X.stack s H ⟨us,[]⟩ us vs Q E hr I.env0 hb' r h) fun r s' hq=>?_);cases r with
 |error e=>exact hx e s' hq
 |ok fl=>
  cases fl with
  |ret u=>exact I.after hq
  |next=>cases hq
  |brk=>cases hq
  |cont=>cases hq
end
section
variable {P:Program}{w:World}{K:PySem.W.Frag}{mg:Str->Option Value}{base:Heap}{N:List Str}{qual:Str}{scope:Scope}{f:Addr}{cd:Value}{A:Around}{outer:List PySem.Env}{s0:Shared}{H0:Hp}{E:XK}{ex:Nat->Option Addr}
variable {pins:List (Addr × Obj)}{U:L2.St}{H:Hp}{s s':Shared}
abbrev cxX(ex:Nat->Option Addr)(P:Program)(w:World)(K:PySem.W.Frag)(mg:Str->Option Value)(base:Heap)(N:List Str)(qual:Str)(scope:Scope)(f:Addr)(cd:Value)(A:Around)(outer:List PySem.Env)(s0:Shared)(H0:Hp)(E:XK):Cx:=L2.cxOf (CXD P w ex) P w K mg base N qual scope f cd A outer s0 H0 E
theorem qBC(I:Inv (cxX ex P w K mg base N qual scope f cd A outer s0 H0 E) pins U H s)(u:L2.Un (frs (cxX ex P w K mg base N qual scope f cd A outer s0 H0 E).stack) [] H H' s.heap h'):L2.Un (frs outer) [] H0 H' s0.heap h':=by
 have b1:L2.Un (frs outer) [] H0 H s0.heap s.heap:=I.base
 have b2:=b1.mono (fs':=frs (cxX ex P w K mg base N qual scope f cd A outer s0 H0 E).stack) (ex':=[]) (fun b hb=>by
  show b∈frs (envOfC qual scope s0.heap.objs.size f cd::outer)
  exact List.mem_cons_of_mem _ hb) fun _ z=>z
 refine qEr (b2.trans u) fun b hb hn=>?_;rcases List.mem_cons.mp (show b∈s0.heap.objs.size::frs outer from hb) with rfl | z
 ·cases q:s0.heap.get? s0.heap.objs.size with
  |none=>rfl
  |some o=>exact absurd (Heap.lt_size q) (Nat.lt_irrefl _)
 ·exact absurd z hn
theorem qBD{B:Heap}(I:Inv (cxX ex P w K mg base N qual scope f cd A outer s0 H0 E) pins U H s)(cov:∀ b o,s.heap.get? b=some o->b∉frs (cxX ex P w K mg base N qual scope f cd A outer s0 H0 E).stack->∃ o',B.get? b=some o') :
  ∀ b o,s0.heap.get? b=some o->b∉frs outer->∃ o',B.get? b=some o':=fun b o e hb=>by
 have b1:L2.Un (frs outer) [] H0 H s0.heap s.heap:=I.base;obtain ⟨o1,e1⟩:=b1.there b o e (by simp);refine cov b o1 e1 fun z=>?_;rcases List.mem_cons.mp (show b∈s0.heap.objs.size::frs outer from z) with rfl | z
 ·exact absurd (Heap.lt_size e) (Nat.lt_irrefl _)
 ·exact hb z
theorem qKN{W:WX}(hW:∀ c U H,W c U H->∀ e,E e (some c) H)(I:Inv (cxX ex P w K mg base N qual scope f cd A outer s0 H0 E) pins U H s)
  (x:CXD P w ex (cxX ex P w K mg base N qual scope f cd A outer s0 H0 E).stack H s (fun _ co H'=>∃ c,co=some c/\W c U H') e s'):(cxX ex P w K mg base N qual scope f cd A outer s0 H0 E).xe e s':=by
 obtain ⟨a,C,c,B,a0,H',rfl,h2,h3,h4,h5,h6,h7,h8,c',e',h9⟩:=x;cases e';have fr:=I.ok.frames;refine wpAny_leaves_onW (env:=envOfC qual scope s0.heap.objs.size f cd) (outer:=outer) fr rfl h3 fun h' hfl up=>?_;have un:=eP h6 h3.1 h5 h3.2.2.1 hfl.1 up;refine⟨a,C,c,B,a0,H',rfl,h2,hfl,h4,qBD I h5,qBC I un,?_,h8,hW c U H' h9 _⟩;rw[show ({ s' with heap:=h' }:Shared).os=s'.os from rfl,h7];exact I.os
theorem qKM{W:WX}(hW:∀ c U H,W c U H->∀ e,E e (some c) H)(I:Inv (cxX ex P w K mg base N qual scope f cd A outer s0 H0 E) pins U H s)(hc:ex c=some C)
  (m:Heap.MadeExcOf s.heap h1 a (.ref C) args) (hw:W c U H):(cxX ex P w K mg base N qual scope f cd A outer s0 H0 E).xe (.ref a) { s with heap:=h1 }:=by
 have fr:=I.ok.frames;have ff:=I.stack;have hB:(PySem.W.hideAll s.heap (frs (cxX ex P w K mg base N qual scope f cd A outer s0 H0 E).stack)).StaysIn s.heap:=fun b o e=>PySem.W.of_hideAll _ e;have hcov:∀ b o,s.heap.get? b=some o->b∉frs (cxX ex P w K mg base N qual scope f cd A outer s0 H0 E).stack->∃ o',(PySem.W.hideAll s.heap (frs (cxX ex P w K mg base N qual scope f cd A outer s0 H0 E).stack)).get? b=some o':=fun b o e hb=>⟨o,PySem.W.hideAll_get _ e hb⟩
 have hok:HOk P w H (PySem.W.hideAll s.heap (frs (cxX ex P w K mg base N qual scope f cd A outer s0 H0 E).stack)):=fun b u e=>by
  refine (show L2.ObjOk P w H s.heap b u from I.hok b u e).stay (fun c v hc q=>PySem.W.hideAll_get _ q fun z=>?_) (fun _ q=>q) fun _ _ q=>q;have n:=I.stkFree c z;rcases hc with rfl | hc
  ·rw[e] at n;cases n
  ·rw[hc] at n;cases n
 refine wpAny_leaves_madeW (env:=envOfC qual scope s0.heap.objs.size f cd) (outer:=outer) fr rfl hB (funFrames_hide' ff fun _ z=>z) m fun h' t hfl _ _ up=>?_;have up':s.heap.UpToSlots h':=(Heap.UpToSlots.of_keeps m.keeps).trans up;have un:=eP (L2.Un.refl (fs:=frs (cxX ex P w K mg base N qual scope f cd A outer s0 H0 E).stack) (ex:=[]) (H:=H) (h:=s.heap)) hB hcov (funFrames_hide' ff fun _ z=>z) hfl.1 up'
 exact⟨a,C,c,_,_,H,rfl,hc,hfl,hok,qBD I hcov,qBC I un,I.os,I.bare,hW c U H hw _⟩
end
def wY(K:PySem.W.Frag)(C:Addr):Bool:=PySem.W.excIn K C [.type "ValueError",.type "Exception",.type "BaseException",.type "object"] "ValueError.__new__"
theorem qEh {K:PySem.W.Frag} (X:K.In h) (q:wY K C=true):∃ nm qn N bs bm hdct sn sub ab col dd k0 k1 k2 k3 k5 mN,h.get? C=some (excClassObj nm qn C N bs bm hdct sn sub ab col dd k0 k1 k2 k3 k5 "ValueError.__new__")/\h.Ns N mN/\mN "__init__"=none /\
  OwnTail h [.type "ValueError",.type "Exception",.type "BaseException",.type "object"] bm:=by
 unfold wY PySem.W.excIn at q;cases hl:K.lookup C with
 |none=>rw[hl] at q;cases q
 |some ob=>
  rw[hl] at q;have at':=X C ob hl;split at q
  ·rename_i dx cx sx eqo;cases eqo;split at q
   ·rename_i Cx' tl w0 w1 w2 w3 nn w5 emro eslots;simp only[Bool.and_eq_true,beq_iff_eq,Bool.not_eq_true'] at q;obtain ⟨⟨⟨⟨⟨q1,q2⟩,q3⟩,q4⟩,q5⟩,q6⟩:=q;obtain ⟨xa,xb,xc,xd,xe,xf,xg,xh,xi,xj,xk⟩:=cx;simp only at emro q3 q5 q6;subst q1 q2 emro q3
    have es:sx=#[w0,w1,w2,w3,some (.builtin "ValueError.__new__"),w5]:=by
     cases sx with
     |mk l=>exact congrArg Array.mk eslots
    subst es
    exact⟨xa,xe,xd,xb,tl,xf,xg,xh,xi,xj,dx,w0,w1,w2,w3,w5,_,at',.of_isNs (PySem.W.isNs_of_in X q5),PySem.W.nsMap_none_of_in X q5 q6,PySem.W.tail_of_in X q4⟩
   ·cases q
  ·cases q
section
variable {X:Cx}{F:Nat->List D->M D}{B:Nat}{W:WX}{ex:Nat->Option Addr}
theorem qGl (hc:X.calm=true) (hg:L2.Gl X x) (hdb:(x == ("__debug__":Str))=false) (hm:X.mg x=some (.ref C)) (hK:wY X.K C=true)
  (hx:∀ pins U H s a args h',Inv X pins U H s->Heap.MadeExcOf s.heap h' a (.ref C) args->W c U H->X.xe (.ref a) { s with heap:=h' }) :
  PS X (.Raise (some (.Call (.Name x np) [.Constant (.str msg) j mp] [] cpos)) none pos) (tDS X.K W (qB F B (.raise c))):=by
 intro pins s U H E I t;obtain ⟨Y,env,h,st,r,p⟩:=t;have hw:W c U H:=p Y H U (Step.refl _ _) r st;obtain ⟨nm,qn,N,bs,bm,hdct,sn,sub,ab,col,dd,k0,k1,k2,k3,k5,mN,hC,hN,hni,T⟩:=qEh I.ok.mod.kin hK
 refine wpAny_Raise_call_subU (C:=C) (nm:=nm) (q:=qn) (N:=N) (bs:=bs) (bm:=bm) (hdct:=hdct) (sn:=sn) (sub:=sub) (ab:=ab) (col:=col) (dd:=dd) (k0:=k0) (k1:=k1) (k2:=k2) (k3:=k3) (k5:=k5) PySem.F.excBase_ValueError (by decide) PySem.F.excBase_ValueError (mN:=mN) (T.hasType PySem.F.excBase_ValueError.hasBase) (I.ok.hd hc) rfl hni
  (L2.ld_glob I hg hm ⟨rfl,?_⟩ hdb)
 refine Calls.evalArgs_plain ?_;have pa:PA X [.Constant (.str msg) j mp] (L2.tCons (L2.tC (.str msg)) L2.tNil):=L2.pa_cons L2.pe_str L2.pa_nil;refine thn (pa cpos pins s U H (fun vs H'=>vs.length<=1/\H'=H) I ⟨Nat.le_refl _,rfl⟩) fun us s2 ⟨vs,H2,I2,rv,hl,e2⟩=>?_;subst e2
 exact⟨rfl,by rw[<- rv.length];exact Nat.le_trans hl (by decide),I2.bk _ _ hC,hN.keeps I2.bk,T.keeps I2.bk,fun h' e m=>hx pins U H2 s2 e us h' I2 m hw⟩
end
abbrev hold(X:Cx)(pins:List (Addr × Obj))(E:Value->Shared->Prop):Cx:={ X with pn:=X.pn++pins,xe:=E }
abbrev mark(X:Cx)(e:Value):Cx:={ X with A:=X.A.mark (some e),calm:=false,xe:=fun _ _=>False }
section
variable {X:Cx}{pins pins':List (Addr × Obj)}{U:L2.St}{H:Hp}{s:Shared}{E:Value->Shared->Prop}
theorem qBI(ok:X.Ok):(hold X pins E).Ok:=⟨ok.mod,ok.kind,ok.glob,ok.blt,ok.above,ok.inj,ok.has,ok.cab,ok.hd,ok.frames,ok.stk,ok.exf,ok.bs,ok.bsz,ok.noex,ok.exfs,ok.funs,ok.frf⟩
theorem qBH(ok:(hold X pins E).Ok):X.Ok:=⟨ok.mod,ok.kind,ok.glob,ok.blt,ok.above,ok.inj,ok.has,ok.cab,ok.hd,ok.frames,ok.stk,ok.exf,ok.bs,ok.bsz,ok.noex,ok.exfs,ok.funs,ok.frf⟩
theorem qHf(ok:X.Ok):(mark X e).Ok:=⟨ok.mod,ok.kind,ok.glob,ok.blt,ok.above,ok.inj,ok.has,ok.cab,(fun z=>by cases z),ok.frames,ok.stk,ok.exf,ok.bs,ok.bsz,ok.noex,ok.exfs,ok.funs,ok.frf⟩
theorem Inv.hold(I:Inv X pins U H s)(E:Value->Shared->Prop):Inv (hold X pins E) [] U H s:=⟨qBI I.ok,I.os,I.bare,I.base,I.loc,I.cell,I.free,I.freeC,fun p hp=>I.pin p (by simpa using hp),I.hok,I.len⟩
theorem Inv.unhold(I:Inv (Fy.hold X pins E) pins' U H s):Inv X pins U H s:=⟨qBH I.ok,I.os,I.bare,I.base,I.loc,I.cell,I.free,I.freeC,fun p hp=>I.pin p (List.mem_append_left _ hp),I.hok,I.len⟩
theorem Inv.mark(I:Inv X pins U H s):Inv (mark X e) pins U H s:=⟨qHf I.ok,I.os,I.bare,I.base,I.loc,I.cell,I.free,I.freeC,I.pin,I.hok,I.len⟩
theorem Inv.unmark(I:Inv (Fy.mark X e) pins U H s)(ok:X.Ok):Inv X pins U H s:=⟨ok,I.os,I.bare,I.base,I.loc,I.cell,I.free,I.freeC,I.pin,I.hok,I.len⟩
theorem SP.unhold{D:Ends}(h:SP (Fy.hold X pins E) pins' D f s'):SP X pins D f s':=by
 cases f with
 |next=>obtain ⟨U',H',I,q⟩:=h;exact⟨U',H',Inv.unhold I,q⟩
 |brk=>obtain ⟨U',H',I,q⟩:=h;exact⟨U',H',Inv.unhold I,q⟩
 |cont=>obtain ⟨U',H',I,q⟩:=h;exact⟨U',H',Inv.unhold I,q⟩
 |ret u=>obtain ⟨v,U',H',I,r,q⟩:=h;exact⟨v,U',H',Inv.unhold I,r,q⟩
theorem SP.unmark{D:Ends}(h:SP (Fy.mark X e) pins D f s')(ok:X.Ok):SP X pins D f s':=by
 cases f with
 |next=>obtain ⟨U',H',I,q⟩:=h;exact⟨U',H',Inv.unmark I ok,q⟩
 |brk=>obtain ⟨U',H',I,q⟩:=h;exact⟨U',H',Inv.unmark I ok,q⟩
 |cont=>obtain ⟨U',H',I,q⟩:=h;exact⟨U',H',Inv.unmark I ok,q⟩
 |ret u=>obtain ⟨v,U',H',I,r,q⟩:=h;exact⟨v,U',H',Inv.unmark I ok,r,q⟩
end
theorem qHk(x:L2.ObjOk P w H h a o):∃ ob,h.get? a=some ob:=by
 cases o with
 |lst xs=>obtain ⟨_,_,_,_,e⟩:=x;exact⟨_,e⟩
 |tup xs=>obtain ⟨_,_,_,ob,e,_⟩:=x;exact⟨_,e⟩
 |dK kvs=>obtain ⟨_,_,_,_,o,_,_,e,_⟩:=x;exact⟨_,e⟩
 |dT kvs=>obtain ⟨_,_,_,_,o,_,_,e,_⟩:=x;exact⟨_,e⟩
 |set S n=>obtain ⟨o,_,_,_,e,_⟩:=x;exact⟨_,e⟩
 |ins C dx fs=>obtain ⟨_,_,_,e,_⟩:=x;exact⟨_,e⟩
 |own y=>exact x
 |xd fs=>obtain ⟨_,⟨_,_,_,e,_⟩,_⟩:=x;exact⟨_,e⟩
 |rng lo hi=>obtain ⟨_,_,_,e⟩:=x;exact⟨_,e⟩
 |frz ob u=>obtain ⟨e,_⟩:=x;exact⟨_,e⟩
 |tbl ps=>exact⟨_,(show h.get? a=some _ from x)⟩
 |met f y=>exact⟨_,(show h.get? a=some _ from x)⟩
 |ext φ=>obtain ⟨_,⟨_,e⟩,_⟩:=x;exact⟨_,e⟩
section
variable {X:Cx}{pins:List (Addr × Obj)}{U:L2.St}{H:Hp}{s:Shared}
theorem Inv.track(I:Inv X pins U H s)(hn:H a=none)(h0:X.s₀.heap.get? a=none)(hl:a≠X.env.locals)(hc:∀ x c,X.env.cells.lookup x=some c->c≠a)(hp:∀ p∈X.pn++pins,p.1≠a)
  (new:L2.ObjOk X.prog X.w (upd H a o) s.heap a o):Inv X pins U (upd H a o) s:=by
 refine⟨I.ok,I.os,I.bare,⟨I.base.keep,I.base.slot,fun b ob q n hx=>?_,I.base.there,fun b xs q=>?_,fun b ob u q=>?_,fun b ps q=>?_⟩,I.loc,I.cell,?_,fun x c e=>?_,fun p hpp=>?_,fun b u e=>?_,I.len⟩
 ·rw[qE (fun z=>by rw[z,h0] at q;cases q)];exact I.base.free b ob q n hx
 ·have:=I.base.tups b xs q
  rw[qE (L2.ne_of_none this hn)];exact this
 ·have:=I.base.frzs b ob u q
  rw[qE (L2.ne_of_none this hn)];exact this
 ·obtain ⟨more,e⟩:=I.base.tbls b ps q
  exact⟨more,by rw[qE (L2.ne_of_none e hn)];exact e⟩
 ·rw[qE (Ne.symm hl)];exact I.free
 ·rw[qE (hc x c e)];exact I.freeC x c e
 ·obtain ⟨e,n,ne,nf,d⟩:=I.pin p hpp
  exact⟨e,by rw[qE (hp p hpp)];exact n,ne,nf,d⟩
 ·by_cases hb:b=a
  ·subst hb;rw[qI] at e;cases e;exact new
  ·rw[qE hb] at e;exact (I.hok b u e).stay (fun c v _ q=>q) (fun c q=>by rw[qE (L2.ne_of_none q hn)];exact q) fun c xs q=>by rw[qE (L2.ne_of_none q hn)];exact q
theorem Inv.blank(I:Inv X pins U H s)(hn':h'.Ns X.env.locals m')(hs:Heap.SameBut X.env.locals s.heap h'):Inv X pins (U.map fun _=>none) H { s with heap:=h',toks:=tk }:=by
 have cne:=I.cne;refine⟨I.ok,I.os,I.bare,⟨fun b o e n hb hx=>?_,fun b o e n hb hx=>?_,I.base.free,fun b o e hx=>?_,I.base.tups,I.base.frzs,I.base.tbls⟩,⟨_,hn',fun j y v' e1 e2 e3=>?_⟩,fun y c e=>?_,I.free,I.freeC,fun p hp=>?_,fun b ob e=>?_,by simpa using I.len⟩
 ·exact (hs.2 b (Nat.ne_of_lt (Nat.lt_of_lt_of_le (Heap.lt_size e) I.ok.above))).trans (I.base.keep b o e n hb hx)
 ·obtain ⟨sl,e1⟩:=I.base.slot b o e n hb hx
  exact⟨sl,(hs.2 b (Nat.ne_of_lt (Nat.lt_of_lt_of_le (Heap.lt_size e) I.ok.above))).trans e1⟩
 ·obtain ⟨o',e1⟩:=I.base.there b o e hx
  exact⟨o',(hs.2 b (Nat.ne_of_lt (Nat.lt_of_lt_of_le (Heap.lt_size e) I.ok.above))).trans e1⟩
 ·rw[List.getElem?_map] at e2;cases q:U[j]? with
  |none=>rw[q] at e2;cases e2
  |some z=>rw[q] at e2;cases e2
 ·obtain ⟨w',z⟩:=I.cell y c e
  exact⟨w',z.sameBut hs (cne y c e)⟩
 ·obtain ⟨e,n,ne,nf,d⟩:=I.pin p hp
  exact⟨(hs.2 p.1 ne).trans e,n,ne,nf,d⟩
 ·have hfree:=I.free;refine (I.hok b ob e).stay (fun c w' hc q=>(hs.2 c ?_).trans q) (fun _ q=>q) fun _ _ q=>q
  rintro rfl
  rcases hc with rfl | hc
  ·rw[hfree] at e;cases e
  ·rw[hfree] at hc;cases hc
end
section
variable {X:Cx}{F:Nat->List D->M D}{B:Nat}{W:WX}{ex:Nat->Option Addr}
def HOf(X:Cx)(F:Nat->List D->M D)(B:Nat)(ex:Nat->Option Addr):List ExceptHandler->CH->Prop
 | [],.nil=>True
 | .ExceptHandler (some (.Name x np)) none body pos::r,.cons cs k r'=>(∃ C,L2.Gl X x/\(x == ("__debug__":Str))=false/\X.mg x=some (.ref C)/\∀ c D,ex c=some D->PySem.W.exmOne X.K (.ref D) (.ref C)=some (cs.contains c)) /\
   (∃ b0 qG,body=b0::qG)/\(∀ e,PSs (mark X e) body (tDS X.K WF (qB F B k)))/\HOf X F B ex r r'
 | .ExceptHandler (some (.Name x np)) (some n) body pos::r,.as cs i k r'=>(∃ C,L2.Gl X x/\(x == ("__debug__":Str))=false/\X.mg x=some (.ref C)/\∀ c D,ex c=some D->PySem.W.exmOne X.K (.ref D) (.ref C)=some (cs.contains c)) /\
   (∃ b0 qG,body=b0::qG)/\(X.ex=[]/\X.N.Nodup/\X.N[i]?=some n/\X.env.scope.names.lookup n=some .local/\∀ c C,ex c=some C->zK X.K c C)/\(∀ e,PSs (mark X e) body (tDS X.K WF (qB F B k)))/\HOf X F B ex r r'
 |_,_=>False
structure Look (X:Cx) (ex:Nat->Option Addr) (pins:List (Addr × Obj)) (U:L2.St) (Hc H:Hp) (s0 s:Shared) (Bs:Heap) (a C:Addr) (a0:Value):Prop where
 inv:Inv X pins U Hc s0
 fl:Heap.FlyingW Bs X.stack a (.ref C) a0 s.heap
 hok:HOk X.prog X.w H Bs
 cov:∀ b o,s0.heap.get? b=some o->b∉frs X.stack->∃ o',Bs.get? b=some o'
 un:L2.Un (frs X.stack) [] Hc H s0.heap s.heap
 os:s.os=s0.os
 bare:AllBare s.gens
theorem Look.go(L:Look X ex pins U Hc H s0 s Bs a C a0)(fl:Heap.FlyingW Bs X.stack a (.ref C) a0 h')(up:s.heap.UpToSlots h'):Look X ex pins U Hc H s0 { s with heap:=h' } Bs a C a0:=
 ⟨L.inv,fl,L.hok,L.cov,eP L.un L.fl.1 L.cov L.fl.2.2.1 fl.1 up,L.os,L.bare⟩
theorem Look.now(L:Look X ex pins U Hc H s0 s Bs a C a0):Inv X pins U H s:=
 L.inv.call' L.os L.un (L.hok.kept L.fl.1) L.bare fun b hb=>absurd hb (by simp)
theorem Look.ty{M:Model}(L:Look X ex pins U Hc H s0 s Bs a C a0):PySem.W.Looks M s.heap (typeOf (.ref a)) (.ref C):=by
 obtain ⟨ob,h1,h2⟩:=L.fl.there;exact h2 ▸ (PySem.W.Looks.ld h1).andThen .now
theorem Look.new(L:Look X ex pins U Hc H s0 s Bs a C a0):s0.heap.get? a=none:=by
 cases q:s0.heap.get? a with
 |none=>rfl
 |some o=>
  exfalso
  by_cases hf:a∈frs X.stack
  ·obtain ⟨_,o2,k2,k3⟩:=L.fl.2.2.1.mem hf;obtain ⟨oe,vs,T,oT,ts,t1,t2,t3,_⟩:=L.fl.2.2.2;rw[t1] at k2;cases k2;exact k3 vs t3
  ·obtain ⟨o',e⟩:=L.cov a o q hf;rw[L.fl.2.1] at e;cases e
theorem Look.free(L:Look X ex pins U Hc H s0 s Bs a C a0):H a=none:=by
 cases q:H a with
 |none=>rfl
 |some o=>obtain ⟨ob,e⟩:=qHk (L.hok a o q);rw[L.fl.2.1] at e;cases e
def Clz(X:Cx)(F:Nat->List D->M D)(B:Nat)(ex:Nat->Option Addr)(W:WX)(pins:List (Addr × Obj))(U:L2.St)(E:Ends)(hs:List ExceptHandler)(ch:CH):Prop:=
 ∀ (Hc H:Hp) (s0 s:Shared) (Bs:Heap) (a C:Addr) (a0:Value) (c:Nat),ex c=some C->Look X ex pins U Hc H s0 s Bs a C a0 ->
  (∃ Y env h,RepS X.K Y H env U/\RepH X.K Y h H/\PostS X.K W E Y H (wB F B ch c env h))->wpAny (model X.prog X.w) X.A (handleBy (.ref a) X.env hs) (SP X pins E) X.xe s
theorem qNv(hh:HOf X F B ex (.ExceptHandler (some (.Name x np)) none body pos::r) (.cons cs k r'))(ih:Clz X F B ex W pins U E r r'):Clz X F B ex W pins U E (.ExceptHandler (some (.Name x np)) none body pos::r) (.cons cs k r'):=by
 rintro Hc H s0 s Bs a C a0 c hc L ⟨Y,env,h,st,rh,p⟩
 obtain ⟨⟨C',g1,g2,g3,g4⟩,⟨b0,qG,hb⟩,hsu,hr⟩:=hh;have I:=L.now;dsimp only[wB] at p;refine wpAny_handleBy_cons (codeAny_handlers_test (L2.ld_glob (X:=mark X (.ref a)) (Inv.mark I) g1 g3 ?_ g2)) (by intro q;cases q);refine (PySem.W.exm_one I.kIn L.ty (g4 c C hc)).here ?_;cases q:cs.contains c with
 |false=>rw[q] at p;exact ih _ _ _ _ _ _ _ _ _ hc L ⟨Y,env,h,st,rh,p⟩
 |true=>
  rw[q] at p;subst hb;refine codeAny_handlers_suite (lands_againW L.fl fun h6 fl6 up6=>?_);have L6:=L.go fl6 up6;have p:PostS X.K W E Y H (SR.calm (qB F B k env h)):=p
  have p':PostS X.K WF E Y H (qB F B k env h):=by
   cases z:qB F B k env h with
   |nx _ _=>rw[z] at p;exact p
   |rt _ _=>rw[z] at p;exact p
   |bk _ _=>rw[z] at p;exact p
   |ct _ _=>rw[z] at p;exact p
   |exc _ _ _=>rw[z] at p;cases p
   |bad=>rw[z] at p;exact p
  exact wpAny_mono (hsu (.ref a) pins _ U H E (Inv.mark L6.now) ⟨Y,env,h,st,rh,p'⟩) (fun f s7 q7=>SP.unmark q7 I.ok) fun _ _ z=>False.elim z
theorem qNw(hh:HOf X F B ex (.ExceptHandler (some (.Name x np)) (some n) body pos::r) (.as cs i k r'))(ih:Clz X F B ex W pins U E r r'):Clz X F B ex W pins U E (.ExceptHandler (some (.Name x np)) (some n) body pos::r) (.as cs i k r'):=by
 rintro Hc H s0 s Bs a C a0 c hc L ⟨Y,env,h,st,rh,p⟩
 obtain ⟨⟨C',g1,g2,g3,g4⟩,⟨b0,qG,hb⟩,⟨n0,n1,n2,n3,n4⟩,hsu,hr⟩:=hh;have I:=L.now;dsimp only[wB] at p;refine wpAny_handleBy_cons (codeAny_handlers_test (L2.ld_glob (X:=mark X (.ref a)) (Inv.mark I) g1 g3 ?_ g2)) (by intro q;cases q);refine (PySem.W.exm_one I.kIn L.ty (g4 c C hc)).here ?_;cases q:cs.contains c with
 |false=>rw[q] at p;exact ih _ _ _ _ _ _ _ _ _ hc L ⟨Y,env,h,st,rh,p⟩
 |true=>
  rw[q] at p;subst hb;refine codeAny_handlers_suite_as (lands_againW L.fl fun h6 fl6 up6=>?_);have L6:=L.go fl6 up6;have new:=L.new;have hfree:=L6.free
  have hs0:X.s₀.heap.get? a=none:=by
   cases z:X.s₀.heap.get? a with
   |none=>rfl
   |some o=>obtain ⟨o',e⟩:=L.inv.base.there a o z (by rw[n0];exact List.not_mem_nil);rw[new] at e;cases e
  obtain ⟨ob,hob,hcl⟩:=L6.fl.there
  have It:Inv X pins U (upd H a (xcO a C)) { s with heap:=h6 }:=Inv.track L6.now hfree hs0 (fun z=>by
    obtain ⟨m,hn,_⟩:=L.inv.loc;obtain ⟨oL,_,_,hoL,_⟩:=id hn;rw[<- z,new] at hoL
    cases hoL) (fun y c' e z=>by
    obtain ⟨w',oc,hoc,_⟩:=L.inv.cell y c' e;rw[z,new] at hoc
    cases hoc) (fun pp hpp z=>by
    have:=(L.inv.pin pp hpp).1
    rw[z,new] at this
    cases this) ⟨⟨ob,hob,hcl⟩,⟨ob,hob⟩,fun h1 h2 ⟨o1,e1,e2⟩ k=>⟨o1,k o1 e1,e2⟩⟩
  have step:Step Y H (Y++[a]) (upd H a (xcO a C)):=Step.new1 hfree;have rh':RepH X.K (Y++[a]) (h++[.xc c]) (upd H a (xcO a C)):=rh.newO hfree ⟨C,n4 c C hc,qI⟩;have hlen:(Y++[a])[h.length]?=some a:=by rw[<- rh.len,List.getElem?_append_right (Nat.le_refl _)];simp
  have st':RepS X.K (Y++[a]) (upd H a (xcO a C)) (env.set i (some (.ref h.length))) (U.set i (some (.ref a))):=(st.mono step).set i ⟨a,hlen,rfl⟩;have p:PostS X.K W E Y H (SR.rtO (qB F B k (env.set i (some (.ref h.length))) (h++[.xc c]))):=p
  have p':PostS X.K WF { E with nx:=fun _ _=>False,bk:=fun _ _=>False,ct:=fun _ _=>False } (Y++[a]) (upd H a (xcO a C)) (qB F B k (env.set i (some (.ref h.length))) (h++[.xc c])):=by
   cases z:qB F B k (env.set i (some (.ref h.length))) (h++[.xc c]) with
   |rt d g=>rw[z] at p;exact fun Y' H' v e' r' hv=>p Y' H' v (step.trans e') r' hv
   |nx _ _=>rw[z] at p;cases p
   |bk _ _=>rw[z] at p;cases p
   |ct _ _=>rw[z] at p;cases p
   |exc _ _ _=>rw[z] at p;cases p
   |bad=>rw[z] at p;exact p
  refine L2.store_ok (X:=mark X (.ref a)) (v:=.ref a) (Inv.mark It) n1 n2 (.inl n3) rfl (fun s7 I7=>?_) (.inr n3);refine wpAny_mono (hsu (.ref a) pins s7 _ _ _ I7 ⟨_,_,_,st',rh',p'⟩) (fun f s8 q8=>?_) fun _ _ z=>False.elim z;cases f with
  |next=>obtain ⟨_,_,_,z⟩:=q8;cases z
  |brk=>obtain ⟨_,_,_,z⟩:=q8;cases z
  |cont=>obtain ⟨_,_,_,z⟩:=q8;cases z
  |ret u=>
   obtain ⟨v,U',H',I8,rv,qv⟩:=q8;have I9:=Inv.unmark I8 I.ok;obtain ⟨m,hn,_⟩:=I9.loc;refine wpAny_nameGoes n3 hn (by rw[I9.ok.kind];rfl) fun h' m' hn' hs'=>?_
   exact⟨v,_,H',Inv.blank I9 hn' hs',rv,qv⟩
theorem qNu:∀ (hs:List ExceptHandler) (ch:CH),HOf X F B ex hs ch->Clz X F B ex W pins U E hs ch:=by
 intro hs
 induction hs with
 |nil=>
  intro ch hh;cases ch with
  |nil=>rintro Hc H s0 s Bs a C a0 c hc L ⟨Y,env,h,st,rh,p⟩;cases p
  |_=>cases hh
 |cons hd r ih=>
  intro ch hh;obtain ⟨ty,nm,body,pos⟩:=hd;cases ty with
  |none=>cases hh
  |some t=>
   cases t with
   |Name x np=>
    cases nm with
    |none=>
     cases ch with
     |cons cs k r'=>exact qNv hh (ih r' hh.2.2.2)
     |_=>cases hh
    |some n=>
     cases ch with
     | «as» cs i k r'=>exact qNw hh (ih r' hh.2.2.2.2)
     |_=>cases hh
   |_=>cases hh
theorem qGd(hstk:X.stack=X.env::X.outer/\X.env.frame=some X.env.locals)(hh:HOf X F B ex (h0::hs) ch)
  (hb:∀ (pins:List (Addr × Obj)) (W1:WX),PSs (hold X pins fun e s'=>∃ pins' U H s0,Inv (hold X pins fun _ _=>False) pins' U H s0/\CXD X.prog X.w ex X.stack H s0 (fun _ co H'=>∃ c,co=some c/\W1 c U H') e s') body (tDS X.K W1 (qB F B cb))) :
  PS X (.Try body (h0::hs) [] [] pos) (tDS X.K W (qB F B (.tryx cb ch))):=by
 intro pins s U H E I t;obtain ⟨Y,env,h,st,r,p⟩:=t;dsimp only[qB] at p;show wpAny _ _ (do standAt pos;tryStmt false (execs body X.env) (h0::hs) (execs [] X.env) [] X.env) _ _ s;refine wpAny_bind (wpAny_standAt (wpAny_tryStmt_except ?_))
 have p1:PostS X.K (fun c st H'=>∃ Y env h,RepS X.K Y H' env st/\RepH X.K Y h H'/\PostS X.K W E Y H' (wB F B ch c env h)) E Y H (qB F B cb env h):=by
  cases z:qB F B cb env h with
  |nx _ _=>rw[z] at p;exact p
  |rt _ _=>rw[z] at p;exact p
  |bk _ _=>rw[z] at p;exact p
  |ct _ _=>rw[z] at p;exact p
  |exc c e g=>rw[z] at p;exact fun Y' H' st' e' r' s'=>⟨Y',e,g,s',r',PostS.mono p e'⟩
  |bad=>rw[z] at p;exact p
 refine wpAny_mono (hb pins _ [] s U H E (Inv.hold I _) ⟨Y,env,h,st,r,p1⟩) (fun f s1 q1=>?_) fun e s1 q1=>?_
 ·have q:=SP.unhold q1;cases f with
  |next=>exact wpAny_execs_nil q
  |brk=>exact q
  |cont=>exact q
  |ret u=>exact q
 ·obtain ⟨pins',U',Hc,s0,I0,a,C,c,Bs,a0,H',rfl,h2,h3,h4,h5,h6,h7,h8,c',e',Y',env',g',st',r',p'⟩:=q1;cases e';have I0':Inv X pins U' Hc s0:=Inv.unhold I0;have L:Look X ex pins U' Hc H' s0 s1 Bs a C a0:=⟨I0',h3,h4,h5,h6,h7,h8⟩;have fr:=I.ok.frames;rw[hstk.1] at fr;have fl:=h3;rw[hstk.1] at fl;refine wpAny_looks_onW fr hstk.2 fl fun h4' held up4=>?_;refine wpAny_landsW held fun h5' fl5 up5=>?_;rw[<- hstk.1] at fl5;exact qNu (h0::hs) ch hh _ _ _ _ _ _ _ _ _ h2 (L.go fl5 (up4.trans up5)) ⟨Y',env',g',st',r',p'⟩
end
open PySem PySem.Spec PySem.Calls PyProof.Rows PySem.W
structure XGet (K:Frag) (C:Addr):Prop where
 ga:findIn K (.ref C) "__getattribute__"=some (some (.builtin "BaseException.__getattribute__"))
 gt:findIn K (.ref C) "__getattr__"=some none
 cl:findIn K (.ref C) "__class__"=some (some (.builtin "object.__class__"))
 ob:subIn K (.ref C) (.type "object")=some true
 be:subIn K (.ref C) (.type "BaseException")=some true
 is:isClsIn K C=true
section
variable {prog:Program}{w:World}{A:Around}{E:Value->Shared->Prop}{h:Heap}{g:Array GenState}{d:Drawn}{t:Nat}{os:OsState}{a C:Addr}{o:Obj}{K:Frag}
theorem qEb{R:Result->Shared->Prop}(Z:XGet K C)(X:K.In h)(hx:h.get? a=some o)(hc:o.cls=.ref C)(hq:R (.ok (.ret (.ref C))) ⟨h,g,d,t,os⟩) :
  codeAny (model prog w) A (.call (.builtin "getset_descriptor.__get__") ⟨[.builtin "object.__class__",.ref a,.ref C],[]⟩) R ⟨h,g,d,t,os⟩:=by
 have hT5:(⟨h,g,d,t,os⟩:Shared).TypeIs (.builtin "object.__class__") "getset_descriptor":=PySem.F.typeOf_object_class;have ho:subIn K (.ref C) (.type (".".intercalate ("object.__class__".cutAt '.').dropLast))=some true:=by rw[PySem.F.owner_object_class];exact Z.ob
 refine codeAny_call_builtin PySem.F.slot_gs_get.plain PySem.F.entry_gs_get (PySem.F.slot_gs_get.check _ _ _ _ _ _ _ _ hT5 (PySem.F.args_gs_get _ _ _) ?_)
 repeat (any_goals (first | assumption | (with_reducible refine wpAny_loadPart_at hx ?_;rw[hc]) | with_reducible refine (looks_subIn X ho).at ?_ | wp_step))
 refine⟨Code.quiet_builtin _ (by decide +kernel),codeAny_builtin PySem.F.entry_object_class ?_⟩
 repeat (any_goals (first | assumption | (with_reducible refine wpAny_loadPart_at hx ?_;rw[hc]) | wp_step))
theorem qEd {M:Model} (Z:XGet K C) (X:K.In h) (hx:h.get? a=some o) (hc:o.cls=.ref C) (hq:Q () ⟨h,g,d,t,os⟩):wpAny M A (checkBuiltinCall "BaseException.__getattribute__" ⟨[.ref a,nameV],[]⟩) Q E ⟨h,g,d,t,os⟩:=by
 have hk:builtinKind "BaseException.__getattribute__"=some .slot:=by decide +kernel
 have hsplit:splitId "BaseException.__getattribute__"=some ("BaseException","__getattribute__"):=by decide +kernel
 have ha:=PySem.F.args_bexc_ga (.ref a) nameV;simp only[checkBuiltinCall,hk,hsplit];refine wpAny_bind ?_
 ·unfold isInstance
  repeat (first | (with_reducible refine wpAny_loadPart_at hx ?_;rw[hc]) | with_reducible refine (looks_subIn X Z.be).at ?_ | wp_step)
  exact hq
theorem qEc(Z:XGet K C)(X:K.In h)(hx:h.get? a=some o)(hc:o.cls=.ref C)(hq:Q (.done (.ret (.ref C))) ⟨h,g,d,t,os⟩) :
  wpAny (model prog w) A (Builtin.«object.__getattribute__» ⟨[.ref a,.str "__class__" tk],[]⟩) Q E ⟨h,g,d,t,os⟩:=by
 have hT5:(⟨h,g,d,t,os⟩:Shared).TypeIs (.builtin "object.__class__") "getset_descriptor":=PySem.F.typeOf_object_class;have f5:=PySem.F.typeOf_object_class;have f6:=PySem.F.slot_gs_get.lookup;have f7:=PySem.F.slot_gs_set.lookup
 repeat (any_goals (first | assumption | (with_reducible refine wpAny_loadPart_at hx ?_;rw[hc]) | with_reducible refine (looks_findIn X Z.cl).at ?_ | wp_step))
 refine qEb Z X hx hc ?_
 repeat (any_goals (first | assumption | wp_step))
theorem qEe{R:Result->Shared->Prop}(Z:XGet K C)(X:K.In h)(hx:h.get? a=some o)(hc:o.cls=.ref C)(hq:R (.ok (.ret (.ref C))) ⟨h,g,d,t,os⟩) :
  codeAny (model prog w) A (.call (.builtin "BaseException.__getattribute__") ⟨[.ref a,.str "__class__" tk],[]⟩) R ⟨h,g,d,t,os⟩:=
 codeAny_call_builtin (by decide +kernel) PySem.F.entry_bexc_ga (qEd Z X hx hc (qEc Z X hx hc hq))
theorem qEf{fill:Bool}(Z:XGet K C)(X:K.In h)(hx:h.get? a=some o)(hc:o.cls=.ref C)(hq:Q (.ref C) ⟨h,g,d,t,os⟩) :
  wpAny (model prog w) A (getAttrBy (.ref a) (.str "__class__" tk) fill expr) Q E ⟨h,g,d,t,os⟩:=by
 have hx0:(expr&&onTheHeap (Value.builtin "BaseException.__getattribute__"))=false:=by cases expr <;> rfl
 have hx2:(Value.builtin "BaseException.__getattribute__" == Value.builtin "object.__getattribute__")=false:=by decide +kernel
 have hx1:(onTheHeap (Value.ref C)&&Value.builtin "BaseException.__getattribute__" == Value.builtin "object.__getattribute__")=false:=by rw[hx2];rfl
 have f3:bindSpecial (.builtin "BaseException.__getattribute__") (.ref a)=pure (.builtin "BaseException.__getattribute__",[.ref a]):=by
  first | rfl | kernel_rfl
 repeat (any_goals (first | assumption | (with_reducible refine wpAny_loadPart_at hx ?_;rw[hc]) | with_reducible refine (looks_findIn X Z.ga).at ?_ | with_reducible refine (looks_findIn X Z.gt).at ?_ | wp_step))
 refine qEe Z X hx hc ?_
 repeat (any_goals (first | assumption | wp_step))
theorem qEg (Z:XGet K C) (X:K.In h) (hx:h.get? a=some o) (hc:o.cls=.ref C) (hq:Q (some (.ref C)) ⟨h,g,d,t+1,os⟩):wpAny (model prog w) A (getAttr? (.ref a) "__class__") Q E ⟨h,g,d,t,os⟩:=by
 unfold getAttr? getAttrBy?
 repeat (any_goals (first | assumption | with_reducible apply qEf Z X hx hc | wp_step))
theorem qKc(Z:XGet K C):KitX K (.ref a) (.ref C) (fun h=>∃ o,h.get? a=some o/\o.cls=.ref C) where
 ty:=fun _ _ _ ⟨o,h1,h2⟩=>h2 ▸ (Looks.ld h1).andThen .now
 it:=fun _ _ X _=>by
  have hc:=Z.is;unfold isClsIn clsIn at hc;split at hc
  ·rename_i c' d' cd' sl' ho;intro A' Q' E' s' k q;unfold isType loadHead;exact wpAny_bind (wpAny_loadPart (k _ _ (X _ _ ho)) (wpAny_pure q))
  ·cases hc
 ne:=fun h tp dd its n sl X htp=>by
  have hc:=Z.is;refine Bool.eq_false_iff.mpr fun q=>?_;have e:C=tp:=Value.ref.inj (beq_iff_eq.mp q);subst e;unfold isClsIn clsIn at hc;split at hc
  ·rename_i c' d' cd' sl' ho;have z:=(X _ _ ho).symm.trans htp;cases z
  ·cases hc
 ca:=fun {_ _ _ _ _ s} X p k=>by
  obtain ⟨h,g,d,t,os⟩:=s;obtain ⟨o,h1,h2⟩:=p;exact qEg Z X h1 h2 k
end
theorem qBu{K:PySem.W.Frag}(h:PySem.W.exmOne K t c=some b)(hb:(t == c)=true->b=true):PySem.W.kitOne K t c=some b:=by
 unfold PySem.W.exmOne at h;unfold PySem.W.kitOne;split
 ·rename_i q;rw[hb q]
 ·split at h
  ·exact h
  ·cases h
section
variable {X:Cx}{F:Nat->List D->M D}{W:WX}
def qHB(K:PySem.W.Frag)(cs xl:List Nat)(cv:V):List V->Hp->VK->Prop:=fun xs H Q=>∃ x,xs=[x,cv]/\rU K (.isx cs xl) x H Q
theorem qOC (cs xl:List Nat) (cv:V) (cu:Value) (hr:∀ u,RelV cv u->u=cu) (hk:∀ j D,zK X.K j D->xl.contains j=true->XGet X.K D/\PySem.W.kitOne X.K (.ref D) cu=some (cs.contains j)):qM X (.builtin "isinstance") (qHB X.K cs xl cv):=by
 rintro pins s U H xs us Q I rv ⟨x,rfl,w,Y,h,d,r,hd,p⟩
 obtain ⟨u,w',rfl,ru,rw'⟩:=L2.Vals.two rv;cases hr _ rw';cases d with
 |ref i=>
  have p:PostV X.K w Q Y H (match h[i]? with | some (.xc c)=>if xl.contains c then .ok (.bl (cs.contains c)) h else .bad | _=>.bad):=p;split at p
  ·rename_i c z;obtain ⟨hc,p⟩:=PostV.ite (c:=xl.contains c=true) p;obtain ⟨a,h1,C,h2,h3⟩:=r.obj i _ z;obtain ⟨a',h4,rfl⟩:=hd;rw[h1] at h4;cases h4;cases ru;obtain ⟨⟨o,k1,k2⟩,_⟩:=I.hok a _ h3;obtain ⟨Z,hkk⟩:=hk c C h2 hc;exact PySem.W.kia_one (qKc Z) I.kIn ⟨o,k1,k2⟩ hkk (fun z=>nomatch z) fun tk=>⟨.bl (cs.contains c),H,I.tok tk,rfl,PostV.now p r rfl⟩
  ·cases p
 |_=>exact False.elim p
theorem qC1 {x:Str} (hx:x="isinstance") (hg:L2.Gl X x) (hm:X.mg x=none) (hy:PE X (.Name y p2) (L2.tC cv)) (hr:∀ u,RelV cv u->u=cu)
  (hk:∀ j D,zK X.K j D->xl.contains j=true->XGet X.K D/\PySem.W.kitOne X.K (.ref D) cu=some (cs.contains j)) (ha:PE X a (tD X.K W (den F ca))) (hst:starEach [a,.Name y p2] X.env=[(false,eval a X.env),(false,eval (.Name y p2) X.env)]) :
  PE X (.Call (.Name x p1) [a,.Name y p2] [] pos) (tD X.K W (den F (.un (.isx cs xl) ca))):=by
 subst hx;refine PE.imp (L2.pe_callB (qOC cs xl cv cu hr hk) hg hm boot_isinstance (L2.pa_cons ha (L2.pa_cons hy L2.pa_nil (by rfl)) (by rw[hst];rfl)) (he:=by rw[hst];rfl)) fun U H Q q=>?_;obtain ⟨Y,env,h,s,r',p⟩:=one q
 exact⟨Y,env,h,s,r',Post.imp p fun Y' H' d q v hv=>⟨v,rfl,q v hv⟩⟩
end
def vl(l:List Nat)(a:Nat):Nat:=l.foldl (fun a d=>a*256+d) a
theorem fZ:∀ (f n:Nat) (acc:List Nat),n<256 ^ f->vl (vX f n acc) 0=vl acc n
 |0,n,acc,h=>by
  have:n=0:=by rw[Nat.pow_zero] at h;lia
  subst this;rfl
 |f+1,n,acc,h=>by
  unfold vX
  by_cases q:n=0
  ·rw[if_pos q,q]
  ·rw[if_neg q,fZ f (n / 256) (n % 256::acc) (by rw[Nat.pow_succ] at h;exact Nat.div_lt_of_lt_mul (by rw[Nat.mul_comm];exact h))];show vl acc (n / 256*256+n % 256)=_;rw[Nat.div_add_mod' n 256]
theorem fY(ha:a<256 ^ 60)(hb:b<256 ^ 60)(h:qD a=qD b):a=b:=by
 unfold qD at h;have h1:(vX 60 a []).toArray=(vX 60 b []).toArray:=congrArg Str.cps h;have h2:vX 60 a []=vX 60 b []:=by simpa using h1
 have e1:=fZ 60 a [] ha;have e2:=fZ 60 b [] hb;rw[h2,e2] at e1;exact e1.symm
section
variable {K:PySem.W.Frag}{Y:List Addr}{H:Hp}{C:Addr}
theorem RepF.len:∀ {fs:List (Nat × D)} {vs:List (Str × V)},RepF K Y H C fs vs->vs.length=fs.length
 | [],_,h=>by cases h;rfl
 |x::xs,_,⟨v,r,h1,_,_,_,h3⟩=>by subst h1;simp[RepF.len h3]
theorem RepF.get:∀ {fs:List (Nat × D)} {vs:List (Str × V)},RepF K Y H C fs vs->qL k fs=some d->∃ v,vs.lookup (qD k)=some v/\RepV K Y H d v/\L2.NoAttr K C (qD k)/\k<256 ^ 60
 | [],_,_,e=>by cases e
 | (g,x)::xs,_,⟨v,r,h1,hb,hn,h2,h3⟩,e=>by
  subst h1;unfold qL at e
  by_cases q:(g == k)=true
  ·rw[if_pos q] at e;cases e
   have:g=k:=by simpa using q
   subst this
   exact⟨v,by simp[List.lookup],h2,hn,hb⟩
  ·rw[if_neg q] at e;obtain ⟨w,k1,k2,k3,k4⟩:=RepF.get h3 e;refine⟨w,?_,k2,k3,k4⟩;have ne:(qD k == qD g)=false:=beq_eq_false_iff_ne.mpr fun z=>q (by rw[fY k4 hb z];simp);show List.lookup (qD k) ((qD g,v)::r)=_;rw[List.lookup_cons,ne];exact k1
theorem RepF.none(hk:k<256 ^ 60):∀ {fs:List (Nat × D)} {vs:List (Str × V)},RepF K Y H C fs vs->qL k fs=none->vs.lookup (qD k)=none
 | [],_,h,_=>by cases h;rfl
 | (g,x)::xs,_,⟨v,r,h1,hb,hn,h2,h3⟩,e=>by
  subst h1;unfold qL at e
  by_cases q:(g == k)=true
  ·rw[if_pos q] at e;cases e
  ·rw[if_neg q] at e;have ne:(qD k == qD g)=false:=beq_eq_false_iff_ne.mpr fun z=>q (by rw[fY hk hb z];simp);show List.lookup (qD k) ((qD g,v)::r)=_;rw[List.lookup_cons,ne];exact RepF.none hk h3 e
theorem RepF.put(hk:k<256 ^ 60)(hn:L2.NoAttr K C (qD k))(hv:RepV K Y H d v):∀ {fs:List (Nat × D)} {vs:List (Str × V)},RepF K Y H C fs vs->RepF K Y H C (zP k d fs) (L2.putF (qD k) v vs)
 | [],_,h=>by cases h;exact⟨v,[],rfl,hk,hn,hv,rfl⟩
 | (g,x)::xs,_,⟨w,r,h1,hb,hn',h2,h3⟩=>by
  subst h1;unfold zP;show RepF K Y H C _ (if qD g=qD k then (qD g,v)::r else (qD g,w)::L2.putF (qD k) v r)
  by_cases q:(g == k)=true
  ·have:g=k:=by simpa using q
   subst this;rw[if_pos q,if_pos rfl]
   exact⟨v,r,rfl,hk,hn,hv,h3⟩
  ·have hb':g<256 ^ 60:=hb;rw[if_neg q,if_neg fun z=>q (by rw[fY hb' hk z];simp)]
   exact⟨w,_,rfl,hb,hn',h2,RepF.put hk hn hv h3⟩
end
section
variable {X:Cx}{F:Nat->List D->M D}{B:Nat}{W:WX}
theorem qNX(hf:f=qD k)(he:PE X e (tD X.K W (den F ca)))(hb:attributeBase e f X.env (eval e X.env)=eval e X.env):PE X (.Attribute e f pos) (tD X.K W (den F (.un (.fld k) ca))):=by
 subst hf;refine PE.imp (L2.pe_fld he hb) fun U H Q t=>?_;obtain ⟨Y,env,h,s,r,p⟩:=one t;refine⟨Y,env,h,s,r,Post.imp p fun Y' H' d q v hv=>?_⟩;obtain ⟨w,Y2,h2,d2,r2,hd,p2⟩:=q v hv;cases d2 with
 |ref i=>
  have p2:PostV X.K w Q Y2 H' (match h2[i]? with | some (.ins _ fs)=>(match qL k fs with | some d=>.ok d h2 | none=>.bad) | _=>.bad):=p2;split at p2
  ·rename_i c fs hi;cases g:qL k fs with
   |none=>rw[g] at p2;cases p2
   |some d=>
    rw[g] at p2;obtain ⟨a,ha,C,dx,vs,k1,k2,k3,k4⟩:=r2.obj i _ hi;obtain ⟨a',ha',rfl⟩:=hd;rw[ha] at ha';cases ha';obtain ⟨u,l1,l2,l3,_⟩:=k4.get g
    exact⟨a,C,dx,vs,u,rfl,k3,k2,l3,l1,PostV.now p2 r2 l2⟩
  ·cases p2
 |_=>exact (show False from p2).elim
theorem qGg(hf:f=qD k)(hk:k<256 ^ 60)(hna:∀ c C,cs.contains c=true->zK X.K c C->L2.NoAttr X.K C (qD k))
  (ho:PE X o (tD X.K W (den F ca))) (he:PE X e (tD X.K W (den F ce))) (hs:swapsWith e (some (.Attribute o f pos')) pos.line X.env=pure false):PS X (.Assign [.Attribute o f pos'] e pos) (tDS X.K W (qB F B (.setF ca k cs ce))):=by
 subst hf;refine PS.imp (L2.ps_fld ho he hs) fun E U H t=>?_;obtain ⟨Y,env,h,s,r,p⟩:=t;dsimp only[qB] at p;refine⟨Y,env,h,s,r,PostS.ofR s p fun Y1 h1 d H1 e1 r1 q v hv=>⟨Y1,env,h1,s.mono e1,r1,?_⟩⟩;have q:PostS X.K W E Y1 H1 (SR.ofR env ((den F ca env h1).bind fun x g=>aW k cs d x g) fun _ h2=>.nx env h2):=q;cases z:den F ca env h1 with
 |ok x h2=>
  rw[z] at q;have q:PostS X.K W E Y1 H1 (SR.ofR env (aW k cs d x h2) fun _ h2=>.nx env h2):=q;intro Y2 H2 e2 r2 vx hvx;cases x with
  |ref i=>
   have q:PostS X.K W E Y1 H1 (SR.ofR env (match h2[i]? with | some (.ins c fs)=>if cs.contains c=true/\fs.length<1000 then .ok () (h2.set i (.ins c (zP k d fs))) else .bad | _=>.bad) fun _ h2=>.nx env h2):=q;cases hi:h2[i]? with
   |none=>rw[hi] at q;cases q
   |some ob=>
    rw[hi] at q;cases ob with
    |ins c fs=>
     have q:PostS X.K W E Y1 H1 (SR.ofR env (if cs.contains c=true/\fs.length<1000 then .ok () (h2.set i (.ins c (zP k d fs))) else .bad) fun _ h2=>.nx env h2):=q
     by_cases hc:cs.contains c=true/\fs.length<1000
     ·rw[if_pos hc] at q;obtain ⟨a,ha,C,dx,vs,k1,k2,k3,k4⟩:=r2.obj i _ hi;obtain ⟨a',ha',rfl⟩:=hvx;rw[ha] at ha';cases ha';have na:=hna c C hc.1 k1;have stp:Step Y2 H2 Y2 (upd H2 a (.ins C dx (L2.putF (qD k) v vs))):=Step.turn k3 rfl (List.mem_of_getElem? ha);refine⟨a,C,dx,vs,rfl,k3,k2,na,by rw[k4.len];exact hc.2,?_⟩;have rf:=k4.put hk na (hv.mono e2 _ _);exact q Y2 _ U (e2.trans stp) (r2.setO hi rfl rfl ha k3 rfl ⟨C,dx,_,k1,k2,qI,rf.mono stp _ _⟩) ((s.mono e1).mono (e2.trans stp))
     ·rw[if_neg hc] at q;cases q
    |_=>exact (show False from q).elim
  |_=>exact (show False from q).elim
 |exc c h2=>rw[z] at q;exact fun Y' H' e' r'=>q Y' H' U e' r' ((s.mono e1).mono e')
 |bad=>rw[z] at q;exact q
end
section
variable {X:Cx}{F:Nat->List D->M D}{B:Nat}{W:WX}{ex:Nat->Option Addr}{k:Nat}
def eL(X:Cx)(F:Nat->List D->M D)(k:Nat)(ex:Nat->Option Addr)(m:Str)(tb:List (Nat × Nat)):Prop:=
 ∀ cc fi C,tbN tb cc=some fi->zK X.K cc C->L2.Cls X.K C/\∃ f fd ps,L2.Meth X.K C m f/\L2.Binds X.K fd ps []/\L2.FnOk X.prog X.w X.K X.mg X.base (CXD X.prog X.w ex) k f fd ps (spD X.K (F fi))
def mQ(X:Cx)(F:Nat->List D->M D)(W:WX)(U:L2.St)(env:Env)(mk:Nat)(tb:List (Nat × Nat))(cl:CL)(Q:VK):VK:=fun x H1=>
 ∃ Y h d,RepS X.K Y H1 env U/\RepH X.K Y h H1/\RepV X.K Y H1 d x/\PostV X.K (W.at U) Q Y H1 (((hZ mk d).bind fun c=>match tbN tb c with | some f=>(zA F cl env).bind fun xs=>F f (d::xs) | none=>M.bad) h)
theorem qBl(st:RepS X.K Y H env U)(p:PostV X.K (W.at U) Q Y H (den F (.meth mk tb ca cl) env h)) :
  PostV X.K (W.at U) (mQ X F W U env mk tb cl Q) Y H (den F ca env h):=by
 dsimp only[den] at p;exact Post.bind p fun Y1 h1 d H1 e1 r1 q v hv=>⟨Y1,h1,d,st.mono e1,r1,hv,q⟩
theorem qBm(hm:eL X F k ex m tb)(hn:m=qD mk)(hb:mk<256 ^ 60)(q:mQ X F W U env mk tb cl Q x H1) :
  ∃ a C dx vs f fd ps Y h d,x=.ref a/\H1 a=some (.ins C dx vs)/\vs.lookup m=none/\L2.Cls X.K C/\L2.Meth X.K C m f/\L2.Binds X.K fd ps []/\RepS X.K Y H1 env U/\RepH X.K Y h H1/\RepV X.K Y H1 d x /\
   ∃ fi,L2.FnOk X.prog X.w X.K X.mg X.base (CXD X.prog X.w ex) k f fd ps (spD X.K (F fi))/\PostV X.K (W.at U) Q Y H1 ((zA F cl env).bind (fun xs=>F fi (d::xs)) h):=by
 obtain ⟨Y,h,d,st,r,hd,p⟩:=q;cases d with
 |ref i=>
  have p:PostV X.K (W.at U) Q Y H1 ((match h[i]? with | some (.ins c fs)=>if (qL mk fs).isNone then R.ok c h else .bad | _=>.bad).bind fun c g=>(match tbN tb c with | some f=>(zA F cl env).bind fun xs=>F f (.ref i::xs) | none=>M.bad) g):=p;cases hi:h[i]? with
  |none=>rw[hi] at p;cases p
  |some ob=>
   rw[hi] at p;cases ob with
   |ins c fs=>
    cases g:qL mk fs with
    |some _=>rw[show (match some (O.ins c fs) with | some (.ins c fs)=>if (qL mk fs).isNone then R.ok c h else .bad | _=>.bad)=(if (qL mk fs).isNone then R.ok c h else .bad) from rfl,g] at p;cases p
    |none=>
     rw[show (match some (O.ins c fs) with | some (.ins c fs)=>if (qL mk fs).isNone then R.ok c h else .bad | _=>.bad)=(if (qL mk fs).isNone then R.ok c h else .bad) from rfl,g] at p;have p:PostV X.K (W.at U) Q Y H1 ((match tbN tb c with | some f=>(zA F cl env).bind fun xs=>F f (.ref i::xs) | none=>M.bad) h):=p;obtain ⟨a,ha,C,dx,vs,k1,k2,k3,k4⟩:=r.obj i _ hi;obtain ⟨a',ha',rfl⟩:=id hd;rw[ha] at ha';cases ha';cases ht:tbN tb c with
     |none=>rw[ht] at p;cases p
     |some fi=>rw[ht] at p;obtain ⟨_,f,fd,ps,m1,m2,m3⟩:=hm c fi C ht k1;refine⟨a,C,dx,vs,f,fd,ps,Y,h,.ref i,rfl,k3,?_,k2,m1,m2,st,r,hd,fi,m3,p⟩;rw[hn];exact k4.none hb g
   |_=>exact False.elim p
 |_=>exact False.elim p
theorem qAS(hd:RepV X.K Y1 H1 d x)(p:PostV X.K (W.at U) Q Y1 H1 ((zA F cl env).bind (fun xs=>F fi (d::xs)) h1)) :
  Post X.K (W.at U) (fun Y' H' ds=>∀ vs,RepL X.K Y' H' ds vs->spD X.K (F fi) (x::vs) H' Q fun _ co H'=>∃ c,co=some c/\W c U H') Y1 H1 (zA F cl env h1):=
 Post.bind p fun Y2 h2 ds H2 e2 r2 q vs hvs=>⟨Y2,h2,d::ds,r2,⟨x,vs,rfl,hd.mono e2 _ _,hvs⟩,by
  cases z:F fi (d::ds) h2 with
  |ok a g=>rw[z] at q;exact q
  |exc c g=>rw[z] at q;exact fun Y' H' e' r' _=>⟨c,rfl,q Y' H' e' r'⟩
  |bad=>rw[z] at q;exact q⟩
theorem qDJ(hbase:attributeBase o m env (eval o env)=eval o env)(hline:(apos.endLine == pos.line)=true)
  (hfew:methodCallForm (args.length+([]:List Keyword).length) (backTo pos (starEach args env)) (backToKw pos (keywordEach [] env))=true) :
  eval (.Call (.Attribute o m apos) args [] pos) env=(do
   let ov <- eval o env
   standAt apos.atName
   let (f,first) <- holding [ov] (getMethod ov m (do return (<- importBound o env).getD true))
   callWith pos f first (backTo pos (starEach args env)) (backToKw pos (keywordEach [] env))):=by
 rw[arm_eval_Call,hbase];unfold methodCall;rw[hfew];unfold calleeOf methodCallPos;simp only[hline,Bool.not_true,Bool.false_or,if_true];rfl
theorem qNL(hm:eL X F k ex m tb)(hn:m=qD mk)(hb:mk<256 ^ 60)(hr:L2.Room k X.A)
  (hxc:∀ pins U H s0 e s',Inv X pins U H s0->CXD X.prog X.w ex X.stack H s0 (fun _ co H'=>∃ c,co=some c/\W c U H') e s'->X.xe e s')
  (ho:PE X o (tD X.K W (den F ca))) (ha:PA X (e::es) (tDL X.K W (zA F cl))) (hbase:attributeBase o m X.env (eval o X.env)=eval o X.env) (hline:(apos.endLine == pos.line)=true)
  (hfew:methodCallForm ((e::es).length+([]:List Keyword).length) (backTo pos (starEach (e::es) X.env)) (backToKw pos (keywordEach [] X.env))=true)
  (hst:starEach (e::es) X.env=(false,eval e X.env)::starEach es X.env) (hpl:(backTo pos (starEach es X.env)).any (·.1)=false) :
  PE X (.Call (.Attribute o m apos) (e::es) [] pos) (tD X.K W (den F (.meth mk tb ca cl))):=by
 intro pins s U H Q I t;obtain ⟨Y,env,h,st,r,p⟩:=t;refine PySem.W.methodCall_KW (thn (ho pins s U H (mQ X F W U env mk tb cl Q) I ⟨Y,env,h,st,r,qBl st p⟩) fun u s1 z=>?_) (qDJ hbase hline hfew);obtain ⟨x,H1,I1,rx,q⟩:=z;obtain ⟨a,C,dx,vs,f,fd,ps,Y1,h1,d,rfl,hH,hl,hc,hmt,hbi,st1,r1,hd,fi,FO,p1⟩:=qBm hm hn hb q;obtain rfl:u=Value.ref a:=rx;refine L2.getmeth_ok I1 hH hc hmt hl ?_;refine PySem.W.callWith_K (first:=[.ref a]) (h₀:=X.base) I.ok.mod.kin hmt.kp (thn (ha pos pins s1 U H1 _ I1 ⟨Y1,env,h1,st1,r1,qAS hd p1⟩) fun us s2 ⟨vs2,H2,I2,r2,q2⟩=>⟨I2.kIn,?_⟩) hst hpl;exact bB (us:=.ref a::us) (vs:=.ref a::vs2) FO hr hbi (fun e s' z=>hxc pins U H2 s2 e s' I2 z) I2 (.cons rfl r2) q2
theorem qNK(hm:eL X F k ex m tb)(hn:m=qD mk)(hb:mk<256 ^ 60)(hr:L2.Room k X.A)
  (hxc:∀ pins U H s0 e s',Inv X pins U H s0->CXD X.prog X.w ex X.stack H s0 (fun _ co H'=>∃ c,co=some c/\W c U H') e s'->X.xe e s')
  (ho:PE X o (tD X.K W (den F ca))) (hbase:attributeBase o m X.env (eval o X.env)=eval o X.env) (hline:(apos.endLine == pos.line)=true):PE X (.Call (.Attribute o m apos) [] [] pos) (tD X.K W (den F (.meth mk tb ca .nil))):=by
 intro pins s U H Q I t;obtain ⟨Y,env,h,st,r,p⟩:=t;refine PySem.W.methodCall_KW (thn (ho pins s U H (mQ X F W U env mk tb .nil Q) I ⟨Y,env,h,st,r,qBl st p⟩) fun u s1 z=>?_) (qDJ hbase hline rfl);obtain ⟨x,H1,I1,rx,q⟩:=z;obtain ⟨a,C,dx,vs,f,fd,ps,Y1,h1,d,rfl,hH,hl,hc,hmt,hbi,st1,r1,hd,fi,FO,p1⟩:=qBm hm hn hb q;obtain rfl:u=Value.ref a:=rx;refine L2.getmeth_ok I1 hH hc hmt hl ?_;have q2:=Post.ret (a:=([]:List D)) (h:=h1) (qAS (cl:=.nil) hd p1) r1 [] rfl;exact PySem.W.callWith_K0 (first:=[.ref a]) I1.kIn hmt.kp (bB (us:=[.ref a]) (vs:=[.ref a]) FO hr hbi (fun e s' z=>hxc pins U H1 s1 e s' I1 z) I1 (.cons rfl .nil) q2)
theorem qAj(M:L2.Mk X.K C f)(F:L2.FnOk X.prog X.w X.K X.mg X.base (CXD X.prog X.w ex) k f fd ps sp)(hr:L2.Room (k+1) X.A)(hb:L2.Binds X.K fd ps ds)(hd:Vals dvs ds)
  (hx:∀ pins H s e s',Inv X pins U H s->CXD X.prog X.w ex X.stack H s E e s'->X.xe e s') (I:Inv X pins U H s) (r:Vals vs us)
  (h:∀ x dx,H x=none->H dx=none->dx≠x->sp (.ref x::(vs++dvs)) (upd (upd H dx (.own x)) x (.ins C dx [])) (fun v H2=>v=.non/\Q (.ref x) H2) E) :
  wpAny (model X.prog X.w) X.A (call (.ref C) us) (EP X pins U Q) X.xe s:=by
 have hq:=h (s.heap.objs.size+1) s.heap.objs.size (I.hok.fresh (Nat.le_succ _)) (I.hok.fresh (Nat.le_refl _)) (Nat.ne_of_lt (Nat.lt_succ_self _));have I2:=L2.Inv.made (C:=C) I;have r2:Vals (V.ref (s.heap.objs.size+1)::(vs++dvs)) (Value.ref (s.heap.objs.size+1)::(us++ds)):=.cons rfl (r.append hd)
 have hl:(Value.ref (s.heap.objs.size+1)::us++ds).length=ps.length:=by
  have e:=r2.length;rw[F.len _ _ _ _ hq] at e;exact e.symm
 refine wpAny_call (L2.make_map (f:=f) I.kIn M.makes M.init (beq_iff_eq.mp M.fn) (codeAny_mono (F.run _ X.stack _ _ ⟨Value.ref (s.heap.objs.size+1)::us,[]⟩ (Value.ref (s.heap.objs.size+1)::(us++ds)) _ _ E (hr.make C us [])
  (I2.env0.make C us []) (hb _ (Value.ref (s.heap.objs.size+1)::us) I2.kIn hl) r2 hq) fun r s' hq'=>?_))
 cases r with
 |error e=>exact hx pins _ _ e s' I2 hq'
 |ok fl=>
  cases fl with
  |ret u=>
   obtain ⟨v,H',I3,rv,ev,q3⟩:=I2.after hq';subst ev
   exact⟨rv,⟨V.ref (s.heap.objs.size+1),H',I3,rfl,q3⟩⟩
  |next=>cases hq'
  |brk=>cases hq'
  |cont=>cases hq'
theorem qBW(hc:zK X.K c C)(hcl:L2.Cls X.K C)(r:RepH X.K Y1 h1 H1)(hl:RepL X.K Y1 H1 ds vs)
  (p:PostV X.K w Q Y1 H1 (iB F c fi ds h1)):∀ x dx,H1 x=none->H1 dx=none->dx≠x ->
  spD X.K (F fi) (.ref x::(vs++[])) (upd (upd H1 dx (.own x)) x (.ins C dx [])) (fun v H2=>v=.non/\Q (.ref x) H2) fun _ co H'=>∃ c,co=some c/\w c H':=by
 intro x dx hx hdx ne;rw[List.append_nil];have hx':upd H1 dx (.own x) x=none:=by rw[qE (Ne.symm ne)];exact hx
 have s1:Step Y1 H1 Y1 (upd H1 dx (.own x)):=Step.fresh hdx;have s2:Step Y1 (upd H1 dx (.own x)) (Y1++[x]) (upd (upd H1 dx (.own x)) x (.ins C dx [])):=Step.new1 hx';have r2:RepH X.K (Y1++[x]) (h1++[.ins c []]) (upd (upd H1 dx (.own x)) x (.ins C dx [])):=(r.fresh hdx).newO hx' ⟨C,dx,[],hc,hcl,qI,rfl⟩;have hi:(Y1++[x])[h1.length]?=some x:=by rw[<- r.len,List.getElem?_append_right (Nat.le_refl _)];simp
 refine⟨Y1++[x],h1++[.ins c []],.ref h1.length::ds,r2,⟨.ref x,vs,rfl,⟨x,hi,rfl⟩,hl.mono (s1.trans s2) _ _⟩,?_⟩;have p:PostV X.K w Q Y1 H1 ((F fi (.ref h1.length::ds) (h1++[.ins c []])).bind fun d h'=>match d with | .non=>.ok (.ref h1.length) h' | _=>.bad):=p;cases z:F fi (.ref h1.length::ds) (h1++[.ins c []]) with
 |ok d g=>
  rw[z] at p;cases d with
  |non=>intro Y' H' e' r' v hv;refine⟨hv,?_⟩;have e2:=(s1.trans s2).trans e';exact p Y' H' e2 r' (.ref x) ⟨x,vE e'.pre hi,rfl⟩
  |_=>exact False.elim p
 |exc cc g=>rw[z] at p;exact fun Y' H' e' r' _=>⟨cc,rfl,p Y' H' ((s1.trans s2).trans e') r'⟩
 |bad=>rw[z] at p;exact p
theorem qNN (hg:L2.Gl X y) (hdb:(y == ("__debug__":Str))=false) (hmg:X.mg y=some (.ref C)) (hc:zK X.K c C) (hcl:L2.Cls X.K C) (M:L2.Mk X.K C f)
  (hb:L2.Binds X.K fd ps []) (FO:L2.FnOk X.prog X.w X.K X.mg X.base (CXD X.prog X.w ex) k f fd ps (spD X.K (F fi))) (hr:L2.Room (k+1) X.A)
  (hxc:∀ pins U H s0 e s',Inv X pins U H s0->CXD X.prog X.w ex X.stack H s0 (fun _ co H'=>∃ c,co=some c/\W c U H') e s'->X.xe e s')
  (ha:PA X (e::es) (tDL X.K W (zA F cl))) (hst:starEach (e::es) X.env=(false,eval e X.env)::starEach es X.env) (hpl:(backTo pos (starEach es X.env)).any (·.1)=false) :
  PE X (.Call (.Name y p1) (e::es) [] pos) (tD X.K W (den F (.make c fi cl))):=by
 intro pins s U H Q I t;obtain ⟨Y,env,h,st,r,p⟩:=t;dsimp only[den] at p;refine wpAny_Call_Name_kw (L2.ld_glob I hg hmg ?_ hdb)
 refine PySem.W.callWith_K (h₀:=X.base) I.ok.mod.kin M.kp (thn (ha pos pins s U H (fun vs H1=>∀ x dx,H1 x=none->H1 dx=none->dx≠x->spD X.K (F fi) (.ref x::(vs++[])) (upd (upd H1 dx (.own x)) x (.ins C dx [])) (fun v H2=>v=.non/\Q (.ref x) H2) fun _ co H'=>∃ c,co=some c/\W c U H') I
  ⟨Y,env,h,st,r,Post.bind p fun Y1 h1 ds H1 e1 r1 q vs hvs=>qBW hc hcl r1 hvs q⟩) fun us s1 ⟨vs,H1,I1,rv,q⟩=>⟨I1.kIn,?_⟩) hst hpl
 exact qAj M FO hr hb .nil (fun pins H s e s' I z=>hxc pins U H s e s' I z) I1 rv q
theorem qNM (hg:L2.Gl X y) (hdb:(y == ("__debug__":Str))=false) (hmg:X.mg y=some (.ref C)) (hc:zK X.K c C) (hcl:L2.Cls X.K C) (M:L2.Mk X.K C f)
  (hb:L2.Binds X.K fd ps []) (FO:L2.FnOk X.prog X.w X.K X.mg X.base (CXD X.prog X.w ex) k f fd ps (spD X.K (F fi))) (hr:L2.Room (k+1) X.A)
  (hxc:∀ pins U H s0 e s',Inv X pins U H s0->CXD X.prog X.w ex X.stack H s0 (fun _ co H'=>∃ c,co=some c/\W c U H') e s'->X.xe e s') :
  PE X (.Call (.Name y p1) [] [] pos) (tD X.K W (den F (.make c fi .nil))):=by
 intro pins s U H Q I t;obtain ⟨Y,env,h,st,r,p⟩:=t;dsimp only[den,zA] at p;refine wpAny_Call_Name_kw (L2.ld_glob I hg hmg ?_ hdb);exact PySem.W.callWith_K0 I.kIn M.kp (qAj (us:=[]) (vs:=[]) M FO hr hb .nil (fun pins H s e s' I z=>hxc pins U H s e s' I z) I .nil (qBW (ds:=[]) hc hcl r rfl p))
end
section
variable {X:Cx}{F:Nat->List D->M D}{B:Nat}{W:WX}
theorem qKy(n:Nat)(i:Int):L2.ixN n i=ixN n i:=rfl
theorem RepL.set{K:PySem.W.Frag}(hv:RepV K Y H d v):∀ {ds:List D} {vs:List V} (n:Nat),RepL K Y H ds vs->RepL K Y H (ds.set n d) (vs.set n v)
 | [],_,n,h=>by cases h;simp[RepL]
 |x::ds,_,0,⟨u,r,h1,h2,h3⟩=>by subst h1;exact⟨v,r,rfl,hv,h3⟩
 |x::ds,_,n+1,⟨u,r,h1,h2,h3⟩=>by subst h1;exact⟨u,r.set n v,rfl,h2,RepL.set hv n h3⟩
def qAt:V->V->V->Hp->(Hp->Prop)->Prop:=fun o i v H Q=>L2.rSetL o i v H Q\/∃ a vs k,o=.ref a/\i=L2.kV k/\H a=some (.dK vs)/\vs.length<sizeLine/\Q (upd H a (.dK (L2.putK vs k v)))
theorem qGV:L2.PSet X qAt:=by
 intro pins s U H o i v ov iv u Q I ro ri rv h;rcases h with h | ⟨a,vs,k,rfl,rfl,hH,hl,q⟩
 ·exact L2.set_list pins s U H o i v ov iv u Q I ro ri rv h
 ·cases ro;exact qMr I hH hl ri rv fun s' I'=>⟨_,I',q⟩
theorem fQ(s:RepS X.K Y H env U)(e:Step Y H Y3 H3)(r3:RepH X.K Y3 h3 H3)(hvx:RepV X.K Y3 H3 (.ref k) vx)(hvy:RepV X.K Y3 H3 (kyD ky) vy)(hv:RepV X.K Y3 H3 d v)
  (q:PostS X.K W E Y H (SR.ofR env (kN d k ky h3) fun _ h2=>.nx env h2)):qAt vx vy v H3 fun H'=>E.nx U H':=by
 have q:PostS X.K W E Y H (SR.ofR env (match h3[k]? with | some (.dct kvs)=>(if kvs.length<16777216 then .ok () (h3.set k (.dct (zE kvs ky d))) else .bad) | _=>.bad) fun _ h2=>.nx env h2):=q;cases hk:h3[k]? with
 |none=>rw[hk] at q;cases q
 |some ob=>
  rw[hk] at q;cases ob with
  |dct kvs=>
   by_cases z:kvs.length<16777216
   ·have q:PostS X.K W E Y H (SR.ofR env (if kvs.length<16777216 then .ok () (h3.set k (.dct (zE kvs ky d))) else .bad) fun _ h2=>.nx env h2):=q;rw[if_pos z] at q;obtain ⟨a,vs,rfl,ha,hH,hl⟩:=r3.dict hk hvx;have hy:=bQ hvy;subst hy;have stp:Step Y3 H3 Y3 (upd H3 a (.dK (L2.putK vs (kyV ky) v))):=Step.turn hH rfl (List.mem_of_getElem? ha);refine .inr ⟨a,vs,kyV ky,rfl,rfl,hH,by rw[<- hl.length,zF];exact z,?_⟩;exact q Y3 _ U (e.trans stp) (r3.setDict hk ha hH (hl.put ky hv)) (s.mono (e.trans stp))
   ·have q:PostS X.K W E Y H (SR.ofR env (if kvs.length<16777216 then .ok () (h3.set k (.dct (zE kvs ky d))) else .bad) fun _ h2=>.nx env h2):=q;rw[if_neg z] at q;cases q
  |_=>exact (show False from q).elim
theorem qGf(ho:PE X o (tD X.K W (den F ca)))(hi:PE X i (tD X.K W (den F ci)))(he:PE X e (tD X.K W (den F ce)))(ha:∀ v,assign (.Subscript o i pos') X.env v=(do
      let ov <- holding [v] (eval o X.env)
      let iv <- holding [v,ov] (eval i X.env)
      standAt pos'
      holding [v,ov,iv] (setItem ov iv v)
      release [v,ov,iv] [])) (hs:swapsWithSole [.Subscript o i pos'] e pos.line X.env=pure false) (hw:swappedStores [.Subscript o i pos'] e X.env=pure none):PS X (.Assign [.Subscript o i pos'] e pos) (tDS X.K W (qB F B (.setIx ca ci ce))):=by
  refine PS.imp (L2.ps_asg he (L2.pg_sub ho hi qGV ha) hs hw) fun E U H t=>?_;obtain ⟨Y,env,h,s,r,p⟩:=t;dsimp only[qB] at p;refine⟨Y,env,h,s,r,PostS.ofR s p fun Y1 h1 d H1 e1 r1 q v hv=>⟨Y1,env,h1,s.mono e1,r1,?_⟩⟩;have q:PostS X.K W E Y1 H1 (SR.ofR env ((den F ca env h1).bind fun x g=>((den F ci env).bind fun y=>uQ d x y) g) fun _ h2=>.nx env h2):=q;cases z:den F ca env h1 with
  |ok x h2=>
    rw[z] at q;have q:PostS X.K W E Y1 H1 (SR.ofR env ((den F ci env h2).bind fun y g=>uQ d x y g) fun _ h2=>.nx env h2):=q;intro Y2 H2 e2 r2 vx hvx;refine⟨Y2,env,h2,(s.mono e1).mono e2,r2,?_⟩;cases z2:den F ci env h2 with
    |ok y h3=>
      rw[z2] at q;have q:PostS X.K W E Y1 H1 (SR.ofR env (uQ d x y h3) fun _ h2=>.nx env h2):=q;intro Y3 H3 e3 r3 vy hvy;cases x with
      |ref k=>
        cases y with
        |int j=>
          have q:PostS X.K W E Y1 H1 (SR.ofR env (match h3[k]? with | some (.lst xs)=>(match ixN xs.length j with | some p=>.ok () (h3.set k (.lst (xs.set p d))) | none=>.bad) | _=>kN d k (.int j) h3) fun _ h2=>.nx env h2):=q;have e13:=e2.trans e3;cases hk:h3[k]? with
          |none=>rw[hk] at q;exact fQ (ky:=.int j) (s.mono e1) e13 r3 (hvx.mono e3 _ _) hvy (hv.mono e13 _ _) q
          |some ob=>
            rw[hk] at q;cases ob with
            |lst xs=>
              have q:PostS X.K W E Y1 H1 (SR.ofR env (match ixN xs.length j with | some p=>.ok () (h3.set k (.lst (xs.set p d))) | none=>.bad) fun _ h2=>.nx env h2):=q;cases hx:ixN xs.length j with
              |none=>rw[hx] at q;cases q
              |some n=>rw[hx] at q;cases hvy;obtain ⟨a,vs,rfl,ha',hH,hl⟩:=r3.own hk (hvx.mono e3 _ _);have stp:Step Y3 H3 Y3 (upd H3 a (.lst (vs.set n v))):=Step.turn hH rfl (List.mem_of_getElem? ha');refine .inl ⟨a,vs,j,n,rfl,rfl,hH,by rw[qKy,hl.length];exact hx,?_⟩;exact q Y3 _ U (e13.trans stp) (r3.setList hk ha' hH (RepL.set ((hv.mono e13 _ _)) n hl)) ((s.mono e1).mono (e13.trans stp))
            |_=>exact fQ (ky:=.int j) (s.mono e1) e13 r3 (hvx.mono e3 _ _) hvy (hv.mono e13 _ _) q
        |str j=>exact fQ (ky:=.str j) (s.mono e1) (e2.trans e3) r3 (hvx.mono e3 _ _) hvy (hv.mono (e2.trans e3) _ _) q
        |_=>exact (show False from q).elim
      |_=>exact (show False from q).elim
    |exc c h3=>rw[z2] at q;exact fun Y' H' e' r'=>q Y' H' U (e2.trans e') r' ((s.mono e1).mono (e2.trans e'))
    |bad=>rw[z2] at q;exact q
  |exc c h2=>rw[z] at q;exact fun Y' H' e' r'=>q Y' H' U e' r' ((s.mono e1).mono e')
  |bad=>rw[z] at q;exact q
end
open L2 (V Hp HO VK TE TT TA TS TI Cx Inv RelV Vals SqL SqT Rd upd qI qE PE PT PA PS PSs EP OpR qM IxR MtR SlR PO TO PI PG PIE Turn qT Ends)
inductive GK where
 |fn (i:Nat) | con (d:D) | blt | exc (c:Nat) | cls (c f:Nat)
structure Cc where
 N:List Str
 sc:Scope
 G:List (Str × GK)
 xs:List (Nat × List Nat)
 calm:Bool
 rs:Bool
 M:List (Str × Nat × List (Nat × Nat))
 A:List (Str × Nat × List Nat)
def Cc.slot(c:Cc)(x:Str):Option Nat:=match c.sc.names.lookup x with
 |some .local=>if x == "__debug__" || x == "__classdict__" then none else c.N.idxOf? x
 |some .cell=>if x == "__debug__" || x == "__classdict__" then none else c.N.idxOf? x
 |some .free=>if x == "__debug__" || x == "__classdict__" then none else c.N.idxOf? x
 |_=>none
def Cc.own(c:Cc)(x:Str):Option Nat:=match c.sc.names.lookup x with
 |some .local=>c.N.idxOf? x
 |some .cell=>c.N.idxOf? x
 |_=>none
def Cc.glob(c:Cc)(x:Str):Option GK:=match c.sc.names.lookup x with
 |some .globalImplicit=>if x == "__debug__" || x == "__name__" then none else c.G.lookup x
 |_=>none
def Cc.isB(c:Cc)(x:Str):Bool:=match c.glob x with
 |some .blt=>true
 |_=>false
def Cc.isX(c:Cc)(y:Str):Option (List Nat × List Nat):=match c.xs.lookup 1 with
 |some xl=>match c.glob y with
  |some (.exc i)=>(c.xs.lookup i).map fun cs=>(cs,xl)
  |some .blt=>if y="ValueError" then (c.xs.lookup 0).map fun cs=>(cs,xl) else none
  |_=>none
 |none=>none
def Cc.loc(c:Cc)(x:Str):Option Nat:=match c.sc.names.lookup x with
 |some .local=>c.N.idxOf? x
 |_=>none
def qDT:Const->Option CE
 | .none=>some (.lit .non)
 | .bool b=>some (.lit (.bl b))
 | .int i=>some (.lit (.int i))
 | .str s=>some (.lit (.str s.cps.toList))
 |_=>none
def qDd:Operator->Option Bi
 | .Add=>some .add | .Sub=>some .sub | .Mult=>some .mul | .FloorDiv=>some .fdiv | .Mod=>some .mod
 |_=>none
def cS:CmpOp->Option Bi
 | .Eq=>some .eq | .NotEq=>some .ne | .Lt=>some .lt | .LtE=>some .le | .Gt=>some .gt | .GtE=>some .ge | .In=>some .isin | .NotIn=>some .notin
 |_=>none
def bi1(x:Str):Option Un:=if x="len" then some .len else if x="ord" then some .ord else if x="str" then some .str else if x="int" then some .int else if x="tuple" then some .tuple else none
def pM(x:Str):Option Un:=if x="all" then some .all else if x="sorted" then some .sorted else if x="dict" then some .dictl else none
def bi2(x:Str):Option Bi:=if x="min" then some .min2 else if x="max" then some .max2 else none
def tyN(x:Str):Option Ty:=if x="int" then some .int else if x="str" then some .str else if x="bool" then some .bool else if x="list" then some .list else if x="tuple" then some .tuple else none
def me1(x:Str):Option Bi:=if x="append" then some .append else if x="zfill" then some .zfill else if x="join" then some .join else if x="get" then some .get else if x="pop" then some .pop else if x="split" then some .split else if x="partition" then some .part else if x="rpartition" then some .rpart else if x="extend" then some .extend else if x="update" then some .update else none
def qX:Expr->Bool
 | .Starred _ _=>false
 |_=>true
def bJ:Expr->Bool
 | .Slice _ _ _ _=>false
 |_=>true
def kT:Expr->Bool
 | .Call (.Name _ _) [] [] _=>false
 |_=>true
def qA1:Expr->Bool
 | .UnaryOp _ _ _=>false
 | .BoolOp _ _ _=>false
 | .IfExp _ _ _ _=>false
 | .Compare _ _ _ _=>false
 |_=>true
def uV:Expr->Bool
 | .Set _ _ _=>false
 |_=>true
def isNone:Expr->Bool
 | .Constant .none _ _=>true
 |_=>false
def qAo(scope sc:Scope):Scope:={ scope with names:=scope.names.map fun (n,k)=>if (k == .free&&sc.kind == .function&&sc.names.lookup n == some .cell) then (n,.cell) else (n,k) }
def Cc.inner(c:Cc)(x:Str)(scope:Scope):Cc:=⟨jM c.N x++[x],qAo scope c.sc,c.G,c.xs,c.calm,false,c.M,c.A⟩
def Cc.compOk(c:Cc)(x:Str)(scope:Scope):Bool:=
 decide (scope.kind=.function)&&scope.names.all (fun y=>decide (y.2≠.cell))&&scope.names.all (fun y=>decide (y.2=.local->scope.names.lookup y.1=some .local))&&decide (scope.names.lookup x=some .local)
 &&scope.names.all (fun y=>decide (y.2=.free->c.sc.names.lookup y.1=some .cell\/c.sc.names.lookup y.1=some .free))&&(decide (x≠noN)&&(decide (x∉c.N) || (decide (noN∉c.N)&&decide (scope.names.lookup noN=none))))&&scope.names.all (fun y=>decide (y.1≠x->y.2=.local->y.1∉c.N))
def qO{α:Type}(b:Bool)(x:α):Option α:=match b with
 |true=>some x
 |false=>none
theorem qS{α:Type}{x r:α}(h:qO b x=some r):b=true/\x=r:=by
 cases b with
 |true=>exact⟨rfl,Option.some.inj h⟩
 |false=>cases h
theorem qC{α β:Type}{o:Option α}{f:α->Option β}{r:β}(h:o.bind f=some r):∃ a,o=some a/\f a=some r:=by
 cases o with
 |none=>cases h
 |some a=>exact⟨a,rfl,h⟩
structure Rc where
 e:Cc->Expr->Option CE
 cmp:Cc->Expr->CmpOp->Expr->Option CE
 b:Cc->Str->List Expr->Option CE
 l:Cc->List Expr->Option CL
 o:Cc->Option Expr->Option CP
 t:Cc->Expr->Option CT
 tb:Cc->BoolOp->List Expr->Option CT
 i:Cc->Expr->Option CI
def iU:Expr->Option (Option Expr × Option Expr)
 | .Slice lo hi st _=>match st with
  |none=>some (lo,hi)
  |some _=>none
 |_=>none
theorem qK6(h:iU b=some q):∃ p,b=.Slice q.1 q.2 none p:=by
 cases b with
 |Slice l u s p=>
  cases s with
  |none=>cases h;exact⟨p,rfl⟩
  |some _=>cases h
 |_=>cases h
def qK9:Expr->Bool
 | .Constant (.int i) _ _=>decide (i=1)
 |_=>false
def qLA:Expr->Bool
 | .UnaryOp .USub a _=>qK9 a
 |_=>false
def qCD:Expr->Bool
 | .Slice none none (some e) _=>qLA e
 |_=>false
def isF:Expr->Option Expr
 | .FormattedValue a cv sp _=>match sp with
  |none=>qO (decide (cv=-1)) a
  |some _=>none
 |_=>none
theorem qCH(h:isF b=some a):∃ p,b=.FormattedValue a (-1) none p:=by
 cases b with
 |FormattedValue v cv s p=>
  cases s with
  |none=>
   obtain ⟨h1,rfl⟩:=qS h;rw[of_decide_eq_true h1]
   exact⟨p,rfl⟩
  |some _=>cases h
 |_=>cases h
def isS:Expr->Option Str
 | .Constant k _ _=>match k with
  | .str s=>some s
  |_=>none
 |_=>none
theorem qCC(h:isS b=some s):∃ j p,b=.Constant (.str s) j p:=by
 cases b with
 |Constant k j p=>
  cases k with
  |str s=>cases h;exact⟨j,p,rfl⟩
  |_=>cases h
 |_=>cases h
def bW:Expr->Option Str
 | .Name x _=>some x
 |_=>none
theorem iX(h:bW b=some s):∃ p,b=.Name s p:=by
 cases b with
 |Name x p=>cases h;exact⟨p,rfl⟩
 |_=>cases h
structure Gn where
 x:Str
 p:Pos
 iter:Expr
 ifs:List Expr
def yT:List Comprehension->Option Gn
 | []=>none
 |g::r=>match r with
  | []=>match g.target with
   | .Name x p=>qO (decide (g.is_async=0)) ⟨x,p,g.iter,g.ifs⟩
   |_=>none
  |_::_=>none
theorem qCG(h:yT gs=some q):gs=[⟨.Name q.x q.p,q.iter,q.ifs,0⟩]:=by
 cases gs with
 |nil=>cases h
 |cons g r=>
  cases r with
  |cons _ _=>cases h
  |nil=>
   obtain ⟨t,it,f,a⟩:=g;cases t with
   |Name x p=>obtain ⟨h1,rfl⟩:=qS h;have h2:a=0:=of_decide_eq_true h1;subst h2;rfl
   |_=>cases h
def fF(c:Cc)(x:Str):Option CE:=match c.slot x with
 |some i=>some (.var i)
 |none=>match c.glob x with
  |some (.con d)=>some (.lit d)
  |_=>none
def sUn(r:Rc)(c:Cc)(a:Expr):UnaryOp->Option CE
 | .Not=>(r.e c a).bind fun x=>some (.not x)
 | .USub=>(r.e c a).bind fun x=>some (.un .neg x)
 |_=>none
def qAi(r:Rc)(c:Cc)(op:BoolOp)(pos:Pos):List Expr->Option CE
 | []=>none
 |a::es=>match es with
  | []=>r.e c a
  |b::es=>(r.e c a).bind fun x=>(r.e c (.BoolOp op (b::es) pos)).bind fun y=>some (match op with | .And=>.and x y | .Or=>.or x y)
def qAf(r:Rc)(c:Cc)(a:Expr)(op op':CmpOp)(b d:Expr):Option CE:=
 (cS op).bind fun o=>(cS op').bind fun p=>(r.e c a).bind fun x=>(r.e c b).bind fun y=>(r.e c d).bind fun z=>qO (!lastMarks [op,op'] [b,d]) (.chain o p x y z)
def fG(r:Rc)(c:Cc)(a:Expr)(ops:List CmpOp)(cs:List Expr):Option CE:=match ops with
 | []=>none
 |op::ops=>match cs with
  | []=>none
  |b::cs=>match ops with
   | []=>match cs with
    | []=>r.cmp c a op b
    |_::_=>none
   |op'::ops=>match ops with
    |_::_=>none
    | []=>match cs with
     | []=>none
     |d::cs=>match cs with
      | []=>qAf r c a op op' b d
      |_::_=>none
def fD(r:Rc)(c:Cc)(a b:Expr):Option CE:=match qCD b with
 |true=>none
 |false=>match iU b with
  |some q=>(r.e c a).bind fun x=>(r.o c q.1).bind fun l=>(r.o c q.2).bind fun u=>some (.sl x l u)
  |none=>(r.e c a).bind fun x=>(r.e c b).bind fun y=>qO (bJ b) (.bi .ix x y)
def qAg(r:Rc)(c:Cc)(x:Str)(es:List Expr):Option GK->Option CE
 |some (.fn i)=>match es with
  | []=>qO c.calm (.call i .nil)
  |e::es=>(r.l c (e::es)).bind fun l=>qO c.calm (.call i l)
 |some .blt=>r.b c x es
 |some (.cls k f)=>match es with
  | []=>qO c.calm (.make k f .nil)
  |e::es=>(r.l c (e::es)).bind fun l=>qO c.calm (.make k f l)
 |_=>none
def qAa(r:Rc)(c:Cc)(m:Str)(ok:Bool)(x:CE)(es:List Expr):Option (Nat × List (Nat × Nat))->Option CE
 |some q=>match es with
  | []=>qO (c.calm&&ok) (.meth q.1 q.2 x .nil)
  |e::es=>(r.l c (e::es)).bind fun l=>qO (c.calm&&ok&&decide (es.length<20)) (.meth q.1 q.2 x l)
 |none=>match es with
  | []=>none
  |b::es=>match es with
   | []=>(me1 m).bind fun o=>(r.e c b).bind fun y=>qO (ok&&qX b) (.me o x y)
   |d::es=>match es with
    | []=>match decide (m="setdefault") with
     |true=>(r.e c b).bind fun y=>(r.e c d).bind fun z=>qO (ok&&qX b&&qX d) (.setd x y z)
     |false=>match decide (m="get") with
      |true=>(r.e c b).bind fun y=>(r.e c d).bind fun z=>qO (ok&&qX b&&qX d) (.getd x y z)
      |false=>(r.e c b).bind fun y=>(r.e c d).bind fun z=>qO (ok&&qX b&&qX d&&decide (m="split")) (.splm x y z)
    |_::_=>none
def qAh(r:Rc)(c:Cc)(f:Expr)(es:List Expr)(ks:List Keyword)(p:Pos):Option CE:=match ks with
 |_::_=>none
 | []=>match f with
  | .Name x _=>qAg r c x es (c.glob x)
  | .Attribute a m ap=>(r.e c a).bind fun x=>qAa r c m (kT a&&(ap.endLine == p.line)) x es (c.M.lookup m)
  |_=>none
def qAb(r:Rc)(c:Cc):List Expr->Option CE
 | [f,k,g]=>(isF f).bind fun a=>(isS k).bind fun s=>(isF g).bind fun b=>(r.e c a).bind fun x=>(r.e c b).bind fun y=>some (.bi .add (.bi .add x (.lit (.str s.cps.toList))) y)
 |_=>none
def bA(r:Rc)(c:Cc)(elt:Expr)(scope:Scope)(q:Gn):Option CE:=match q.ifs with
 | []=>(r.i c q.iter).bind fun it=>(r.e (c.inner q.x scope) elt).bind fun y=>qO (c.calm&&c.compOk q.x scope) (.comp y it)
 |t::ts=>match ts with
  | []=>(r.i c q.iter).bind fun it=>(r.t (c.inner q.x scope) t).bind fun z=>(r.e (c.inner q.x scope) elt).bind fun y=>qO (c.calm&&c.compOk q.x scope) (.compIf y z it)
  |_::_=>none
def kK:Expr->Bool
 | .Name x _=>decide (x="sides"\/x="_law_come")
 | .Attribute _ f _=>decide (f="givers"\/f="takers")
 |_=>false
def fH(r:Rc)(c:Cc)(elt:Expr)(scope:Scope)(q:Gn):Option CE:=match q.ifs with
 | []=>(r.e c q.iter).bind fun d=>(r.e (c.inner q.x scope) elt).bind fun y=>qO (c.calm&&c.compOk q.x scope) (.compD y (.val (.lit (.bl true))) d)
 |t::ts=>match ts with
  | []=>(r.e c q.iter).bind fun d=>(r.t (c.inner q.x scope) t).bind fun z=>(r.e (c.inner q.x scope) elt).bind fun y=>qO (c.calm&&c.compOk q.x scope) (.compD y z d)
  |_::_=>none
def uR(r:Rc)(c:Cc)(elt:Expr)(scope:Scope)(gens:List Comprehension):Option CE:=match yT gens with
 |some q=>match kK q.iter with
  |true=>fH r c elt scope q
  |false=>bA r c elt scope q
 |none=>none
def qAp:Option Expr->Option Ky
 |none=>none
 |some e=>match e with
  | .Constant k _ _=>match k with
   | .str s=>some (.str s.cps.toList)
   | .int i=>some (.int i)
   |_=>none
  |_=>none
def fL:List (Option Expr)->Option (List Ky)
 | []=>some []
 |k::ks=>(qAp k).bind fun x=>(fL ks).bind fun xs=>some (x::xs)
def fK(r:Rc)(c:Cc):List Expr->Option CL
 | []=>some .nil
 |e::es=>(r.e c e).bind fun x=>(fK r c es).bind fun l=>some (.cons x l)
def qAd(r:Rc)(c:Cc)(keys:List (Option Expr))(values:List Expr):Option CE:=
 (fL keys).bind fun ks=>(fK r c values).bind fun l=>qO (decide (keys.length=values.length)&&decide (keys.length<=15)) (.disp ks l)
def eS(r:Rc)(c:Cc):Expr->Option CE
 | .Constant k _ _=>qDT k
 | .Name x _=>fF c x
 | .BinOp a op b _=>(qDd op).bind fun o=>(r.e c a).bind fun x=>(r.e c b).bind fun y=>some (.bi o x y)
 | .UnaryOp op a _=>sUn r c a op
 | .BoolOp op es pos=>qAi r c op pos es
 | .IfExp t a b _=>(r.t c t).bind fun z=>(r.e c a).bind fun x=>(r.e c b).bind fun y=>some (.ite z x y)
 | .Compare a ops cs _=>fG r c a ops cs
 | .Tuple es _ _=>(r.l c es).bind fun l=>some (.tup l)
 | .List es _=>(r.l c es).bind fun l=>some (.lst l)
 | .Subscript a b _=>fD r c a b
 | .Dict keys values _=>qAd r c keys values
 | .Call f es ks p=>qAh r c f es ks p
 | .Attribute a f _=>(c.A.lookup f).bind fun k=>(r.e c a).bind fun x=>qO (kT a) (.un (.fld k.1) x)
 | .JoinedStr es _=>qAb r c es
 | .ListComp elt gens scope _=>uR r c elt scope gens
 |_=>none
def sIs(u:Un)(v:Bool->Un)(x:CE)(b:Expr):Option CE:=match isNone b with
 |true=>some (.un u x)
 |false=>none
def qAe(r:Rc)(c:Cc)(a:Expr)(op:CmpOp)(b:Expr):Option CE:=(cS op).bind fun o=>(r.e c a).bind fun x=>(r.e c b).bind fun y=>qO (!behindInMarks op b) (.bi o x y)
def qDC(r:Rc)(c:Cc)(a:Expr)(op:CmpOp)(b:Expr):Option CE:=match op with
 | .Is=>(r.e c a).bind fun x=>sIs .isN .isB x b
 | .IsNot=>(r.e c a).bind fun x=>sIs .notN .nsB x b
 |op=>qAe r c a op b
def qAc(r:Rc)(c:Cc)(a:Expr)(y:Str):Option CE:=(r.e c a).bind fun z=>match tyN y with
 |some t=>qO (qX a&&c.isB y) (.un (.isi t) z)
 |none=>(c.isX y).bind fun q=>qO (qX a) (.un (.isx q.1 q.2) z)
def sB1(c:Cc)(x:Str)(a:Expr)(y:CE):Option CE:=match bi1 x with
 |some o=>qO (qX a) (.un o y)
 |none=>(pM x).bind fun o=>qO (qX a&&c.calm) (.un o y)
def sB2(r:Rc)(c:Cc)(x:Str)(a b:Expr):Option CE:=(bi2 x).bind fun o=>(r.e c a).bind fun u=>(r.e c b).bind fun v=>qO (qX a&&qX b&&c.calm) (.bi o u v)
def iW:Expr->Option (List Expr)
 | .Call f es ks _=>match ks with
  | []=>match f with
   | .Name x _=>qO (decide (x="range")) es
   |_=>none
  |_::_=>none
 |_=>none
theorem qK8 {e:Expr} {es:List Expr} (h:iW e=some es):∃ p q,e=.Call (.Name "range" p) es [] q:=by
 cases e with
 |Call f es ks q=>
  cases ks with
  |cons _ _=>cases h
  |nil=>
   cases f with
   |Name x p=>
    obtain ⟨h1,rfl⟩:=qS h;rw[of_decide_eq_true h1]
    exact⟨p,q,rfl⟩
   |_=>cases h
 |_=>cases h
def bS(r:Rc)(c:Cc)(x:Str):List Expr->Option CE
 | []=>none
 |a::es=>match es with
  | []=>(r.e c a).bind fun y=>sB1 c x a y
  |b::es=>match es with
   | []=>match decide (x="isinstance") with
    |true=>(bW b).bind fun y=>qAc r c a y
    |false=>sB2 r c x a b
   |_::_=>none
def lS(r:Rc)(c:Cc):List Expr->Option CL
 | []=>some .nil
 |e::es=>(r.e c e).bind fun x=>(r.l c es).bind fun l=>qO (qX e) (.cons x l)
def oS(r:Rc)(c:Cc):Option Expr->Option CP
 |none=>some .no
 |some e=>(r.e c e).bind fun x=>some (.at x)
def sT(r:Rc)(c:Cc)(e:Expr):Option CT:=(r.e c e).bind fun x=>qO (qA1 e) (.val x)
def tS(r:Rc)(c:Cc)(e:Expr):Option CT:=match e with
 | .UnaryOp op a _=>match op with
  | .Not=>(r.t c a).bind fun x=>some (.not x)
  |_=>none
 | .BoolOp op es _=>r.tb c op es
 | .Compare a ops cs _=>(fG r c a ops cs).bind fun x=>some (.val x)
 |e=>sT r c e
def tbS(r:Rc)(c:Cc)(op:BoolOp):List Expr->Option CT
 | []=>none
 |a::es=>match es with
  | []=>r.t c a
  |b::es=>(r.t c a).bind fun x=>(r.tb c op (b::es)).bind fun y=>some (match op with | .And=>.and x y | .Or=>.or x y)
def sRg(r:Rc)(c:Cc):List Expr->Option CI
 | []=>none
 |a::es=>match es with
  | []=>(r.e c a).bind fun y=>qO (qX a&&c.isB "range") (.rng1 y)
  |b::es=>match es with
   | []=>(r.e c a).bind fun y=>(r.e c b).bind fun z=>qO (qX a&&qX b&&c.isB "range") (.rng2 y z)
   |_::_=>none
def iS(r:Rc)(c:Cc)(e:Expr):Option CI:=match iW e with
 |some es=>sRg r c es
 |none=>(r.e c e).bind fun y=>qO (uV e) (.of y)
def qJD(r:Rc):Rc:=⟨eS r,qDC r,bS r,lS r,oS r,tS r,tbS r,iS r⟩
def rcN:Nat->Rc
 |0=>⟨fun _ _=>none,fun _ _ _ _=>none,fun _ _ _=>none,fun _ _=>none,fun _ _=>none,fun _ _=>none,fun _ _ _=>none,fun _ _=>none⟩
 |n+1=>qJD (rcN n)
def qCJ:Expr->Bool
 | .ListComp _ gs _ _=>match yT gs with
  |some q=>decide (q.ifs.length<=1)&&!kK q.iter
  |none=>false
 |_=>false
def uW:Expr->Bool
 | .ListComp _ _ _ _=>false
 | .SetComp _ _ _ _=>false
 | .DictComp _ _ _ _ _=>false
 |_=>true
def Cc.still(c:Cc):Cc:={ c with rs:=false }
def Cc.dull(c:Cc):Cc:={ c with rs:=false,calm:=false }
structure Rs where
 s:Cc->Stmt->Option CS
 ss:Cc->List Stmt->Option CS
 h:Cc->List ExceptHandler->Option CH
def qAZ(r:Rc)(c:Cc)(e:Expr):Expr->Option CS
 | .Name x _=>(c.own x).bind fun i=>(r.e c e).bind fun y=>qO (uW e || qCJ e) (.set (.nm i) y)
 | .Attribute o f _=>(c.A.lookup f).bind fun k=>(r.e c o).bind fun x=>(r.e c e).bind fun y=>qO (uW e) (.setF x k.1 k.2 y)
 | .Subscript o i _=>(r.e c o).bind fun x=>(r.e c i).bind fun z=>(r.e c e).bind fun y=>qO (uW e&&bJ i) (.setIx x z y)
 |_=>none
def gC(c:Cc):Expr->Option TG
 | .Name x _=>(c.own x).bind fun i=>some (.nm i)
 |_=>none
def iV:Expr->Option Str
 | .Call f es ks _=>match ks with
  | []=>match es with
   | [k]=>(isS k).bind fun _=>bW f
   |_=>none
  |_::_=>none
 |_=>none
theorem qK7(h:iV e=some x):∃ p s j q z,e=.Call (.Name x p) [.Constant (.str s) j q] [] z:=by
 cases e with
 |Call f es ks z=>
  cases ks with
  |cons _ _=>cases h
  |nil=>
   cases es with
   |nil=>cases h
   |cons k es=>
    cases es with
    |cons _ _=>cases h
    |nil=>
     obtain ⟨s,h1,h2⟩:=qC h;obtain ⟨j,q,rfl⟩:=qCC h1;obtain ⟨p,rfl⟩:=iX h2
     exact⟨p,s,j,q,z,rfl⟩
 |_=>cases h
def fE(c:Cc)(x:Str):Option CS:=match c.glob x with
 |some (.exc i)=>qO (c.rs&&c.calm) (.raise i)
 |_=>none
def qAY(q:Rs)(c:Cc)(a:List Stmt)(hs:List ExceptHandler)(els fin:List Stmt):Option CS:=match hs with
 | []=>none
 |h::hs=>match els with
  |_::_=>none
  | []=>match fin with
   |_::_=>none
   | []=>(q.ss c.still a).bind fun x=>(q.h c (h::hs)).bind fun y=>qO c.calm (.tryx x y)
def aZ(r:Rc)(q:Rs)(c:Cc)(tg e:Expr)(a:List Stmt):Option CS:=(gC c tg).bind fun t=>match t with
 | .nm i=>(r.e c e).bind fun z=>(q.ss c.still a).bind fun y=>qO c.calm (.forD i z y)
 |_=>none
def stS(r:Rc)(q:Rs)(c:Cc):Stmt->Option CS
 | .Assign ts e _=>match ts with
  | [t]=>qAZ r c e t
  |_=>none
 | .Expr e _=>(r.e c e).bind fun y=>qO (uW e) (.exp y)
 | .Return v _=>match v with
  |some e=>(r.e c e).bind fun y=>some (.ret y)
  |none=>some .retN
 | .Pass _=>some .skip
 | .Break _=>some .brk
 | .Continue _=>some .cnt
 | .If t a b _=>(r.t c t).bind fun z=>(q.ss c a).bind fun x=>(q.ss c b).bind fun y=>some (.ite z x y)
 | .While t a els _=>match els with
  | []=>(r.t c.still t).bind fun z=>(q.ss c.still a).bind fun x=>some (.whil z x)
  |_::_=>none
 | .For tg it a els _=>match els with
  | []=>match kK it with
   |true=>aZ r q c tg it a
   |false=>(gC c tg).bind fun t=>(r.i c it).bind fun z=>(q.ss c.still a).bind fun y=>qO c.calm (.fori t z y)
  |_::_=>none
 | .Raise x y _=>match y with
  |some _=>none
  |none=>match x with
   |none=>none
   |some e=>(iV e).bind fun x=>fE c x
 | .Try a hs els fin _=>qAY q c a hs els fin
 |_=>none
def ssS(q:Rs)(c:Cc):List Stmt->Option CS
 | []=>some .skip
 |s::r=>match r with
  | []=>some ((q.s c s).getD .opq)
  |t::r=>(q.ss c (t::r)).bind fun y=>some (.seq ((q.s c s).getD .opq) y)
def sH(q:Rs)(c:Cc)(i:Nat)(nm:Option Str)(b:List Stmt)(r:List ExceptHandler):Option CH:=match b with
 | []=>none
 |s::b=>(c.xs.lookup i).bind fun cs=>(q.ss c.dull (s::b)).bind fun k=>(q.h c r).bind fun z=>match nm with
  |none=>some (.cons cs k z)
  |some m=>(c.loc m).bind fun j=>some (.as cs j k z)
def hS(q:Rs)(c:Cc):List ExceptHandler->Option CH
 | []=>some .nil
 | .ExceptHandler ty nm b _::r=>match ty with
  |none=>none
  |some t=>(bW t).bind fun x=>match c.glob x with
   |some (.exc i)=>sH q c i nm b r
   |_=>none
def qJC(r:Rc)(q:Rs):Rs:=⟨stS r q,ssS q,hS q⟩
def rsN:Nat->Rs
 |0=>⟨fun _ _=>none,fun _ _=>none,fun _ _=>none⟩
 |n+1=>qJC (rcN n) (rsN n)
def cSs(c:Cc)(n:Nat)(b:List Stmt):Option CS:=(rsN n).ss c b
def GOk(X:Cx)(F:Nat->List D->M D)(k:Nat)(ex:Nat->Option Addr)(x:Str):GK->Prop
 | .fn i=>∃ f fd ps,X.mg x=some (.ref f)/\PySem.W.keepIn X.K (.ref f)=true/\L2.Binds X.K fd ps []/\L2.FnOk X.prog X.w X.K X.mg X.base (CXD X.prog X.w ex) k f fd ps (spD X.K (F i))
 | .con d=>∃ v u,X.mg x=some u/\RelV v u/\∀ Y H,RepV X.K Y H d v
 | .blt=>X.mg x=none
 | .exc c=>∃ C,X.mg x=some (.ref C)/\ex c=some C/\wY X.K C=true
 | .cls c i=>∃ C f fd ps,X.mg x=some (.ref C)/\zK X.K c C/\L2.Cls X.K C/\L2.Mk X.K C f/\L2.Binds X.K fd ps []/\L2.FnOk X.prog X.w X.K X.mg X.base (CXD X.prog X.w ex) k f fd ps (spD X.K (F i))
structure Body (X:Cx) (c:Cc) (F:Nat->List D->M D) (k:Nat) (ex:Nat->Option Addr) (W:WX):Prop where
 N:X.N=c.N
 nd:c.N.Nodup
 sc:X.env.scope=c.sc
 calm:c.calm=true->X.calm=true
 room:c.calm=true->L2.Room (k+1) X.A
 hu:X.A.units+64<cLine
 glob:∀ x g,c.G.lookup x=some g->GOk X F k ex x g
 xq:∀ i cs xl C j D,c.xs.lookup i=some cs->c.xs.lookup 1=some xl->ex i=some C->zK X.K j D->xl.contains j=true->PySem.W.kitOne X.K (.ref D) (.ref C)=some (cs.contains j)
 xv:∀ cs xl j D,c.xs.lookup 0=some cs->c.xs.lookup 1=some xl->zK X.K j D->xl.contains j=true->PySem.W.kitOne X.K (.ref D) (.type "ValueError")=some (cs.contains j)
 mt:∀ m mk tb,c.M.lookup m=some (mk,tb)->m=qD mk/\mk<256 ^ 60/\eL X F k ex m tb
 at':∀ f kk cs,c.A.lookup f=some (kk,cs)->f=qD kk/\kk<256 ^ 60/\∀ cc C,cs.contains cc=true->zK X.K cc C->L2.NoAttr X.K C (qD kk)
 xg:∀ xl j D,c.xs.lookup 1=some xl->zK X.K j D->xl.contains j=true->XGet X.K D
 xc:∀ pins U H s0 e s',Inv X pins U H s0->CXD X.prog X.w ex X.stack H s0 (fun _ co H'=>∃ c,co=some c/\W c U H') e s'->X.xe e s'
structure BodyS (X:Cx) (c:Cc) (F:Nat->List D->M D) (k:Nat) (ex:Nat->Option Addr) (W:WX):Prop extends Body X c F k ex W where
 fn:∀ x,X.fn x=true
 stk:X.stack=X.env::X.outer/\X.env.frame=some X.env.locals
 noex:X.ex=[]
 xcl:∀ i C,ex i=some C->zK X.K i C
 xr:c.rs=true->∀ pins U H s a args h' i C,ex i=some C->Inv X pins U H s->Heap.MadeExcOf s.heap h' a (.ref C) args->W i U H->X.xe (.ref a) { s with heap:=h' }
 xm:∀ i cs C j D,c.xs.lookup i=some cs->ex i=some C->ex j=some D->PySem.W.exmOne X.K (.ref D) (.ref C)=some (cs.contains j)
theorem cA{l:List Str}(h:l.idxOf? x=some i):l[i]?=some x:=by
 unfold List.idxOf? at h;rw[List.findIdx?_eq_some_iff_getElem] at h;obtain ⟨h1,h2,_⟩:=h;rw[List.getElem?_eq_getElem h1];simpa using h2
theorem vN(h:qX e=true):starEach (e::es) env=(false,eval e env)::starEach es env:=by
 cases e <;> first | rfl | cases h
theorem qGD:starEach [] env=[]:=rfl
theorem zW(h:qX e=true):starEach [e] env=[(false,eval e env)]:=by rw[vN h,qGD]
theorem vO(h:qX e=true)(h':qX e'=true):starEach [e,e'] env=[(false,eval e env),(false,eval e' env)]:=by rw[vN h,zW h']
def vD:List Expr->Bool
 | []=>true
 |e::es=>qX e&&vD es
theorem aP:∀ {es:List Expr},vD es=true->(backTo pos (starEach es env)).any (·.1)=false
 | [],_=>rfl
 |e::es,h=>by
  have h:=Bool.and_eq_true_iff.mp h;rw[vN h.1];show (false || (backTo pos (starEach es env)).any (·.1))=false;rw[aP h.2];rfl
theorem jI(h:kT o=true):attributeBase o m env w=w:=by
 cases o with
 |Call f es ks pos=>
  cases f with
  |Name id p=>
   cases es with
   |nil=>
    cases ks with
    |nil=>cases h
    |cons _ _=>rfl
   |cons _ _=>rfl
  |_=>rfl
 |_=>rfl
theorem qKt(h:bJ b=true):L2.PlainIx b:=by
 intro o i;cases b <;> first | rfl | cases h
section
variable {X:Cx}{c:Cc}{F:Nat->List D->M D}{k B:Nat}{ex:Nat->Option Addr}{W:WX}
theorem Body.vis (T:Body X c F k ex W) (h:c.slot x=some i):X.N[i]?=some x/\L2.Vis X.env.scope x/\(x == ("__debug__":Str))=false/\(x == ("__classdict__":Str))=false:=by
 unfold Cc.slot at h;rw[T.N]
 have key:∀ {kd:NameKind},c.sc.names.lookup x=some kd->(kd=.local\/kd=.cell\/kd=.free)->(if (x == ("__debug__":Str) || x == ("__classdict__":Str))=true then none else c.N.idxOf? x)=some i->c.N[i]?=some x/\L2.Vis X.env.scope x/\(x == ("__debug__":Str))=false/\(x == ("__classdict__":Str))=false:=by
  intro kd hk hd hi;split at hi
  ·cases hi
  ·rename_i hn;refine⟨cA hi,?_,?_⟩
   ·unfold L2.Vis;rw[T.sc,hk];rcases hd with rfl | rfl | rfl <;> simp
   ·simpa using hn
 split at h
 ·rename_i hk;exact key hk (.inl rfl) h
 ·rename_i hk;exact key hk (.inr (.inl rfl)) h
 ·rename_i hk;exact key hk (.inr (.inr rfl)) h
 ·cases h
theorem Body.loc(T:Body X c F k ex W)(h:c.own x=some i):X.N[i]?=some x/\L2.Loc X.env.scope x:=by
 unfold Cc.own at h;rw[T.N];split at h
 ·rename_i hk;refine⟨cA h,.inl ?_⟩;rw[T.sc];exact hk
 ·rename_i hk;refine⟨cA h,.inr ?_⟩;rw[T.sc];exact hk
 ·cases h
theorem Body.gl (T:Body X c F k ex W) (h:c.glob x=some g):L2.Gl X x/\(x == ("__debug__":Str))=false/\x≠"__name__"/\GOk X F k ex x g:=by
 unfold Cc.glob at h;split at h
 ·rename_i hk;split at h
  ·cases h
  ·rename_i hn;refine⟨?_,by revert hn;cases (x == ("__debug__":Str)) <;> simp,fun z=>hn (by simp[z]),T.glob x g h⟩;show X.env.scope.names.lookup x=_;rw[T.sc];exact hk
 ·cases h
theorem Body.nd'(T:Body X c F k ex W):X.N.Nodup:=by rw[T.N];exact T.nd
theorem qPC(h:qDd op=some o):OpR X (binaryOp op) (rB X.K o):=by
 cases op <;> first | (cases h;first | exact qHe | exact qHS | exact qHV | exact qHc | exact qHW) | cases h
theorem wE(T:Body X c F k ex W)(h:cS op=some o):yU o=true/\OpR X (compareOp op) (rB X.K o):=by
 cases op <;> first
  | (cases h;exact⟨rfl,by first | exact qHd T.hu | exact qHU T.hu | exact qHX | exact qHY | exact qHa | exact qHb | exact qHZ T.hu | exact qHT⟩)
  |cases h
theorem qPF(T:Body X c F k ex W)(h:bi1 x=some o)(hg:c.glob x=some .blt)(ha:PE X a (tD X.K W (den F ca)))(hs:qX a=true):PE X (.Call (.Name x p) [a] [] pos) (tD X.K W (den F (.un o ca))):=by
 obtain ⟨g1,g2,g3,g4⟩:=T.gl hg;have st:=zW (env:=X.env) hs
 have go:∀ {id:String},qM X (.builtin id) (rC X.K o)->bootBuiltins x=some (.builtin id)->PE X (.Call (.Name x p) [a] [] pos) (tD X.K W (den F (.un o ca))):=fun hc hv=>
  cM (a:=a) (L2.pe_callB hc g1 g4 hv (L2.pa_cons ha L2.pa_nil (by rw[st];rfl)) g3 g2 (by rw[st];rfl)) fun x H Q z=>⟨x,rfl,z⟩
 have goT:∀ {id:String},qM X (.type id) (rC X.K o)->bootBuiltins x=some (.type id)->PE X (.Call (.Name x p) [a] [] pos) (tD X.K W (den F (.un o ca))):=fun hc hv=>
  cM (a:=a) (L2.pe_callTy hc g1 g4 hv (L2.pa_cons ha L2.pa_nil (by rw[st];rfl)) g3 g2 (by rw[st];rfl)) fun x H Q z=>⟨x,rfl,z⟩
 unfold bi1 at h;split at h
 ·rename_i e;subst e;cases h;exact go qOB (by decide +kernel)
 split at h
 ·rename_i e;subst e;cases h;exact go qN7 (by decide +kernel)
 split at h
 ·rename_i e;subst e;cases h;exact goT qN5 (by decide +kernel)
 split at h
 ·rename_i e;subst e;cases h;exact goT qOE (by decide +kernel)
 split at h
 ·rename_i e;subst e;cases h;exact goT qN4 (by decide +kernel)
 ·cases h
theorem qPE(T:Body X c F k ex W)(hc:c.calm=true)(h:pM x=some o)(hg:c.glob x=some .blt)(ha:PE X a (tD X.K W (den F ca)))(hs:qX a=true):PE X (.Call (.Name x p) [a] [] pos) (tD X.K W (den F (.un o ca))):=by
 obtain ⟨g1,g2,g3,g4⟩:=T.gl hg;have st:=zW (env:=X.env) hs
 have go:∀ {id:String},qM X (.builtin id) (rC X.K o)->bootBuiltins x=some (.builtin id)->PE X (.Call (.Name x p) [a] [] pos) (tD X.K W (den F (.un o ca))):=fun hc hv=>
  cM (a:=a) (L2.pe_callB hc g1 g4 hv (L2.pa_cons ha L2.pa_nil (by rw[st];rfl)) g3 g2 (by rw[st];rfl)) fun x H Q z=>⟨x,rfl,z⟩
 have goT:∀ {id:String},qM X (.type id) (rC X.K o)->bootBuiltins x=some (.type id)->PE X (.Call (.Name x p) [a] [] pos) (tD X.K W (den F (.un o ca))):=fun hc hv=>
  cM (a:=a) (L2.pe_callTy hc g1 g4 hv (L2.pa_cons ha L2.pa_nil (by rw[st];rfl)) g3 g2 (by rw[st];rfl)) fun x H Q z=>⟨x,rfl,z⟩
 unfold pM at h;split at h
 ·rename_i e;subst e;cases h;exact go (qOG (T.calm hc)) (by decide +kernel)
 split at h
 ·rename_i e;subst e;cases h;exact go (qN6 (T.calm hc)) (by decide +kernel)
 split at h
 ·rename_i e;subst e;cases h;exact goT (qOF (T.calm hc)) (by decide +kernel)
 ·cases h
theorem qPD(T:Body X c F k ex W)(hc:c.calm=true)(h:bi2 x=some o)(hg:c.glob x=some .blt)(ha:PE X a (tD X.K W (den F ca)))(hb:PE X b (tD X.K W (den F cb)))(hs:qX a=true)(hs':qX b=true):PE X (.Call (.Name x p) [a,b] [] pos) (tD X.K W (den F (.bi o ca cb))):=by
 obtain ⟨g1,g2,g3,g4⟩:=T.gl hg;have st:=vO (env:=X.env) hs hs';have st1:=zW (env:=X.env) hs'
 have go:∀ {id:String},qM X (.builtin id) (rC2 X.K o)->bootBuiltins x=some (.builtin id)->PE X (.Call (.Name x p) [a,b] [] pos) (tD X.K W (den F (.bi o ca cb))):=fun hc hv=>
  qNc (L2.pe_callB hc g1 g4 hv (L2.pa_cons ha (L2.pa_cons hb L2.pa_nil (by rw[st1];rfl)) (by rw[st,st1])) g3 g2 (by rw[st,st1]) (by rw[st1];rfl)) fun x y H Q z=>⟨x,y,rfl,z⟩
 unfold bi2 at h;split at h
 ·rename_i e;subst e;cases h;exact go (qN9 (T.calm hc)) (by decide +kernel)
 split at h
 ·rename_i e;subst e;cases h;exact go (qOA (T.calm hc)) (by decide +kernel)
 ·cases h
theorem qK4 (T:Body X c F k ex W) {x:Str} (hx:x="isinstance") (ht:tyN y=some t) (hg:c.glob x=some .blt) (hy:c.isB y=true) (ha:PE X a (tD X.K W (den F ca))) (hs:qX a=true):PE X (.Call (.Name x p) [a,.Name y p2] [] pos) (tD X.K W (den F (.un (.isi t) ca))):=by
 obtain ⟨g1,g2,g3,g4⟩:=T.gl hg
 have hy':c.glob y=some .blt:=by
  unfold Cc.isB at hy;split at hy
  ·assumption
  ·cases hy
 obtain ⟨k1,k2,k3,k4⟩:=T.gl hy';refine qNS hx g1 g4 k1 k4 ?_ k3 k2 ha (vO hs rfl);unfold tyN at ht;split at ht
 ·rename_i e;subst e;cases ht;decide +kernel
 split at ht
 ·rename_i e;subst e;cases ht;decide +kernel
 split at ht
 ·rename_i e;subst e;cases ht;decide +kernel
 split at ht
 ·rename_i e;subst e;cases ht;decide +kernel
 split at ht
 ·rename_i e;subst e;cases ht;decide +kernel
 ·cases ht
theorem qK2 (T:Body X c F k ex W) {x:Str} (hx:x="isinstance") (hy:c.isX y=some (cs,xl)) (hg:c.glob x=some .blt) (ha:PE X a (tD X.K W (den F ca))) (hs:qX a=true):PE X (.Call (.Name x p) [a,.Name y p2] [] pos) (tD X.K W (den F (.un (.isx cs xl) ca))):=by
 obtain ⟨g1,g2,g3,g4⟩:=T.gl hg;unfold Cc.isX at hy;split at hy
 rotate_left
 ·cases hy
 rename_i xl' hxl;split at hy
 ·rename_i i hi;obtain ⟨k1,k2,k3,C,k4,k5,k6⟩:=T.gl hi;cases q:c.xs.lookup i with
  |none=>rw[q] at hy;cases hy
  |some cs'=>rw[q] at hy;cases hy;exact qC1 (cv:=.ref C) (cu:=.ref C) hx g1 g4 (L2.pe_glob k1 k4 rfl k2) (fun u h=>h) (fun j D h1 h2=>⟨T.xg _ j D hxl h1 h2,T.xq i _ _ C j D q hxl k5 h1 h2⟩) ha (vO hs rfl)
 ·rename_i hi;obtain ⟨k1,k2,k3,k4⟩:=T.gl hi;split at hy
  ·rename_i e;subst e;cases q:c.xs.lookup 0 with
   |none=>rw[q] at hy;cases hy
   |some cs'=>rw[q] at hy;cases hy;exact qC1 (cv:=.ty "ValueError") (cu:=.type "ValueError") hx g1 g4 (L2.pe_bltn (v:=.ty "ValueError") k1 k4 (by decide +kernel) rfl k3 k2) (fun u h=>h) (fun j D h1 h2=>⟨T.xg _ j D hxl h1 h2,T.xv _ _ j D q hxl h1 h2⟩) ha (vO hs rfl)
  ·cases hy
 ·cases hy
theorem kU{α:Type}[Decidable p]{a b r:α}(h:(if p then a else b)=r):(p/\a=r)\/(¬ p/\b=r):=by
 by_cases q:p
 ·exact .inl ⟨q,by rw[if_pos q] at h;exact h⟩
 ·exact .inr ⟨q,by rw[if_neg q] at h;exact h⟩
theorem qJW(T:Body X c F k ex W)(h:me1 m=some o)(ha:PE X a (tD X.K W (den F ca)))(hb:PE X b (tD X.K W (den F cb)))(hs:qX b=true)(hsu:kT a=true)(hl:(ap.endLine == p.line)=true):PE X (.Call (.Attribute a m ap) [b] [] p) (tD X.K W (den F (.me o ca cb))):=by
 unfold me1 at h;rcases kU h with⟨e,h⟩ | ⟨_,h⟩
 ·cases h;exact qNd e ha hb (jI hsu) hl (zW hs)
 rcases kU h with⟨e,h⟩ | ⟨_,h⟩
 ·cases h;exact qM6 e ha hb (jI hsu) hl (zW hs)
 rcases kU h with⟨e,h⟩ | ⟨_,h⟩
 ·cases h;exact qNP e ha hb (jI hsu) hl (zW hs)
 rcases kU h with⟨e,h⟩ | ⟨_,h⟩
 ·cases h;exact qNV e ha hb (jI hsu) hl (zW hs)
 rcases kU h with⟨e,h⟩ | ⟨_,h⟩
 ·cases h;exact d_pop e ha hb (jI hsu) hl (zW hs)
 rcases kU h with⟨e,h⟩ | ⟨_,h⟩
 ·cases h;exact qNB e ha hb (jI hsu) hl (zW hs)
 rcases kU h with⟨e,h⟩ | ⟨_,h⟩
 ·cases h;exact qNF e ha hb (jI hsu) hl (zW hs)
 rcases kU h with⟨e,h⟩ | ⟨_,h⟩
 ·cases h;exact qNE e ha hb (jI hsu) hl (zW hs)
 rcases kU h with⟨e,h⟩ | ⟨_,h⟩
 ·cases h;exact qNY e ha hb (jI hsu) hl (zW hs)
 rcases kU h with⟨e,h⟩ | ⟨_,h⟩
 ·cases h;exact qM8 e ha hb (jI hsu) hl (zW hs)
 ·cases h
theorem qNl(h:qDT kc=some ce):PE X (.Constant kc j pos) (tD X.K W (den F ce)):=by
 cases kc with
 |none=>cases h;exact gK L2.pe_non fun _ _=>rfl
 |bool b=>cases h;exact gK L2.pe_bl fun _ _=>rfl
 |int i=>cases h;exact gK L2.pe_int fun _ _=>rfl
 |str s=>cases h;exact gK L2.pe_str fun _ _=>(show V.str s=V.str ⟨s.cps.toList.toArray⟩ by simp)
 |_=>cases h
theorem qN8(T:Body X c F k ex W)(hc:c.calm=true)(h:c.glob x=some (.fn i))(ha:PA X (e::es) (tDL X.K W (zA F cl)))(hs:vD (e::es)=true):PE X (.Call (.Name x p) (e::es) [] pos) (tD X.K W (den F (.call i cl))):=by
 obtain ⟨g1,g2,g3,f,fd,ps,hm,hk,hb,FO⟩:=T.gl h;have hs':=Bool.and_eq_true_iff.mp hs;intro pins s U H Q I t;obtain ⟨Y,env,hh,st,r,pp⟩:=t;dsimp only[den] at pp;refine wpAny_Call_Name_kw (L2.ld_glob I g1 hm ?_ g2);refine PySem.W.callWith_K (h₀:=X.base) I.ok.mod.kin hk (L2.thn (ha pos pins s U H (fun vs H1=>spD X.K (F i) vs H1 Q fun _ co H'=>∃ c,co=some c/\W c U H') I ⟨Y,env,hh,st,r,Post.bind pp fun Y1 h1 ds H1 e1 r1 q vs hvs=>?_⟩) fun us s1 z=>?_) (vN hs'.1) (aP hs'.2)
 ·exact⟨Y1,h1,ds,r1,hvs,by
   cases z:F i ds h1 with
   |ok a g=>rw[z] at q;exact q
   |exc c g=>rw[z] at q;exact fun Y' H' e' r' _=>⟨c,rfl,q Y' H' e' r'⟩
   |bad=>rw[z] at q;exact q⟩
 ·obtain ⟨vs,H1,I1,rv,q1⟩:=z
  exact⟨I1.kIn,bB FO ((T.room hc).mono (Nat.le_succ _)) hb (fun e s' x=>T.xc pins U H1 s1 e s' I1 x) I1 rv q1⟩
theorem qOJ(T:Body X c F k ex W)(hc:c.calm=true)(h:c.glob x=some (.fn i)):PE X (.Call (.Name x p) [] [] pos) (tD X.K W (den F (.call i .nil))):=by
 obtain ⟨g1,g2,g3,f,fd,ps,hm,hk,hb,FO⟩:=T.gl h;intro pins s U H Q I t;obtain ⟨Y,env,hh,st,r,pp⟩:=t;dsimp only[den,zA] at pp;refine wpAny_Call_Name_kw (L2.ld_glob I g1 hm ?_ g2);refine PySem.W.callWith_K0 I.kIn hk (bB (us:=[]) (vs:=[]) (E:=fun _ co H'=>∃ c,co=some c/\W c U H') FO ((T.room hc).mono (Nat.le_succ _)) hb (fun e s' x=>T.xc pins U H s e s' I x) I .nil ⟨Y,hh,[],r,rfl,?_⟩);have q:PostV X.K (W.at U) Q Y H (F i [] hh):=pp;cases z:F i [] hh with
 |ok a g=>rw[z] at q;exact q
 |exc c g=>rw[z] at q;exact fun Y' H' e' r' _=>⟨c,rfl,q Y' H' e' r'⟩
 |bad=>rw[z] at q;exact q
theorem qJe(T:Body X c F k ex W)(hc:c.calm=true)(h:c.glob x=some (.cls cc i))(ha:PA X (e::es) (tDL X.K W (zA F cl)))(hs:vD (e::es)=true):PE X (.Call (.Name x p) (e::es) [] pos) (tD X.K W (den F (.make cc i cl))):=by
 obtain ⟨g1,g2,g3,C,f,fd,ps,hm,h1,h2,h3,h4,h5⟩:=T.gl h;have hs':=Bool.and_eq_true_iff.mp hs;exact qNN g1 g2 hm h1 h2 h3 h4 h5 (T.room hc) T.xc ha (vN hs'.1) (aP hs'.2)
theorem qJg(T:Body X c F k ex W)(hc:c.calm=true)(h:c.glob x=some (.cls cc i)):PE X (.Call (.Name x p) [] [] pos) (tD X.K W (den F (.make cc i .nil))):=by
 obtain ⟨g1,g2,g3,C,f,fd,ps,hm,h1,h2,h3,h4,h5⟩:=T.gl h;exact qNM g1 g2 hm h1 h2 h3 h4 h5 (T.room hc) T.xc
theorem qAM:∀ {es:List Expr},vD es=true->(backTo pos (starEach es env)).all (fun x=>!x.1)=true
 | [],_=>rfl
 |e::es,h=>by
  have h:=Bool.and_eq_true_iff.mp h;rw[vN h.1];show (!false&&(backTo pos (starEach es env)).all (fun x=>!x.1))=true;rw[qAM h.2];rfl
theorem qJJ(T:Body X c F k ex W)(hc:c.calm=true)(h:c.M.lookup m=some (mk,tb))(ho:PE X a (tD X.K W (den F ca)))(ha:PA X (e::es) (tDL X.K W (zA F cl)))(hs:vD (e::es)=true)(hsu:kT a=true)(hl:(ap.endLine == pos.line)=true)(hn:es.length<20) :
  PE X (.Call (.Attribute a m ap) (e::es) [] pos) (tD X.K W (den F (.meth mk tb ca cl))):=by
 obtain ⟨m1,m2,m3⟩:=T.mt m mk tb h;have hs':=Bool.and_eq_true_iff.mp hs;refine qNL m3 m1 m2 ((T.room hc).mono (Nat.le_succ _)) T.xc ho ha (jI hsu) hl ?_ (vN hs'.1) (aP hs'.2);unfold methodCallForm;rw[qAM hs];show (true&&true&&decide ((e::es).length+0+0<30))=true;simp only[List.length_cons,Bool.and_self,Bool.true_and,decide_eq_true_eq]
 lia
theorem qJL(T:Body X c F k ex W)(hc:c.calm=true)(h:c.M.lookup m=some (mk,tb))(ho:PE X a (tD X.K W (den F ca)))(hsu:kT a=true)(hl:(ap.endLine == pos.line)=true) :
  PE X (.Call (.Attribute a m ap) [] [] pos) (tD X.K W (den F (.meth mk tb ca .nil))):=by
 obtain ⟨m1,m2,m3⟩:=T.mt m mk tb h;exact qNK m3 m1 m2 ((T.room hc).mono (Nat.le_succ _)) T.xc ho (jI hsu) hl
theorem qCE(h:isNone b=true):∃ j pos,b=.Constant .none j pos:=by
 unfold isNone at h;split at h
 ·exact⟨_,_,rfl⟩
 ·cases h
theorem qHK(h:qA1 e=true)(whole:Sem Value):isTrue e env whole=(do let v <- whole;standAt e.pos;holding [v] (truthy v)):=by
 cases e <;> first | rfl | cases h
theorem vZ(h:uV e=true)(x:Value):foldedSetIterable e env x=pure x:=by
 cases e <;> first | rfl | cases h
theorem yD(T:Body X c F k ex W)(h:c.compOk x scope=true):CompOk X x scope:=by
 unfold Cc.compOk at h;simp only[Bool.and_eq_true,Bool.or_eq_true,decide_eq_true_eq,List.all_eq_true] at h;obtain ⟨⟨⟨⟨⟨⟨h1,h2⟩,h3⟩,h4⟩,h5⟩,h6⟩,h7⟩:=h;refine⟨h1,h2,h3,h4,fun y hy hf=>?_,h6.1,fun z=>?_,fun y hne hy hm=>h7 _ (wV hy) hne rfl (by rw[<- T.N];exact hm)⟩
 rotate_left
 ·rw[T.N] at z ⊢;rcases h6.2 with w | w
  ·exact absurd z w
  ·exact w
 show X.env.scope.names.lookup y.1=_\/X.env.scope.names.lookup y.1=_;rw[T.sc];exact h5 y hy hf
theorem vF(T:Body X c F k ex W)(h:c.compOk x scope=true)(cl:List (Str × Addr))(C:Addr)(s3:Shared)(H3:Hp)(fp:List Addr)(E:Value->Shared->Prop):Body (cxC X x scope cl C s3 H3 fp E) (c.inner x scope) F k ex WF:=by
 have K:=yD T h;refine⟨?_,?_,?_,T.calm,T.room,T.hu,fun y g hg=>?_,T.xq,T.xv,T.mt,T.at',T.xg,fun pins U H s0 e s' I x=>?_⟩
 ·show jM X.N x++[x]=jM c.N x++[x];rw[T.N]
 ·show (jM c.N x++[x]).Nodup;exact qBQ T.nd K.new fun z=>by have:=(K.hole (by rw[T.N];exact z)).1;rw[T.N] at this;exact this
 ·show relabel scope X.env=qAo scope c.sc;rw[<- T.sc];rfl
 ·have:=T.glob y g hg
  cases g <;> exact this
 ·obtain ⟨_,_,_,_,_,_,_,_,_,_,_,_,_,_,_,_,z⟩:=x;cases z
structure AllOk (X:Cx) (c:Cc) (F:Nat->List D->M D) (W:WX) (r:Rc):Prop where
 e:∀ e ce,r.e c e=some ce->PE X e (tD X.K W (den F ce))
 cmp:∀ a op b ce pos,r.cmp c a op b=some ce->PE X (.Compare a [op] [b] pos) (tD X.K W (den F ce))/\PT X (.Compare a [op] [b] pos) (tDT X.K W (qJ F (.val ce)))
 b:∀ x es ce p pos,c.glob x=some .blt->r.b c x es=some ce->PE X (.Call (.Name x p) es [] pos) (tD X.K W (den F ce))
 l:∀ es cl,r.l c es=some cl->PA X es (tDL X.K W (zA F cl))/\vD es=true
 o:∀ o cp,r.o c o=some cp->PO X o (tDP X.K W (kR F cp))
 t:∀ e ct,r.t c e=some ct->PT X e (tDT X.K W (qJ F ct))
 tb:∀ op es ct pos,r.tb c op es=some ct->L2.PW X (.BoolOp op es pos) (tDT X.K W (qJ F ct))
 i:∀ tg e ci,r.i c e=some ci->PI X tg e (tDI X.K W (jF F ci))/\uV e=true
end
section
variable {X:Cx}{c:Cc}{F:Nat->List D->M D}{k:Nat}{W:WX}
end
section
variable {X:Cx}{c:Cc}{F:Nat->List D->M D}{k B:Nat}{ex:Nat->Option Addr}{W:WX}
theorem qJF(T:Body X c F k ex W)(h:fF c x=some ce):PE X (.Name x pos) (tD X.K W (den F ce)):=by
 unfold fF at h;cases q:c.slot x with
 |some i=>rw[q] at h;cases h;obtain ⟨h1,h2,h3,h4⟩:=T.vis q;exact qM7 (L2.pe_var h1 h2 h3 h4)
 |none=>
  rw[q] at h;cases w:c.glob x with
  |none=>rw[w] at h;cases h
  |some g=>
   rw[w] at h;cases g with
   |con d=>cases h;obtain ⟨g1,g2,g3,v,u,hm,hr,hv⟩:=T.gl w;exact gK (L2.pe_glob g1 hm hr g2) hv
   |_=>cases h
theorem qEs(A:AllOk X c F W r)(h:sUn r c a op=some ce):PE X (.UnaryOp op a pos) (tD X.K W (den F ce)):=by
 cases op with
 |Not=>obtain ⟨x,hx,h⟩:=qC h;cases h;exact qNI (A.e a x hx)
 |USub=>obtain ⟨x,hx,h⟩:=qC h;cases h;exact qNJ (A.e a x hx)
 |_=>cases h
theorem qPA(A:AllOk X c F W r)(h:qAi r c op pos es=some ce):PE X (.BoolOp op es pos) (tD X.K W (den F ce)):=by
 cases es with
 |nil=>cases h
 |cons a es=>
  cases es with
  |nil=>exact L2.pe_one (A.e a ce h)
  |cons b es=>
   obtain ⟨x,hx,h⟩:=qC h;obtain ⟨y,hy,h⟩:=qC h;cases op with
   |And=>cases h;exact qNe (A.e a x hx) (A.e _ y hy)
   |Or=>cases h;exact qNG (A.e a x hx) (A.e _ y hy)
theorem qNx(T:Body X c F k ex W)(A:AllOk X c F W r)(h:qAf r c a op op' b d=some ce) :
  PE X (.Compare a [op,op'] [b,d] pos) (tD X.K W (den F ce))/\PT X (.Compare a [op,op'] [b,d] pos) (tDT X.K W (qJ F (.val ce))):=by
 obtain ⟨o,ho,h⟩:=qC h;obtain ⟨p,hp,h⟩:=qC h;obtain ⟨x,hx,h⟩:=qC h;obtain ⟨y,hy,h⟩:=qC h;obtain ⟨z,hz,h⟩:=qC h;obtain ⟨hl,rfl⟩:=qS h;have hl:lastMarks [op,op'] [b,d]=false:=by simpa using hl
 exact⟨qNb (wE T ho).2 (wE T hp).2 (A.e a x hx) (A.e b y hy) (A.e d z hz) hl,qMg (wE T hp).1 (wE T ho).2 (wE T hp).2 (A.e _ x hx) (A.e _ y hy) (A.e _ z hz) hl⟩
theorem qC8(T:Body X c F k ex W)(A:AllOk X c F W r)(h:fG r c a ops cs=some ce) :
  PE X (.Compare a ops cs pos) (tD X.K W (den F ce))/\PT X (.Compare a ops cs pos) (tDT X.K W (qJ F (.val ce))):=by
 cases ops with
 |nil=>cases h
 |cons op ops=>
  cases cs with
  |nil=>cases h
  |cons b cs=>
   cases ops with
   |nil=>
    cases cs with
    |nil=>exact A.cmp a op b ce pos h
    |cons _ _=>cases h
   |cons op' ops=>
    cases ops with
    |cons _ _=>cases h
    |nil=>
     cases cs with
     |nil=>cases h
     |cons d cs=>
      cases cs with
      |nil=>exact qNx T A h
      |cons _ _=>cases h
theorem qF0(A:AllOk X c F W r)(h:fD r c a b=some ce):PE X (.Subscript a b pos) (tD X.K W (den F ce)):=by
 unfold fD at h;cases qr:qCD b with
 |true=>rw[qr] at h;cases h
 |false=>
 rw[qr] at h;cases q:iU b with
 |some w=>rw[q] at h;obtain ⟨p,rfl⟩:=qK6 q;obtain ⟨x,hx,h⟩:=qC h;obtain ⟨l,hl,h⟩:=qC h;obtain ⟨u,hu,h⟩:=qC h;cases h;exact qNC (A.e a x hx) (A.o w.1 l hl) (A.o w.2 u hu)
 |none=>rw[q] at h;obtain ⟨x,hx,h⟩:=qC h;obtain ⟨y,hy,h⟩:=qC h;obtain ⟨hs,rfl⟩:=qS h;exact qNQ (A.e a x hx) (A.e b y hy) (qKt hs)
theorem qOI(T:Body X c F k ex W)(A:AllOk X c F W r)(h:qAg r c x es (c.glob x)=some ce):PE X (.Call (.Name x p) es [] pos) (tD X.K W (den F ce)):=by
 cases w:c.glob x with
 |none=>rw[w] at h;cases h
 |some g=>
  rw[w] at h;cases g with
  |fn i=>
   cases es with
   |nil=>obtain ⟨hs,rfl⟩:=qS h;exact qOJ T hs w
   |cons e es=>obtain ⟨l,hl,h⟩:=qC h;obtain ⟨hs,rfl⟩:=qS h;exact qN8 T hs w (A.l _ l hl).1 (A.l _ l hl).2
  |blt=>exact A.b x es ce p pos w h
  |cls kc fi=>
   cases es with
   |nil=>obtain ⟨hs,rfl⟩:=qS h;exact qJg T hs w
   |cons e es=>obtain ⟨l,hl,h⟩:=qC h;obtain ⟨hs,rfl⟩:=qS h;exact qJe T hs w (A.l _ l hl).1 (A.l _ l hl).2
  |_=>cases h
theorem qJK(T:Body X c F k ex W)(A:AllOk X c F W r)(hx:r.e c a=some x)(h:qAa r c m (kT a&&(ap.endLine == p.line)) x es (c.M.lookup m)=some ce):PE X (.Call (.Attribute a m ap) es [] p) (tD X.K W (den F ce)):=by
 cases w:c.M.lookup m with
 |some q=>
  rw[w] at h;obtain ⟨mk,tb⟩:=q;cases es with
  |nil=>obtain ⟨hs,rfl⟩:=qS h;obtain ⟨h1,h2⟩:=Bool.and_eq_true_iff.mp hs;obtain ⟨h2,h3⟩:=Bool.and_eq_true_iff.mp h2;exact qJL T h1 w (A.e a x hx) h2 h3
  |cons e es=>obtain ⟨l,hl,h⟩:=qC h;obtain ⟨hs,rfl⟩:=qS h;obtain ⟨hs,h4⟩:=Bool.and_eq_true_iff.mp hs;obtain ⟨h1,h2⟩:=Bool.and_eq_true_iff.mp hs;obtain ⟨h2,h3⟩:=Bool.and_eq_true_iff.mp h2;exact qJJ T h1 w (A.e a x hx) (A.l _ l hl).1 (A.l _ l hl).2 h2 h3 (of_decide_eq_true h4)
 |none=>
  rw[w] at h;cases es with
  |nil=>cases h
  |cons b es=>
   cases es with
   |cons d es=>
    cases es with
    |cons _ _=>cases h
    |nil=>
     have h:(match decide (m="setdefault") with | true=>(r.e c b).bind fun y=>(r.e c d).bind fun z=>qO (kT a&&(ap.endLine == p.line)&&qX b&&qX d) (.setd x y z) | false=>match decide (m="get") with | true=>(r.e c b).bind fun y=>(r.e c d).bind fun z=>qO (kT a&&(ap.endLine == p.line)&&qX b&&qX d) (.getd x y z) | false=>(r.e c b).bind fun y=>(r.e c d).bind fun z=>qO (kT a&&(ap.endLine == p.line)&&qX b&&qX d&&decide (m="split")) (.splm x y z))=some ce:=h;split at h
     ·rename_i e;obtain ⟨y,hy,h⟩:=qC h;obtain ⟨z,hz,h⟩:=qC h;obtain ⟨hs,rfl⟩:=qS h;obtain ⟨hs,h5⟩:=Bool.and_eq_true_iff.mp hs;obtain ⟨hs,h4⟩:=Bool.and_eq_true_iff.mp hs;obtain ⟨h2,h3⟩:=Bool.and_eq_true_iff.mp hs;exact qND (of_decide_eq_true e) (A.e a x hx) (A.e b y hy) (A.e d z hz) (jI h2) h3 (vO h4 h5) (zW h5)
     ·split at h
      ·rename_i e;obtain ⟨y,hy,h⟩:=qC h;obtain ⟨z,hz,h⟩:=qC h;obtain ⟨hs,rfl⟩:=qS h;obtain ⟨hs,h5⟩:=Bool.and_eq_true_iff.mp hs;obtain ⟨hs,h4⟩:=Bool.and_eq_true_iff.mp hs;obtain ⟨h2,h3⟩:=Bool.and_eq_true_iff.mp hs;exact qNU (of_decide_eq_true e) (A.e a x hx) (A.e b y hy) (A.e d z hz) (jI h2) h3 (vO h4 h5) (zW h5)
      ·obtain ⟨y,hy,h⟩:=qC h;obtain ⟨z,hz,h⟩:=qC h;obtain ⟨hs,rfl⟩:=qS h;obtain ⟨hs,h6⟩:=Bool.and_eq_true_iff.mp hs;obtain ⟨hs,h5⟩:=Bool.and_eq_true_iff.mp hs;obtain ⟨hs,h4⟩:=Bool.and_eq_true_iff.mp hs;obtain ⟨h2,h3⟩:=Bool.and_eq_true_iff.mp hs;exact qNA (of_decide_eq_true h6) (A.e a x hx) (A.e b y hy) (A.e d z hz) (jI h2) h3 (vO h4 h5) (zW h5)
   |nil=>obtain ⟨o,ho,h⟩:=qC h;obtain ⟨y,hy,h⟩:=qC h;obtain ⟨hs,rfl⟩:=qS h;obtain ⟨hs,h4⟩:=Bool.and_eq_true_iff.mp hs;obtain ⟨h2,h3⟩:=Bool.and_eq_true_iff.mp hs;exact qJW T ho (A.e a x hx) (A.e b y hy) h4 h2 h3
theorem qOH(T:Body X c F k ex W)(A:AllOk X c F W r)(h:qAh r c f es ks p=some ce):PE X (.Call f es ks p) (tD X.K W (den F ce)):=by
 cases ks with
 |cons _ _=>cases h
 |nil=>
  cases f with
  |Name x q=>exact qOI T A h
  |Attribute a m ap=>obtain ⟨x,hx,h⟩:=qC h;exact qJK T A hx h
  |_=>cases h
theorem qKh{k:Option Expr}(h:qAp k=some y):∃ e,k=some e/\PE X e (L2.tC (L2.kV (kyV y))):=by
 cases k with
 |none=>cases h
 |some e=>
  cases e with
  |Constant kc j pos=>
   cases kc with
   |str s=>
    cases h;refine⟨_,rfl,?_⟩;have e1:(⟨s.cps.toList.toArray⟩:Str)=s:=by simp
    show PE X _ (L2.tC (.str ⟨s.cps.toList.toArray⟩));rw[e1];exact L2.pe_str
   |int i=>cases h;exact⟨_,rfl,L2.pe_int⟩
   |_=>cases h
  |_=>cases h
theorem qC0(A:AllOk X c F W r):∀ {keys:List (Option Expr)} {values:List Expr} {ks:List Ky} {l:CL},fL keys=some ks->fK r c values=some l->keys.length=values.length ->
  L2.PPs X pos keys values (trs X F W ks l)/\keys.all (·.isSome)=true/\cT l=ks.length
 | [],[],_,_,h1,h2,_=>by cases h1;cases h2;exact⟨L2.pps_nil,rfl,rfl⟩
 | [],_::_,_,_,_,_,h=>by cases h
 |_::_,[],_,_,_,_,h=>by cases h
 |k::keys,e::values,ks,l,h1,h2,h3=>by
  obtain ⟨y,hy,h1⟩:=qC h1;obtain ⟨ys,hys,h1⟩:=qC h1;cases h1;obtain ⟨x,hx,h2⟩:=qC h2;obtain ⟨l',hl,h2⟩:=qC h2;cases h2;obtain ⟨ek,rfl,pk⟩:=qKh (X:=X) hy;obtain ⟨g1,g2,g3⟩:=qC0 A (pos:=pos) hys hl (Nat.succ.inj h3)
  exact⟨L2.pps_cons pk (A.e e x hx) g1,by rw[List.all_cons,g2];rfl,congrArg Nat.succ g3⟩
theorem qMy(A:AllOk X c F W r)(h:qAd r c keys values=some ce):PE X (.Dict keys values pos) (tD X.K W (den F ce)):=by
 obtain ⟨ks,hk,h⟩:=qC h;obtain ⟨l,hl,h⟩:=qC h;obtain ⟨hs,rfl⟩:=qS h;obtain ⟨h1,h2⟩:=Bool.and_eq_true_iff.mp hs;have h1:=of_decide_eq_true h1;obtain ⟨g1,g2,g3⟩:=qC0 A (pos:=pos) hk hl h1;refine qNZ g1 g2 h1 (of_decide_eq_true h2) g3 fun z=>?_;subst z;cases hk;cases values with
 |nil=>cases hl;exact⟨rfl,rfl,rfl⟩
 |cons _ _=>cases h1
theorem qKp(A:AllOk X c F W r)(h:qAb r c es=some ce):PE X (.JoinedStr es p) (tD X.K W (den F ce)):=by
 rcases es with _ | ⟨f,_ | ⟨s,_ | ⟨g,_ | ⟨u,es⟩⟩⟩⟩
 ·cases h
 ·cases h
 ·cases h
 ·obtain ⟨a,ha,h⟩:=qC h;obtain ⟨t,ht,h⟩:=qC h;obtain ⟨b,hb,h⟩:=qC h;obtain ⟨x,hx,h⟩:=qC h;obtain ⟨y,hy,h⟩:=qC h;cases h;obtain ⟨_,rfl⟩:=qCH ha;obtain ⟨_,_,rfl⟩:=qCC ht;obtain ⟨_,rfl⟩:=qCH hb;exact qNW (A.e a x hx) (A.e b y hy)
 ·cases h
theorem qNm(T:Body X c F k ex W)(AA:∀ (X:Cx) (c:Cc) (W:WX),Body X c F k ex W->AllOk X c F W r)(h:bA r c elt scope q=some ce):PE X (.ListComp elt [⟨.Name q.x q.p,q.iter,q.ifs,0⟩] scope pos) (tD X.K W (den F ce)):=by
 have A:=AA X c W T;obtain ⟨x,px,iter,ifs⟩:=q;cases ifs with
 |nil=>
  obtain ⟨it,hi,h⟩:=qC h;obtain ⟨y,hy,h⟩:=qC h;obtain ⟨hk',rfl⟩:=qS h;obtain ⟨hcm,hk⟩:=Bool.and_eq_true_iff.mp hk';have K:=yD T hk
  exact PE.imp (bD K (by rw[T.N];exact T.nd) (T.calm hcm) (A.i _ iter it hi).1 (vZ (A.i (.Name x px) iter it hi).2) (tt:=none) fun cl C s3 H3 fp E=>⟨(AA _ _ _ (vF T hk cl C s3 H3 fp E)).e elt y hy,rfl⟩) fun U H Q t=>cR (f:=fun env x=>jH (den F y) env x) (mi:=jF F it) (eU _) (by
   obtain ⟨Y,env,h,s,r,p⟩:=t;dsimp only[den] at p
   exact⟨Y,env,h,s,r,p⟩)
 |cons tst ts=>
  cases ts with
  |cons _ _=>cases h
  |nil=>
   obtain ⟨it,hi,h⟩:=qC h;obtain ⟨z,hz,h⟩:=qC h;obtain ⟨y,hy,h⟩:=qC h;obtain ⟨hk',rfl⟩:=qS h;obtain ⟨hcm,hk⟩:=Bool.and_eq_true_iff.mp hk';have K:=yD T hk
   exact PE.imp (bD K (by rw[T.N];exact T.nd) (T.calm hcm) (A.i _ iter it hi).1 (vZ (A.i (.Name x px) iter it hi).2) (tt:=some (tDT X.K WF (qJ F z))) fun cl C s3 H3 fp E=>⟨(AA _ _ _ (vF T hk cl C s3 H3 fp E)).e elt y hy,tst,rfl,(AA _ _ _ (vF T hk cl C s3 H3 fp E)).t tst z hz⟩) fun U H Q t=>cR (f:=fun env x=>jW (den F y) (qJ F z) env x) (mi:=jF F it) (eT _ _) (by
    obtain ⟨Y,env,h,s,r,p⟩:=t;dsimp only[den] at p
    exact⟨Y,env,h,s,r,p⟩)
theorem qCK(h:c.isB x=true):c.glob x=some .blt:=by
 unfold Cc.isB at h;split at h
 ·assumption
 ·cases h
theorem fX(h:kK e=true):uV e=true:=by
 cases e with
 |Set _ _=>cases h
 |_=>rfl
theorem qNp(T:Body X c F k ex W)(AA:∀ (X:Cx) (c:Cc) (W:WX),Body X c F k ex W->AllOk X c F W r)(hd:kK q.iter=true)(h:fH r c elt scope q=some ce):PE X (.ListComp elt [⟨.Name q.x q.p,q.iter,q.ifs,0⟩] scope pos) (tD X.K W (den F ce)):=by
 have A:=AA X c W T;obtain ⟨x,px,iter,ifs⟩:=q;cases ifs with
 |nil=>obtain ⟨d,hi,h⟩:=qC h;obtain ⟨y,hy,h⟩:=qC h;obtain ⟨hk',rfl⟩:=qS h;obtain ⟨hcm,hk⟩:=Bool.and_eq_true_iff.mp hk';have K:=yD T hk;have e:(fun env x=>jW (den F y) (qJ F (.val (.lit (.bl true)))) env x)=fun env x=>jH (den F y) env x:=rfl;exact PE.imp (L2.pe_thaw (bD K (by rw[T.N];exact T.nd) (T.calm hcm) (L2.pi_dict (A.e iter d hi)) (vZ (fX hd)) (tt:=none) fun cl C s3 H3 fp E=>⟨(AA _ _ _ (vF T hk cl C s3 H3 fp E)).e elt y hy,rfl⟩)) fun U H Q t=>compD (by rw[e];exact eU _) t
 |cons tst ts=>
  cases ts with
  |cons _ _=>cases h
  |nil=>obtain ⟨d,hi,h⟩:=qC h;obtain ⟨z,hz,h⟩:=qC h;obtain ⟨y,hy,h⟩:=qC h;obtain ⟨hk',rfl⟩:=qS h;obtain ⟨hcm,hk⟩:=Bool.and_eq_true_iff.mp hk';have K:=yD T hk;exact PE.imp (L2.pe_thaw (bD K (by rw[T.N];exact T.nd) (T.calm hcm) (L2.pi_dict (A.e iter d hi)) (vZ (fX hd)) (tt:=some (tDT X.K WF (qJ F z))) fun cl C s3 H3 fp E=>⟨(AA _ _ _ (vF T hk cl C s3 H3 fp E)).e elt y hy,tst,rfl,(AA _ _ _ (vF T hk cl C s3 H3 fp E)).t tst z hz⟩)) fun U H Q t=>compD (eT _ _) t
theorem qNo(T:Body X c F k ex W)(AA:∀ (X:Cx) (c:Cc) (W:WX),Body X c F k ex W->AllOk X c F W r)(h:uR r c elt scope gs=some ce):PE X (.ListComp elt gs scope pos) (tD X.K W (den F ce)):=by
 unfold uR at h;split at h
 ·rename_i q hq;obtain rfl:=qCG hq;cases hd:kK q.iter with
  |true=>rw[hd] at h;exact qNp T AA hd h
  |false=>rw[hd] at h;exact qNm T AA h
 ·cases h
theorem qAL(T:Body X c F k ex W)(AA:∀ (X:Cx) (c:Cc) (W:WX),Body X c F k ex W->AllOk X c F W r)(e:Expr)(ce:CE)(h:eS r c e=some ce):PE X e (tD X.K W (den F ce)):=by
 have A:=AA X c W T;cases e with
 |Constant kc j pos=>exact qNl h
 |Name x pos=>exact qJF T h
 |BinOp a op b pos=>obtain ⟨o,ho,h⟩:=qC h;obtain ⟨x,hx,h⟩:=qC h;obtain ⟨y,hy,h⟩:=qC h;cases h;exact PE.imp (L2.pe_op (qPC ho) (A.e a x hx) (A.e b y hy)) fun _ _ _ t=>two t
 |UnaryOp op a pos=>exact qEs A h
 |BoolOp op es pos=>exact qPA A h
 |IfExp t a b pos=>obtain ⟨z,hz,h⟩:=qC h;obtain ⟨x,hx,h⟩:=qC h;obtain ⟨y,hy,h⟩:=qC h;cases h;exact qNR (A.t t z hz) (A.e a x hx) (A.e b y hy)
 |Compare a ops cs pos=>exact (qC8 T A h).1
 |Tuple es j pos=>obtain ⟨l,hl,h⟩:=qC h;cases h;exact qM9 (A.l es l hl).1
 |List es pos=>obtain ⟨l,hl,h⟩:=qC h;cases h;exact qNO (A.l es l hl).1
 |Subscript a b pos=>exact qF0 A h
 |Call f es ks p=>exact qOH T A h
 |Attribute a f pos=>obtain ⟨kk,hk,h⟩:=qC h;obtain ⟨x,hx,h⟩:=qC h;obtain ⟨hs,rfl⟩:=qS h;exact qNX (T.at' f kk.1 kk.2 hk).1 (A.e a x hx) (jI hs)
 |Dict keys values pos=>exact qMy A h
 |JoinedStr es p=>exact qKp A h
 |ListComp elt gs scope pos=>exact qNo T AA h
 |_=>cases h
theorem qNr(T:Body X c F k ex W)(A:AllOk X c F W r)(h:qAe r c a op b=some ce) :
  PE X (.Compare a [op] [b] pos) (tD X.K W (den F ce))/\PT X (.Compare a [op] [b] pos) (tDT X.K W (qJ F (.val ce))):=by
 obtain ⟨o,ho,h⟩:=qC h;obtain ⟨x,hx,h⟩:=qC h;obtain ⟨y,hy,h⟩:=qC h;obtain ⟨hb,rfl⟩:=qS h;have hb:behindInMarks op b=false:=by simpa using hb
 exact⟨qNa (wE T ho).2 (A.e _ x hx) (A.e _ y hy) hb,qMf (wE T ho).1 (wE T ho).2 (A.e _ x hx) (A.e _ y hy) hb⟩
theorem qGB(T:Body X c F k ex W)(A:AllOk X c F W r)(a:Expr)(op:CmpOp)(b:Expr)(ce:CE)(pos:Pos)(h:qDC r c a op b=some ce) :
  PE X (.Compare a [op] [b] pos) (tD X.K W (den F ce))/\PT X (.Compare a [op] [b] pos) (tDT X.K W (qJ F (.val ce))):=by
 cases op with
 |Is=>
  obtain ⟨x,hx,h⟩:=qC h;unfold sIs at h;cases q:isNone b with
  |true=>
   rw[q] at h;cases h;obtain ⟨j,p',rfl⟩:=qCE q
   exact⟨qNT (A.e _ x hx),qMe (A.e _ x hx)⟩
  |false=>rw[q] at h;cases h
 |IsNot=>
  obtain ⟨x,hx,h⟩:=qC h;unfold sIs at h;cases q:isNone b with
  |true=>
   rw[q] at h;cases h;obtain ⟨j,p',rfl⟩:=qCE q
   exact⟨qNH (A.e _ x hx),qMc (A.e _ x hx)⟩
  |false=>rw[q] at h;cases h
 |_=>exact qNr T A h
theorem qQ0(T:Body X c F k ex W)(hg:c.glob x=some .blt)(ha:PE X a (tD X.K W (den F y)))(h:sB1 c x a y=some ce):PE X (.Call (.Name x p) [a] [] pos) (tD X.K W (den F ce)):=by
 unfold sB1 at h;cases q:bi1 x with
 |some o=>rw[q] at h;obtain ⟨hs,rfl⟩:=qS h;exact qPF T q hg ha hs
 |none=>rw[q] at h;obtain ⟨o,ho,h⟩:=qC h;obtain ⟨hs,rfl⟩:=qS h;obtain ⟨h1,h2⟩:=Bool.and_eq_true_iff.mp hs;exact qPE T h2 ho hg ha h1
theorem qK5 (T:Body X c F k ex W) (A:AllOk X c F W r) {x:Str} (hx:x="isinstance") (hg:c.glob x=some .blt) (h:qAc r c a y=some ce):PE X (.Call (.Name x p) [a,.Name y p2] [] pos) (tD X.K W (den F ce)):=by
 obtain ⟨z,hz,h⟩:=qC h;cases q:tyN y with
 |some t=>rw[q] at h;obtain ⟨hs,rfl⟩:=qS h;obtain ⟨h1,h2⟩:=Bool.and_eq_true_iff.mp hs;exact qK4 T hx q hg h2 (A.e _ z hz) h1
 |none=>rw[q] at h;obtain ⟨w,hw,h⟩:=qC h;obtain ⟨hs,rfl⟩:=qS h;exact qK2 T hx hw hg (A.e _ z hz) hs
theorem qGC(T:Body X c F k ex W)(A:AllOk X c F W r)(x:Str)(es:List Expr)(ce:CE)(p pos:Pos)(hg:c.glob x=some .blt)(h:bS r c x es=some ce):PE X (.Call (.Name x p) es [] pos) (tD X.K W (den F ce)):=by
 rcases es with _ | ⟨a,_ | ⟨b,_ | ⟨d,_ | ⟨_,_⟩⟩⟩⟩
 ·cases h
 ·obtain ⟨y,hy,h⟩:=qC h;exact qQ0 T hg (A.e _ y hy) h
 ·unfold bS at h;cases q:decide (x="isinstance") with
  |true=>simp only[q] at h;obtain ⟨y,hy,h⟩:=qC h;obtain ⟨p2,rfl⟩:=iX hy;exact qK5 T A (of_decide_eq_true q) hg h
  |false=>simp only[q] at h;obtain ⟨o,ho,h⟩:=qC h;obtain ⟨u,hu,h⟩:=qC h;obtain ⟨v,hv,h⟩:=qC h;obtain ⟨hs,rfl⟩:=qS h;obtain ⟨hs,h3⟩:=Bool.and_eq_true_iff.mp hs;obtain ⟨h1,h2⟩:=Bool.and_eq_true_iff.mp hs;exact qPD T h3 ho hg (A.e _ u hu) (A.e _ v hv) h1 h2
 ·cases h
 ·cases h
theorem qF8(A:AllOk X c F W r)(es:List Expr)(cl:CL)(h:lS r c es=some cl):PA X es (tDL X.K W (zA F cl))/\vD es=true:=by
 cases es with
 |nil=>cases h;exact⟨qM4 (es:=[]),rfl⟩
 |cons e es=>
  obtain ⟨x,hx,h⟩:=qC h;obtain ⟨l,hl,h⟩:=qC h;obtain ⟨hs,rfl⟩:=qS h
  exact⟨qM5 (A.e _ x hx) (A.l _ l hl).1 (vN hs),by unfold vD;rw[hs,(A.l _ l hl).2];rfl⟩
theorem qF7(A:AllOk X c F W r)(o:Option Expr)(cp:CP)(h:oS r c o=some cp):PO X o (tDP X.K W (kR F cp)):=by
 cases o with
 |none=>cases h;exact qMi
 |some e=>obtain ⟨x,hx,h⟩:=qC h;cases h;exact qMj (A.e _ x hx)
theorem qGx(A:AllOk X c F W r)(h:sT r c e=some ct):PT X e (tDT X.K W (qJ F ct)):=by
 obtain ⟨x,hx,h⟩:=qC h;obtain ⟨hs,rfl⟩:=qS h;exact qMb (A.e _ x hx) (qHK hs)
theorem qF4(T:Body X c F k ex W)(A:AllOk X c F W r)(e:Expr)(ct:CT)(h:tS r c e=some ct):PT X e (tDT X.K W (qJ F ct)):=by
 cases e with
 |UnaryOp op a pos=>
  cases op with
  |Not=>obtain ⟨x,hx,h⟩:=qC h;cases h;exact qMd (A.t _ x hx)
  |_=>cases h
 |BoolOp op es pos=>exact (A.tb _ _ ct pos h).pt
 |Compare a ops cs pos=>obtain ⟨x,hx,h⟩:=qC h;cases h;exact (qC8 T A hx).2
 |_=>exact qGx A h
theorem qF3(A:AllOk X c F W r)(op:BoolOp)(es:List Expr)(ct:CT)(pos:Pos)(h:tbS r c op es=some ct):L2.PW X (.BoolOp op es pos) (tDT X.K W (qJ F ct)):=by
 cases es with
 |nil=>cases h
 |cons a es=>
  cases es with
  |nil=>
   cases op with
   |And=>exact L2.pw_and1 (A.t _ ct h)
   |Or=>exact L2.pw_or1 (A.t _ ct h)
  |cons b es=>
   obtain ⟨x,hx,h⟩:=qC h;obtain ⟨y,hy,h⟩:=qC h;cases op with
   |And=>cases h;exact qMa (A.t _ x hx) (A.tb _ _ y pos hy)
   |Or=>cases h;exact qMZ (A.t _ x hx) (A.tb _ _ y pos hy)
theorem qF9(T:Body X c F k ex W)(A:AllOk X c F W r)(tg e:Expr)(ci:CI)(h:iS r c e=some ci):PI X tg e (tDI X.K W (jF F ci))/\uV e=true:=by
 unfold iS at h;cases q:iW e with
 |none=>
  rw[q] at h;obtain ⟨z,hz,h⟩:=qC h;obtain ⟨hs,rfl⟩:=qS h
  exact⟨qM2 (A.e _ z hz),hs⟩
 |some es=>
  rw[q] at h;obtain ⟨p,p2,rfl⟩:=qK8 q;rcases es with _ | ⟨a,_ | ⟨b,_ | ⟨_,_⟩⟩⟩
  ·cases h
  ·obtain ⟨z,hz,h⟩:=qC h;obtain ⟨hs,rfl⟩:=qS h;obtain ⟨h1,h2⟩:=Bool.and_eq_true_iff.mp hs;obtain ⟨g1,g2,g3,g4⟩:=T.gl (qCK h2)
   exact⟨qM1 g1 g4 (A.e _ z hz) (zW h1),rfl⟩
  ·obtain ⟨z,hz,h⟩:=qC h;obtain ⟨z',hz',h⟩:=qC h;obtain ⟨hs,rfl⟩:=qS h;obtain ⟨hs,h2⟩:=Bool.and_eq_true_iff.mp hs;obtain ⟨h1,h3⟩:=Bool.and_eq_true_iff.mp hs;obtain ⟨g1,g2,g3,g4⟩:=T.gl (qCK h2)
   exact⟨qM0 g1 g4 (A.e _ z hz) (A.e _ z' hz') (vO h1 h3) (zW h3),rfl⟩
  ·cases h
theorem vM:∀ (n:Nat) (X:Cx) (c:Cc) (W:WX),Body X c F k ex W->AllOk X c F W (rcN n)
 |0,_,_,_,_=>{
   e:=fun _ _ h=>nomatch h
   cmp:=fun _ _ _ _ _ h=>nomatch h
   b:=fun _ _ _ _ _ _ h=>nomatch h
   l:=fun _ _ h=>nomatch h
   o:=fun _ _ h=>nomatch h
   t:=fun _ _ h=>nomatch h
   tb:=fun _ _ _ _ h=>nomatch h
   i:=fun _ _ _ h=>nomatch h }
 |n+1,X,c,W,T=>
  have A:=vM n X c W T
  ⟨qAL T (vM n),qGB T A,qGC T A,qF8 A,qF7 A,qF4 T A,qF3 A,qF9 T A⟩
theorem aN(h:uW e=true):swapsWith e t n env=pure false:=by
 cases e <;> first | rfl | cases h
theorem qQ2(h:bJ i=true)(v:Value):assign (.Subscript o i pos) env v=(do
      let ov <- holding [v] (eval o env)
      let iv <- holding [v,ov] (eval i env)
      standAt pos
      holding [v,ov,iv] (setItem ov iv v)
      release [v,ov,iv] []):=by
  cases i <;> first | rfl | cases h
theorem qGs(ht:wM X.K t g)(hc:X.calm=true)(hi:PI X.nox tg iter (tDI X.K WF (jF F ci)))(hg:PG X.nox tg g)(hb:PSs X.nox body (tDS X.K WF (qB F B cb)))
  (hs:∀ x,foldedSetIterable iter X.env x=pure x):PS X (.For tg iter body [] pos) (tDS X.K W (qB F B (.fori t ci cb))):=PS.imp (PS.nox (L2.ps_for PassesOwn.never hc hi hg hb hs)) fun E U H q=>by
 obtain ⟨Y,env,h,s,r,p⟩:=q;dsimp only[qB] at p;refine⟨Y,env,h,s,r,qDI (PostS.ofR s p fun Y1 h1 it H1 e1 r1 q J hJ=>?_) _⟩;cases it with
 |row xs=>obtain ⟨go,yl,sp⟩:=hJ;exact qBn ht (s.mono e1) r1 go yl sp q
 |pairs xs=>exact (show False from q).elim
 |live k=>obtain ⟨a,ha,rfl⟩:=hJ;exact qKI ht (s.mono e1) r1 ha q
theorem qGh(T:BodyS X c F k ex W)(hi:c.own y=some i)(hc:qCJ e=true)(he:eS (rcN n) c e=some ce):PS X (.Assign [.Name y py] e spos) (tDS X.K W (qB F B (.set (.nm i) ce))):=by
 have AA:=vM (F:=F) (k:=k) (ex:=ex) n;have A:=AA X c W T.toBody;obtain ⟨h1,h2⟩:=T.loc hi;have pe:=qAL T.toBody (vM n) e ce he
 have key:∀ {U:L2.St} {H:Hp} {E:Ends},tDS X.K W (qB F B (.set (.nm i) ce)) E U H->tD X.K W (den F ce) U H fun v H'=>E.nx (U.set i (some v)) H':=fun {U H E} t=>by
  obtain ⟨Y,env,h,s,r,p⟩:=t;dsimp only[qB] at p
  exact⟨Y,env,h,s,r,PostS.ofR s p fun Y' h' d H' e' r' q v hv=>q Y' H' _ (Step.refl _ _) r' ((s.mono e').set i hv)⟩
 cases e with
 |ListComp elt gs scope pos=>
  have he:uR (rcN n) c elt scope gs=some ce:=he;have hc':(match yT gs with | some q=>decide (q.ifs.length<=1)&&!kK q.iter | none=>false)=true:=hc
  obtain ⟨g,hg⟩:∃ g,yT gs=some g:=by
   cases z:yT gs with
   |none=>rw[z] at hc';cases hc'
   |some g=>exact⟨g,rfl⟩
  rw[hg] at hc';have hdn:kK g.iter=false:=by simpa using (Bool.and_eq_true_iff.mp hc').2
  have hsc:bA (rcN n) c elt scope g=some ce:=by
   unfold uR at he;rw[hg] at he;have he:(match kK g.iter with | true=>fH (rcN n) c elt scope g | false=>bA (rcN n) c elt scope g)=some ce:=he;rw[hdn] at he;exact he
  clear hc'
  obtain rfl:=qCG hg;obtain ⟨x,px,iter,ifs⟩:=g;have hsw:swapsWith (.ListComp elt [⟨.Name x px,iter,ifs,0⟩] scope pos) (some (.Name y py)) spos.line X.env=pure (X.env.blockKind == .function&&X.env.kindOf y == some .local&&py.line == (Expr.ListComp elt [⟨.Name x px,iter,ifs,0⟩] scope pos).pos.line&&!(scope.names.any fun (n,k)=>n == y&&(k == .local || k == .cell))):=rfl;cases q:(X.env.blockKind == .function&&X.env.kindOf y == some .local&&py.line == (Expr.ListComp elt [⟨.Name x px,iter,ifs,0⟩] scope pos).pos.line&&!(scope.names.any fun (n,k)=>n == y&&(k == .local || k == .cell))) with
  |false=>rw[q] at hsw;exact qAW T.nd' h1 h2 pe hsw (.inl (T.fn _))
  |true=>
   rw[q] at hsw;simp only[Bool.and_eq_true] at q;have hk:X.env.scope.names.lookup y=some .local:=(show X.env.kindOf y=some .local by simpa using q.1.1.2);cases ifs with
   |nil=>
    obtain ⟨it,hit,he⟩:=qC hsc;obtain ⟨z,hz,he⟩:=qC he;obtain ⟨hko',rfl⟩:=qS he;obtain ⟨hcm,hko⟩:=Bool.and_eq_true_iff.mp hko';have K:=yD T.toBody hko;refine PS.imp (qAx K T.nd' (T.calm hcm) (A.i _ iter it hit).1 (vZ (A.i (.Name x px) iter it hit).2) (tt:=none) (fun cl C s3 H3 fp E=>⟨(AA _ _ _ (vF T.toBody hko cl C s3 H3 fp E)).e elt z hz,rfl⟩) h1 hk hsw) fun E U H t=>cR (f:=fun env x=>jH (den F z) env x) (mi:=jF F it) (eU _) ?_;obtain ⟨Y,env,h,s,r,p⟩:=key t;dsimp only[den] at p
    exact⟨Y,env,h,s,r,p⟩
   |cons tst ts=>
    cases ts with
    |cons _ _=>cases hsc
    |nil=>
     obtain ⟨it,hit,he⟩:=qC hsc;obtain ⟨zt,hzt,he⟩:=qC he;obtain ⟨z,hz,he⟩:=qC he;obtain ⟨hko',rfl⟩:=qS he;obtain ⟨hcm,hko⟩:=Bool.and_eq_true_iff.mp hko';have K:=yD T.toBody hko;refine PS.imp (qAx K T.nd' (T.calm hcm) (A.i _ iter it hit).1 (vZ (A.i (.Name x px) iter it hit).2) (tt:=some (tDT X.K WF (qJ F zt))) (fun cl C s3 H3 fp E=>⟨(AA _ _ _ (vF T.toBody hko cl C s3 H3 fp E)).e elt z hz,tst,rfl,(AA _ _ _ (vF T.toBody hko cl C s3 H3 fp E)).t tst zt hzt⟩) h1 hk hsw) fun E U H t=>cR (f:=fun env x=>jW (den F z) (qJ F zt) env x) (mi:=jF F it) (eT _ _) ?_;obtain ⟨Y,env,h,s,r,p⟩:=key t;dsimp only[den] at p
     exact⟨Y,env,h,s,r,p⟩
 |_=>cases hc
theorem eY(T:BodyS X c F k ex W):BodyS X.nox c.still F k ex WF where
 N:=T.N
 nd:=T.nd
 sc:=T.sc
 calm:=T.calm
 room:=T.room
 hu:=T.hu
 glob:=fun x g h=>by
  have:=T.glob x g h
  cases g <;> exact this
 xc:=fun pins U H s0 e s' I x=>by
  obtain ⟨_,_,_,_,_,_,_,_,_,_,_,_,_,_,_,_,z⟩:=x;cases z
 fn:=T.fn
 stk:=T.stk
 xr:=fun z=>by cases z
 xm:=T.xm
 xq:=T.xq
 xv:=T.xv
 xg:=T.xg
 mt:=T.mt
 at':=T.at'
 noex:=T.noex
 xcl:=T.xcl
theorem qCy(T:BodyS X c F k ex W)(e:Value):BodyS (mark X e) c.dull F k ex WF where
 N:=T.N
 nd:=T.nd
 sc:=T.sc
 calm:=fun z=>by cases z
 room:=fun z=>by cases z
 hu:=T.hu
 glob:=fun x g h=>by
  have:=T.glob x g h
  cases g <;> exact this
 xc:=fun pins U H s0 e s' I x=>by
  obtain ⟨_,_,_,_,_,_,_,_,_,_,_,_,_,_,_,_,z⟩:=x;cases z
 fn:=T.fn
 stk:=T.stk
 xr:=fun z=>by cases z
 xm:=T.xm
 xq:=T.xq
 xv:=T.xv
 xg:=T.xg
 mt:=T.mt
 at':=T.at'
 noex:=T.noex
 xcl:=T.xcl
theorem qL2(T:BodyS X c F k ex W)(pins:List (Addr × Obj))(W1:WX):BodyS (hold X pins fun e s'=>∃ pins' U H s0,Inv (hold X pins fun _ _=>False) pins' U H s0/\CXD X.prog X.w ex X.stack H s0 (fun _ co H'=>∃ c,co=some c/\W1 c U H') e s') c.still F k ex W1 where
 N:=T.N
 nd:=T.nd
 sc:=T.sc
 calm:=T.calm
 room:=T.room
 hu:=T.hu
 glob:=fun x g h=>by
  have:=T.glob x g h
  cases g <;> exact this
 xc:=fun pins' U H s0 e s' I x=>⟨pins',U,H,s0,⟨qBI (qBH I.ok),I.os,I.bare,I.base,I.loc,I.cell,I.free,I.freeC,I.pin,I.hok,I.len⟩,x⟩
 fn:=T.fn
 stk:=T.stk
 xr:=fun z=>by cases z
 xm:=T.xm
 xq:=T.xq
 xv:=T.xv
 xg:=T.xg
 mt:=T.mt
 at':=T.at'
 noex:=T.noex
 xcl:=T.xcl
structure AllS (F:Nat->List D->M D) (k B:Nat) (ex:Nat->Option Addr) (r:Rs):Prop where
 s:∀ (X:Cx) (c:Cc) (W:WX),BodyS X c F k ex W->∀ st cs,r.s c st=some cs->PS X st (tDS X.K W (qB F B cs))
 ss:∀ (X:Cx) (c:Cc) (W:WX),BodyS X c F k ex W->∀ st cs,r.ss c st=some cs->PSs X st (tDS X.K W (qB F B cs))
 h:∀ (X:Cx) (c:Cc) (W:WX),BodyS X c F k ex W->∀ hs ch,r.h c hs=some ch->HOf X F B ex hs ch
theorem qGT(T:BodyS X c F k ex W)(h:qAZ (rcN n) c e t=some cs):PS X (.Assign [t] e spos) (tDS X.K W (qB F B cs)):=by
 have A:=vM (F:=F) (k:=k) (ex:=ex) n X c W T.toBody;cases t with
 |Name x py=>
  obtain ⟨i,hi,h⟩:=qC h;obtain ⟨y,hy,h⟩:=qC h;obtain ⟨hn,rfl⟩:=qS h;obtain ⟨h1,h2⟩:=T.loc hi;rcases Bool.or_eq_true_iff.mp hn with hn | hn
  ·exact qAW T.nd' h1 h2 (A.e _ y hy) (aN hn) (.inl (T.fn _))
  ·cases n with
   |zero=>cases hy
   |succ n=>exact qGh T hi hn hy
 |Attribute o f p=>obtain ⟨kk,hk,h⟩:=qC h;obtain ⟨x,hx,h⟩:=qC h;obtain ⟨y,hy,h⟩:=qC h;obtain ⟨hn,rfl⟩:=qS h;obtain ⟨k1,k2,k3⟩:=T.at' _ kk.1 kk.2 hk;exact qGg k1 k2 (fun c C h1 h2=>k3 c C h1 h2) (A.e _ x hx) (A.e _ y hy) (aN hn)
 |Subscript o i p=>obtain ⟨x,hx,h⟩:=qC h;obtain ⟨z,hz,h⟩:=qC h;obtain ⟨y,hy,h⟩:=qC h;obtain ⟨hn,rfl⟩:=qS h;obtain ⟨h1,h2⟩:=Bool.and_eq_true_iff.mp hn;exact qGf (A.e _ x hx) (A.e _ z hz) (A.e _ y hy) (qQ2 h2) (by unfold swapsWithSole;exact aN h1) rfl
 |_=>cases h
theorem qAD(T:BodyS X c F k ex W)(hc:X.calm=true)(h:gC c tg=some t):∃ g,wM X.K t g/\PG X.nox tg g:=by
 cases tg with
 |Name x p=>
  obtain ⟨i,hi,h⟩:=qC h;cases h;obtain ⟨h1,h2⟩:=T.loc hi
  exact⟨_,qFX i,L2.pg_name (X:=X.nox) T.nd' h1 h2 (.inl (T.fn _))⟩
 |_=>cases h
theorem qMM(S:AllS F k B ex (rsN n))(X:Cx)(c:Cc)(W:WX)(T:BodyS X c F k ex W)(ht:gC c tg=some t)(hz:(rcN n).i c it=some z)(hy:(rsN n).ss c.still a=some y)(hcm:c.calm=true):PS X (.For tg it a [] pos) (tDS X.K W (qB F B (.fori t z y))):=by
 have T':=eY T;have A':=vM (k:=k) (ex:=ex) n X.nox c WF { T'.toBody with };obtain ⟨g,g1,g2⟩:=qAD T (T.calm hcm) ht;exact qGs g1 (T.calm hcm) (A'.i _ _ z hz).1 g2 (S.ss _ _ _ T' _ y hy) (vZ (A'.i (.Name "" ⟨0,0,0,0⟩) _ z hz).2)
theorem qMO(S:AllS F k B ex (rsN n))(X:Cx)(c:Cc)(W:WX)(T:BodyS X c F k ex W)(hd:kK l=true)(h:aZ (rcN n) (rsN n) c tg l a=some cs):PS X (.For tg l a [] pos) (tDS X.K W (qB F B cs)):=by
 unfold aZ at h;obtain ⟨t,ht,h⟩:=qC h;cases t with
 |two i j=>cases h
 |nm i=>obtain ⟨z,hz,h⟩:=qC h;obtain ⟨y,hy,h⟩:=qC h;obtain ⟨hcm,rfl⟩:=qS h;have T':=eY T;have A':=vM (k:=k) (ex:=ex) n X.nox c WF { T'.toBody with };obtain ⟨g,g1,g2⟩:=qAD T (T.calm hcm) ht;exact qGr g1 (T.calm hcm) (A'.e _ z hz) g2 (S.ss _ _ _ T' _ y hy) (vZ (fX hd))
theorem qG5(T:BodyS X c F k ex W)(he:iV e=some x)(h:fE c x=some cs):PS X (.Raise (some e) none pos) (tDS X.K W (qB F B cs)):=by
 obtain ⟨_,_,_,_,_,rfl⟩:=qK7 he;unfold fE at h;cases w:c.glob x with
 |none=>rw[w] at h;cases h
 |some g=>
  rw[w] at h;cases g with
  |exc i=>obtain ⟨hr,rfl⟩:=qS h;obtain ⟨hr1,hr2⟩:=Bool.and_eq_true_iff.mp hr;obtain ⟨g1,g2,g3,C,g4,g5,g6⟩:=T.gl w;exact qGl (T.calm hr2) g1 g2 g4 g6 fun pins U H s a args h' I m hw=>T.xr hr1 pins U H s a args h' i C g5 I m hw
  |_=>cases h
theorem qFJ(S:AllS F k B ex (rsN n))(X:Cx)(c:Cc)(W:WX)(T:BodyS X c F k ex W){fin:List Stmt}(h:qAY (rsN n) c a hs els fin=some cs):PS X (.Try a hs els fin pos) (tDS X.K W (qB F B cs)):=by
 cases hs with
 |nil=>cases h
 |cons hd hs=>
  cases els with
  |cons _ _=>cases h
  |nil=>
   cases fin with
   |cons _ _=>cases h
   |nil=>obtain ⟨x,hx,h⟩:=qC h;obtain ⟨y,hy,h⟩:=qC h;obtain ⟨_,rfl⟩:=qS h;exact qGd T.stk (S.h X c W T _ y hy) fun pins W1=>S.ss _ _ _ (qL2 T pins W1) _ x hx
theorem qF6(S:AllS F k B ex (rsN n))(X:Cx)(c:Cc)(W:WX)(T:BodyS X c F k ex W)(st:Stmt)(cs:CS)(h:stS (rcN n) (rsN n) c st=some cs):PS X st (tDS X.K W (qB F B cs)):=by
 have A:=vM (k:=k) (ex:=ex) n X c W T.toBody;cases st with
 |Assign ts e spos=>
  rcases ts with _ | ⟨t,_ | ⟨_,_⟩⟩
  ·cases h
  ·exact qGT T h
  ·cases h
 |Expr e pos=>obtain ⟨y,hy,h⟩:=qC h;obtain ⟨hn,rfl⟩:=qS h;exact qGt (A.e _ y hy) (aN hn)
 |Return v pos=>
  cases v with
  |none=>cases h;exact qGi
  |some e=>obtain ⟨y,hy,h⟩:=qC h;cases h;exact qGj (A.e _ y hy)
 |Pass pos=>cases h;exact qGm
 |Break pos=>cases h;exact qGw
 |Continue pos=>cases h;exact qGv
 |If t a b pos=>obtain ⟨z,hz,h⟩:=qC h;obtain ⟨x,hx,h⟩:=qC h;obtain ⟨y,hy,h⟩:=qC h;cases h;exact qGq (A.t _ z hz) (S.ss X c W T _ x hx) (S.ss X c W T _ y hy)
 |While t a els pos=>
  cases els with
  |cons _ _=>cases h
  |nil=>obtain ⟨z,hz,h⟩:=qC h;obtain ⟨x,hx,h⟩:=qC h;cases h;have T':=eY T;exact qGb ((vM (k:=k) (ex:=ex) n _ _ _ T'.toBody).t _ z hz) (S.ss _ _ _ T' _ x hx)
 |For tg it a els pos=>
  cases els with
  |cons _ _=>cases h
  |nil=>
   have h:(match kK it with | true=>aZ (rcN n) (rsN n) c tg it a | false=>(gC c tg).bind fun t=>((rcN n).i c it).bind fun z=>((rsN n).ss c.still a).bind fun y=>qO c.calm (.fori t z y))=some cs:=h;cases hd:kK it with
   |true=>rw[hd] at h;exact qMO S X c W T hd h
   |false=>
   rw[hd] at h;obtain ⟨t,ht,h⟩:=qC h;obtain ⟨z,hz,h⟩:=qC h;obtain ⟨y,hy,h⟩:=qC h;obtain ⟨hcm,rfl⟩:=qS h;exact qMM S X c W T ht hz hy hcm
 |Raise x y pos=>
  cases y with
  |some _=>cases h
  |none=>
   cases x with
   |none=>cases h
   |some e=>obtain ⟨x,hx,h⟩:=qC h;exact qG5 T hx h
 |Try a hs els fin pos=>exact qFJ S X c W T h
 |_=>cases h
theorem qGn{st:Stmt}:PS X st (tDS X.K W (qB F B .opq)):=fun pins s U H D I t=>by
 obtain ⟨Y,env,h,st,r,p⟩:=t;dsimp only[qB] at p;cases p
theorem qAX(S:AllS F k B ex (rsN n))(T:BodyS X c F k ex W)(st:Stmt):PS X st (tDS X.K W (qB F B (((rsN n).s c st).getD .opq))):=by
 cases q:(rsN n).s c st with
 |none=>exact qGn
 |some x=>exact S.s X c W T st x q
theorem qGo{st:Stmt}(h1:PS X st (tDS X.K W (qB F B a))):PSs X [st] (tDS X.K W (qB F B a)):=L2.pss_one h1
theorem qF5(S:AllS F k B ex (rsN n))(X:Cx)(c:Cc)(W:WX)(T:BodyS X c F k ex W)(st:List Stmt)(cs:CS)(h:ssS (rsN n) c st=some cs):PSs X st (tDS X.K W (qB F B cs)):=by
 cases st with
 |nil=>cases h;exact qGp
 |cons s r=>
  cases r with
  |nil=>cases h;exact qGo (qAX S T _)
  |cons t r=>obtain ⟨y,hy,h⟩:=qC h;cases h;exact qGu (qAX S T _) (S.ss X c W T _ y hy)
theorem qMD(S:AllS F k B ex (rsN n))(X:Cx)(c:Cc)(W:WX)(T:BodyS X c F k ex W)(hi:c.glob x=some (.exc i))(h:sH (rsN n) c i nm b r=some ch):HOf X F B ex (.ExceptHandler (some (.Name x p)) nm b pos::r) ch:=by
 obtain ⟨g1,g2,g3,C,g4,g5,g6⟩:=T.gl hi;cases b with
 |nil=>cases h
 |cons s b=>
  obtain ⟨cs,hcs,h⟩:=qC h;obtain ⟨kk,hk,h⟩:=qC h;obtain ⟨q,hq,h⟩:=qC h;cases nm with
  |none=>
   cases h
   exact⟨⟨C,g1,g2,g4,fun j D hj=>T.xm i cs C j D hcs g5 hj⟩,⟨_,_,rfl⟩,fun e=>S.ss _ _ _ (qCy T e) _ kk hk,S.h X c W T _ q hq⟩
  |some m=>
   obtain ⟨j,hj,h⟩:=qC h;cases h;unfold Cc.loc at hj;split at hj
   ·rename_i hl
    exact⟨⟨C,g1,g2,g4,fun j D hj=>T.xm i cs C j D hcs g5 hj⟩,⟨_,_,rfl⟩,⟨T.noex,T.nd',by rw[T.N];exact cA hj,by rw[T.sc];exact hl,T.xcl⟩,fun e=>S.ss _ _ _ (qCy T e) _ kk hk,S.h X c W T _ q hq⟩
   ·cases hj
theorem qGA(S:AllS F k B ex (rsN n))(X:Cx)(c:Cc)(W:WX)(T:BodyS X c F k ex W)(hs:List ExceptHandler)(ch:CH)(h:hS (rsN n) c hs=some ch):HOf X F B ex hs ch:=by
 cases hs with
 |nil=>cases h;trivial
 |cons hd r=>
  obtain ⟨ty,nm,b,pos⟩:=hd;cases ty with
  |none=>cases h
  |some t=>
   obtain ⟨x,hx,h2⟩:=qC h;obtain ⟨p,rfl⟩:=iX hx
   clear h
   cases w:c.glob x with
   |none=>rw[w] at h2;cases h2
   |some g=>
    rw[w] at h2;cases g with
    |exc i=>exact qMD S X c W T w h2
    |_=>cases h2
theorem qEV:∀ n,AllS F k B ex (rsN n)
 |0=>{ s:=fun _ _ _ _ _ _ h=>(nomatch h),ss:=fun _ _ _ _ _ _ h=>(nomatch h),h:=fun _ _ _ _ _ _ h=>(nomatch h) }
 |n+1=>
  have S:=qEV n
  ⟨qF6 S,qF5 S,qGA S⟩
end
structure Df where
 name:Str
 qual:Str
 st:Stmt
 N:List Str
 ps:List Str
structure DfOk (G:List (Str × GK)) (xs:List (Nat × List Nat)) (Mt:List (Str × Nat × List (Nat × Nat))) (At:List (Str × Nat × List Nat)) (d:Df) (f:Fn):Prop where
 sc:L2.FnScope d.N d.ps (L2.defScope d.st)
 cp:cSs ⟨d.N,L2.defScope d.st,G,xs,true,true,Mt,At⟩ 100 (L2.defBody d.st)=some f.body
 ar:f.ar=d.ps.length
 sl:f.sl=d.N.length
def wG(K:PySem.W.Frag)(d:Df)(f:Addr)(fd:FuncData):Prop:=L2.Fun K d.name d.qual d.st f fd/\L2.Binds K fd d.ps []
def qRC(mg:Str->Option Value)(x:Str)(d:D):Prop:=∃ v u,mg x=some u/\RelV v u/\∀ K Y H,RepV K Y H d v
def zV(K:PySem.W.Frag)(xl:List Nat)(c:Nat):Option Addr:=if xl.contains c then (match PySem.W.nsIn K mainGlobals (qD c) with | some (some (.ref C))=>some C | _=>none) else none
theorem yZ{K:PySem.W.Frag}(h:zV K xl c=some C):c∈xl/\zK K c C:=by
 unfold zV at h;split at h
 ·rename_i q;refine⟨by simpa using q,?_⟩;split at h
  ·rename_i C' z;cases h;exact z
  ·cases h
 ·cases h
theorem cJ{K:PySem.W.Frag}(hc:xl.contains c=true)(hx:qD c=x)(h:PySem.W.nsIn K mainGlobals x=some (some (.ref C))):zV K xl c=some C:=by
 unfold zV;rw[if_pos hc,hx,h]
theorem gO{K:PySem.W.Frag}{D:Addr}(h:zK K c D)(hx:qD c=x)(ha:PySem.W.nsIn K mainGlobals x=some (some (.ref C))):D=C:=by
 unfold zK at h;rw[hx,ha] at h;cases h;rfl
theorem qMT {K:PySem.W.Frag} {D:Addr} (hc:PySem.W.isClsIn K C=true) (ht:PySem.W.typeIn K (.ref C)=some (.type "type")) (hb:PySem.W.subIn K (.ref C) (.type "BaseException")=some true) (hs:PySem.W.subIn K (.ref D) (.ref C)=some b) :
  PySem.W.exmOne K (.ref D) (.ref C)=some b:=by
 unfold PySem.W.exmOne;rw[hb,if_pos (show (some true == some true)=true from rfl)];unfold PySem.W.kitCls;have hc':(PySem.W.clsIn K C).isSome=true:=hc;simp only;rw[hc',ht,if_pos (show (true&&some (Value.type "type") == some (Value.type "type"))=true by decide),hs]
def GlP(K:PySem.W.Frag)(mg:Str->Option Value)(xl:List Nat)(ds:List Df)(x:Str)(g:GK):Prop:=match g with
 | .fn i=>∃ d f fd,ds[i]?=some d/\mg x=some (.ref f)/\wG K d f fd
 | .con d=>qRC mg x d
 | .blt=>mg x=none
 | .exc c=>∃ C,mg x=some (.ref C)/\zV K xl c=some C/\wY K C=true
 | .cls c i=>∃ C d f fd,mg x=some (.ref C)/\zK K c C/\L2.Cls K C/\L2.Mk K C f/\ds[i]?=some d/\wG K d f fd
def MtP(K:PySem.W.Frag)(ds:List Df)(m:Str)(mk:Nat)(tb:List (Nat × Nat)):Prop:=m=qD mk/\mk<256 ^ 60/\∀ cc fi C,tbN tb cc=some fi->zK K cc C->L2.Cls K C/\∃ d f fd,L2.Meth K C m f/\ds[fi]?=some d/\wG K d f fd
def AtP(K:PySem.W.Frag)(f:Str)(kk:Nat)(cs:List Nat):Prop:=f=qD kk/\kk<256 ^ 60/\∀ cc C,cs.contains cc=true->zK K cc C->L2.NoAttr K C (qD kk)
def AllP{α:Type}(P:α->Prop):List α->Prop
 | []=>True
 |a::r=>P a/\AllP P r
theorem AllP.of{α:Type}{P:α->Prop}{l:List α}(h:AllP P l){a:α}(ha:a∈l):P a:=by
 induction l with
 |nil=>cases ha
 |cons b r ih=>
  rcases List.mem_cons.mp ha with e | e
  ·rw[e];exact h.1
  ·exact ih h.2 e
def AllZ{α β:Type}(P:α->β->Prop):List α->List β->Prop
 |a::r,b::q=>P a b/\AllZ P r q
 |_,_=>True
theorem AllZ.of{α β:Type}{P:α->β->Prop}{l:List α}{m:List β}(h:AllZ P l m){i:Nat}{a:α}{b:β}(ha:l[i]?=some a)(hb:m[i]?=some b):P a b:=by
 induction l generalizing m i with
 |nil=>cases ha
 |cons x r ih=>
  cases m with
  |nil=>cases hb
  |cons y q=>
   cases i with
   |zero=>cases ha;cases hb;exact h.1
   |succ i=>exact ih h.2 (by simpa using ha) (by simpa using hb)
def qF(d:Df):Prop:=∀ (kV doc pm:Value) (an:Option Addr) (cdv ct:Value) (us:List Value),us.length=d.ps.length->bindArgs (PySem.W.fnOf d.name d.qual (L2.defArgs d.st) (L2.defBody d.st) (L2.defScope d.st) .none kV doc pm an cdv ct) ⟨us,[]⟩=pure (d.ps.zip us)
section
variable {P:List Value->Prop}
theorem ar0(h:P []):∀ us:List Value,us.length=0->P us:=fun us e=>by
 cases us with
 |nil=>exact h
 |cons a r=>cases e
theorem arS{n:Nat}(h:∀ a us,us.length=n->P (a::us)):∀ us:List Value,us.length=n+1->P us:=fun us e=>by
 cases us with
 |nil=>cases e
 |cons a r=>exact h a r (Nat.succ.inj e)
theorem ar1(h:∀ a,P [a]):∀ us:List Value,us.length=1->P us:=arS fun a=>ar0 (h a)
theorem ar2(h:∀ a b,P [a,b]):∀ us:List Value,us.length=2->P us:=arS fun a=>ar1 (h a)
theorem ar3(h:∀ a b c,P [a,b,c]):∀ us:List Value,us.length=3->P us:=arS fun a=>ar2 (h a)
theorem ar4(h:∀ a b c d,P [a,b,c,d]):∀ us:List Value,us.length=4->P us:=arS fun a=>ar3 (h a)
theorem ar5(h:∀ a b c d e,P [a,b,c,d,e]):∀ us:List Value,us.length=5->P us:=arS fun a=>ar4 (h a)
theorem ar6(h:∀ a b c d e f,P [a,b,c,d,e,f]):∀ us:List Value,us.length=6->P us:=arS fun a=>ar5 (h a)
end
theorem qM3{K:PySem.W.Frag}(p:qF d)
  (l:K.lookup f=some ⟨oc,od,.func (PySem.W.fnOf d.name d.qual (L2.defArgs d.st) (L2.defBody d.st) (L2.defScope d.st) .none kV doc pm an cdv ct),osl⟩) (c:PySem.W.codeIn K cdv d.qual=true) (k:PySem.W.keepIn K (.ref f)=true) :
  ∃ fd,wG K d f fd:=⟨_,L2.fun_mk l c k,(L2.fun_mk l c k).binds p⟩
section
variable {K:PySem.W.Frag}{mg:Str->Option Value}{xl:List Nat}{ds:List Df}{h:Heap}{x:Str}
theorem qU(X:K.In h)(Gm:h.Ns mainGlobals mg)(hd:ds[i]?=some d)(a:PySem.W.nsIn K mainGlobals x=some (some (.ref f)))(D:∃ fd,wG K d f fd):GlP K mg xl ds x (.fn i):=by
 obtain ⟨fd,D⟩:=D
 exact⟨d,f,fd,hd,PySem.W.mg_of X Gm a,D⟩
theorem cF(X:K.In h)(Gm:h.Ns mainGlobals mg)(hd:ds[i]?=some d)(hx:qD c=x)(a:PySem.W.nsIn K mainGlobals x=some (some (.ref C)))(q:L2.Cls K C)(m:L2.Mk K C f)(D:∃ fd,wG K d f fd):GlP K mg xl ds x (.cls c i):=by
 obtain ⟨fd,D⟩:=D
 exact⟨C,d,f,fd,PySem.W.mg_of X Gm a,(by unfold zK;rw[hx];exact a),q,m,hd,D⟩
theorem yB(X:K.In h)(Gm:h.Ns mainGlobals mg)(hc:xl.contains c=true)(hx:qD c=x)(a:PySem.W.nsIn K mainGlobals x=some (some (.ref C)))(e:wY K C=true):GlP K mg xl ds x (.exc c):=
 ⟨C,PySem.W.mg_of X Gm a,cJ hc hx a,e⟩
theorem zM(X:K.In h)(Gm:h.Ns mainGlobals mg)(a:PySem.W.nsIn K mainGlobals x=some (some (.int n t))):GlP K mg xl ds x (.con (.int n)):=⟨.int _,_,PySem.W.mg_of X Gm a,⟨_,rfl⟩,fun _ _ _=>rfl⟩
theorem kF(X:K.In h)(Gm:h.Ns mainGlobals mg)(a:PySem.W.nsIn K mainGlobals x=some none):GlP K mg xl ds x .blt:=PySem.W.mg_none_of X Gm a
end
structure Top (K:PySem.W.Frag) (mg:Str->Option Value) (G:List (Str × GK)) (xs:List (Nat × List Nat)) (xl:List Nat) (Mt:List (Str × Nat × List (Nat × Nat))) (At:List (Str × Nat × List Nat)) (ds:List Df) (fns:List Fn):Prop where
 ok:∀ (i:Nat) (d:Df) (f:Fn),ds[i]?=some d->fns[i]?=some f->DfOk G xs Mt At d f
 len:ds.length=fns.length
 gl:∀ x g,(x,g)∈G->GlP K mg xl ds x g
 mt:∀ m mk tb,(m,mk,tb)∈Mt->MtP K ds m mk tb
 at':∀ f kk cs,(f,kk,cs)∈At->AtP K f kk cs
 xm:∀ (i:Nat) (cs:List Nat) (C:Addr) (j:Nat) (D:Addr),(i,cs)∈xs->zV K xl i=some C->zV K xl j=some D->PySem.W.exmOne K (.ref D) (.ref C)=some (cs.contains j)
 xk:∀ (i:Nat) (cs:List Nat),(i,cs)∈xs->xl.contains i=true->cs.contains i=true
 xl1:∀ (cs:List Nat),(1,cs)∈xs->cs=xl
 xv:∀ (cs:List Nat) (j:Nat) (D:Addr),(0,cs)∈xs->zV K xl j=some D->PySem.W.exmOne K (.ref D) (.type "ValueError")=some (cs.contains j)
 xg:∀ (j:Nat) (D:Addr),zV K xl j=some D->XGet K D
section
variable {K:PySem.W.Frag}{mg:Str->Option Value}{xl:List Nat}{ds:List Df}{h:Heap}{x:Str}
theorem df_mk'(p:qF d)(hn:d.name=nm)(hq:d.qual=ql)
  (l:K.lookup f=some ⟨oc,od,.func (PySem.W.fnOf nm ql (L2.defArgs d.st) (L2.defBody d.st) (L2.defScope d.st) .none kV doc pm an cdv ct),osl⟩) (c:PySem.W.codeIn K cdv ql=true) (k:PySem.W.keepIn K (.ref f)=true):∃ fd,wG K d f fd:=by
 subst hn hq;exact qM3 p l c k
theorem qMF(X:K.In h)(Gm:h.Ns mainGlobals mg)(hz:z=⟨tx.toArray⟩)(a:PySem.W.nsIn K mainGlobals x=some (some (.str z t))):GlP K mg xl ds x (.con (.str tx)):=⟨.str z,_,PySem.W.mg_of X Gm a,⟨_,rfl⟩,fun _ _ _=>by rw[hz];rfl⟩
theorem aJ {P:Prop} (X:K.In h) (a:PySem.W.nsIn K mainGlobals x=some (some (.ref C))) (b:PySem.W.plainGet K C Str.empty=true) (c:PySem.W.hasDictIn K C=true) (d:PySem.W.plainOver K C=true) (e:PySem.W.findIn K (.ref C) "__setattr__"=some (some (.builtin "object.__setattr__"))) (k:PySem.W.nsIn K mainGlobals x=some (some (.ref C))->L2.Cls K C->P):P:=k a ⟨b,c,d,e⟩
theorem wI {P:Prop} (X:K.In h) (a:PySem.W.nsIn K mainGlobals x=some (some (.ref C))) (b:PySem.W.excIn K C [.type "ValueError",.type "Exception",.type "BaseException",.type "object"] "ValueError.__new__"=true) (k:PySem.W.nsIn K mainGlobals x=some (some (.ref C))->wY K C=true->P):P:=k a b
theorem mt_nil(h1:qD mk=m)(h2:mk<256 ^ 60):MtP K ds m mk []:=⟨h1.symm,h2,fun _ _ _ z=>by cases z⟩
theorem mt_cons(hx:qD c=x)(hn:PySem.W.nsIn K mainGlobals x=some (some (.ref C)))(h3:L2.Cls K C)(hm:L2.Meth K C m f)(hd:ds[i]?=some d)(D:∃ fd,wG K d f fd)(r:MtP K ds m mk tb):MtP K ds m mk ((c,i)::tb):=
 ⟨r.1,r.2.1,fun cc fi E ht hE=>by
  unfold tbN at ht;split at ht
  ·rename_i q;have q:c=cc:=by simpa using q
   subst q;cases ht;cases gO hE hx hn;obtain ⟨fd,D⟩:=D
   exact⟨h3,d,f,fd,hm,hd,D⟩
  ·exact r.2.2 cc fi E ht hE⟩
theorem at_nil(h1:qD kk=f)(h2:kk<256 ^ 60):AtP K f kk []:=⟨h1.symm,h2,fun _ _ z=>by cases z⟩
theorem at_cons(hx:qD c=x)(hn:PySem.W.nsIn K mainGlobals x=some (some (.ref C)))(h3:PySem.W.findIn K (.ref C) f=some none)(r:AtP K f kk cs):AtP K f kk (c::cs):=
 ⟨r.1,r.2.1,fun cc D hc hD=>by
  rw[List.contains_cons,Bool.or_eq_true] at hc;rcases hc with e | e
  ·have e:cc=c:=by simpa using e
   subst e;cases gO hD hx hn;unfold L2.NoAttr;rw[<- r.1];exact h3
  ·exact r.2.2 cc D e hD⟩
def XsP(K:PySem.W.Frag)(C:Addr)(cs:List Nat)(j:Nat):Prop:=∀ D,zK K j D->PySem.W.subIn K (.ref D) (.ref C)=some (cs.contains j)
theorem xs_mk{D:Addr}(hx:qD j=x)(a:PySem.W.nsIn K mainGlobals x=some (some (.ref D)))(hb:cs.contains j=b)(hs:PySem.W.subIn K (.ref D) (.ref C)=some b):XsP K C cs j:=fun E hE=>by
 cases gO hE hx a;rw[hb];exact hs
def XmP(K:PySem.W.Frag)(xl:List Nat)(i:Nat)(cs:List Nat):Prop:=∀ C,zV K xl i=some C->∀ j D,zV K xl j=some D->PySem.W.exmOne K (.ref D) (.ref C)=some (cs.contains j)
theorem xm_skip(hx:xl.contains i=false):XmP K xl i cs:=fun C hC=>by
 unfold zV at hC;rw[hx] at hC;cases hC
theorem xm_mk (hx:qD i=x) (a:PySem.W.nsIn K mainGlobals x=some (some (.ref C))) (hc:PySem.W.isClsIn K C=true) (ht:PySem.W.typeIn K (.ref C)=some (.type "type")) (hb:PySem.W.subIn K (.ref C) (.type "BaseException")=some true) (r:AllP (XsP K C cs) xl):XmP K xl i cs:=fun E hE j D hD=>by
 cases gO (yZ hE).2 hx a;obtain ⟨hj,hD⟩:=yZ hD;exact qMT hc ht hb (r.of hj D hD)
def XgP(K:PySem.W.Frag)(j:Nat):Prop:=∀ D,zK K j D->XGet K D
theorem wH(hx:qD j=x)(a:PySem.W.nsIn K mainGlobals x=some (some (.ref C)))(g:XGet K C):XgP K j:=fun D hD=>by
 cases gO hD hx a;exact g
theorem qFN{G:List (Str × GK)}{xs:List (Nat × List Nat)}{Mt:List (Str × Nat × List (Nat × Nat))}{At:List (Str × Nat × List Nat)}{fns:List Fn}(ok:AllZ (fun d f=>DfOk G xs Mt At d f) ds fns)(len:ds.length=fns.length)(gl:AllP (fun p:Str × GK=>GlP K mg xl ds p.1 p.2) G)
  (mt:AllP (fun p:Str × Nat × List (Nat × Nat)=>MtP K ds p.1 p.2.1 p.2.2) Mt) (at':AllP (fun p:Str × Nat × List Nat=>AtP K p.1 p.2.1 p.2.2) At) (xm:AllP (fun p:Nat × List Nat=>XmP K xl p.1 p.2) xs) (xk:xs.all (fun p=>!xl.contains p.1 || p.2.contains p.1)=true) (xl1:xs.all (fun p=>decide (p.1≠1) || decide (p.2=xl))=true)
  (xv:xs.all (fun p=>decide (p.1≠0))=true) (xg:AllP (XgP K) xl):Top K mg G xs xl Mt At ds fns where
 ok:=fun _ _ _ hd hf=>ok.of hd hf
 len:=len
 gl:=fun _ _ hg=>gl.of hg
 mt:=fun _ _ _ hm=>mt.of hm
 at':=fun _ _ _ hf=>at'.of hf
 xm:=fun _ _ C j D hi hC hD=>xm.of hi C hC j D hD
 xk:=fun i cs hi hx=>by
  have:=List.all_eq_true.mp xk _ hi
  rw[show xl.contains (i,cs).1=true from hx] at this;exact this
 xl1:=fun cs hi=>by
  have:=List.all_eq_true.mp xl1 _ hi
  simpa using this
 xv:=fun cs j D hi _=>by
  have:=List.all_eq_true.mp xv _ hi
  simp at this
 xg:=fun j D hD=>xg.of (yZ hD).1 D (yZ hD).2
end
theorem lookup_mem'{α β:Type}[BEq α][LawfulBEq α]{l:List (α × β)}{x:α}{g:β}(h:l.lookup x=some g):(x,g)∈l:=by
 induction l with
 |nil=>cases h
 |cons p l ih=>
  obtain ⟨a,b⟩:=p;rw[List.lookup_cons] at h;cases q:(x == a) with
  |true=>
   rw[q] at h;cases h
   have:x=a:=by simpa using q
   subst this;exact List.mem_cons_self ..
  |false=>rw[q] at h;exact List.mem_cons_of_mem _ (ih h)
theorem PostS.fin{K:PySem.W.Frag}(p:PostV K w Q Y H (fin r)):PostS K (fun c _ H'=>w c H') { nx:=fun _ H'=>Q .non H',rt:=Q } Y H r:=by
 cases r with
 |nx e h=>exact fun Y' H' st e' r' s'=>p Y' H' e' r' .non rfl
 |rt d h=>exact fun Y' H' v e' r' hv=>p Y' H' e' r' v hv
 |bk e h=>cases p
 |ct e h=>cases p
 |exc c e h=>exact fun Y' H' st e' r' s'=>p Y' H' e' r'
 |bad=>cases p
theorem PSs.wish{st:List Stmt}(h:PSs (X.wish E) st t)(hE:∀ e s,E e s->X.xe e s):PSs X st t:=fun pins s U H D I hw=>
 wpAny_mono (h pins s U H D (I.wish _) hw) (fun _ _ q=>q.unwish) hE
theorem RepS.start{K:PySem.W.Frag}(l:RepL K Y H ds vs)(hn:n=N.length-vs.length):RepS K Y H (ds.map some++List.replicate n none) (L2.start N vs):=by
 subst hn;unfold L2.start;refine⟨by simp[l.length],fun i d hi=>?_⟩
 by_cases hlt:i<ds.length
 ·rw[List.getElem?_append_left (by simpa using hlt),List.getElem?_map] at hi;cases q:ds[i]? with
  |none=>rw[q] at hi;cases hi
  |some d'=>rw[q] at hi;cases hi;obtain ⟨v,h1,h2⟩:=l.get q;refine⟨v,?_,h2⟩;rw[List.getElem?_append_left (by simpa [l.length] using hlt),List.getElem?_map,h1];rfl
 ·rw[List.getElem?_append_right (by simpa using hlt),List.getElem?_replicate] at hi;split at hi <;> cases hi
def qDX(X0:Cx)(ex:Nat->Option Addr)(E:XK):Value->Shared->Prop:=fun e s'=>
 (∃ pins U H1 s1,Inv X0 pins U H1 s1/\CXD X0.prog X0.w ex X0.stack H1 s1 (fun _ co H'=>∃ c,co=some c/\∀ e,E e (some c) H') e s') \/
 (∃ pins U H1 s1 a args h' c C,ex c=some C/\Inv X0 pins U H1 s1/\Heap.MadeExcOf s1.heap h' a (.ref C) args/\(∀ e,E e (some c) H1)/\e=.ref a/\s'={ s1 with heap:=h' })
theorem cI{K:PySem.W.Frag}(T:Top K mg G xs xl Mt At ds fns) :
  ∀ (n i:Nat) (d:Df) (f:Addr) (fd:FuncData),ds[i]?=some d->L2.Fun K d.name d.qual d.st f fd->L2.FnOk P w K mg base (CXD P w (zV K xl)) (2*n) f fd d.ps (spD K (qA fns B n i))
 |0,i,d,f,fd,hi,hf=>by
  refine⟨fun vs H Q E h=>?_,fun A outer s H args us vs Q E hr he hb hv h=>?_⟩
  ·obtain ⟨Y,h0,ds,_,_,p⟩:=h;cases p
  ·obtain ⟨Y,h0,ds,_,_,p⟩:=h;cases p
 |n+1,i,d,f,fd,hi,hf=>by
  have hil:=(List.getElem?_eq_some_iff.mp hi).1;have hfi:fns[i]?=some (fns[i]'(by rw[<- T.len];exact hil)):=List.getElem?_eq_getElem _;generalize fns[i]'(by rw[<- T.len];exact hil)=fn at hfi;have O:=T.ok i d fn hi hfi
  have key:∀ {ds:List D} {h:AH},qA fns B (n+1) i ds h=fI (qA fns B n) B fn ds h:=by
   intro ds h;rw[qA,hfi]
  have arity:∀ {w:W1} {Q:VK} {Y:List Addr} {H:Hp} {ds:List D} {h:AH},PostV K w Q Y H (qA fns B (n+1) i ds h)->ds.length=fn.ar/\PostV K w Q Y H (fin (qB (qA fns B n) B fn.body (ds.map some++List.replicate (fn.sl-fn.ar) none) h)):=by
   intro w Q Y H ds h p;rw[key,fI] at p;exact PostV.ite p
  obtain ⟨oc,od,kV,doc,pm,an,cdv,ct,osl,rfl,lk,hcd⟩:=hf.ex;refine L2.fn_of lk hcd O.sc (fun vs H Q E h=>?_) fun A outer s H vs Q E hr h=>?_
  ·obtain ⟨Y,h0,ds,_,l,p⟩:=h;rw[l.length,(arity p).1,O.ar]
  ·obtain ⟨Y,h0,ds',r,l,p⟩:=h;obtain ⟨ha,p⟩:=arity p;refine⟨tDS K (fun c _ H'=>∀ e,E e (some c) H') (qB (qA fns B n) B fn.body),?_,Y,ds'.map some++List.replicate (fn.sl-fn.ar) none,h0,RepS.start l (by rw[O.sl,l.length,ha]),r,PostS.fin p⟩;refine PSs.wish (E:=qDX (cxX (zV K xl) P w K mg base d.N d.qual (L2.defScope d.st) f cdv A outer s H E) (zV K xl) E) ?_ fun e s' z=>?_
   ·have T':BodyS ((cxX (zV K xl) P w K mg base d.N d.qual (L2.defScope d.st) f cdv A outer s H E).wish (qDX (cxX (zV K xl) P w K mg base d.N d.qual (L2.defScope d.st) f cdv A outer s H E) (zV K xl) E)) ⟨d.N,L2.defScope d.st,G,xs,true,true,Mt,At⟩ (qA fns B n) (2*n) (zV K xl) (fun c _ H'=>∀ e,E e (some c) H'):=by
     refine⟨⟨rfl,O.sc.nd,rfl,fun _=>rfl,fun _=>hr,hr.units,fun x g hg=>?_,fun i cs xl' C j D h h1 hC hD hj=>?_,fun cs xl' j D h h1 hD hj=>?_,fun m mk tb hm=>?_,fun f kk cs hf=>T.at' f kk cs (lookup_mem' hf),fun xl' j D h1 hD hj=>?_,fun pins U H1 s1 e s' I x=>.inl ⟨pins,U,H1,s1,I.unwish,x⟩⟩,fun _=>rfl,⟨rfl,rfl⟩,rfl,fun i C h=>(yZ h).2,fun _ pins U H1 s1 a args h' c C hc I m hw=>.inr ⟨pins,U,H1,s1,a,args,h',c,C,hc,I.unwish,m,hw,rfl,rfl⟩,fun i cs C j D h=>T.xm i cs C j D (lookup_mem' h)⟩
     ·have gm:=T.gl x g (lookup_mem' hg);cases g with
      |fn j=>
       obtain ⟨d',f',fd',hd',hm,hF,hB⟩:=gm
       exact⟨f',fd',d'.ps,hm,hF.kp,hB,cI T n j d' f' fd' hd' hF⟩
      |con e=>
       obtain ⟨v,u,h1,h2,h3⟩:=gm
       exact⟨v,u,h1,h2,fun Y H=>h3 _ Y H⟩
      |blt=>exact gm
      |exc c=>exact gm
      |cls c j=>
       obtain ⟨C,d',f',fd',hm,h1,h2,h3,hd',hF,hB⟩:=gm
       exact⟨C,f',fd',d'.ps,hm,h1,h2,h3,hB,cI T n j d' f' fd' hd' hF⟩
     ·have e:=T.xl1 _ (lookup_mem' h1);subst e;have hD':=cJ hj rfl hD;have q1:=T.xm i cs C j D (lookup_mem' h) hC hD';refine qBu q1 fun z=>?_;have e:D=C:=Value.ref.inj (beq_iff_eq.mp z);subst e;have q2:=T.xm i cs D i D (lookup_mem' h) hC hC;rw[T.xk i cs (lookup_mem' h) (by simpa using (yZ hC).1)] at q2;exact Option.some.inj (q1.symm.trans q2)
     ·have e:=T.xl1 _ (lookup_mem' h1);subst e;exact qBu (T.xv cs j D (lookup_mem' h) (cJ hj rfl hD)) fun z=>by cases beq_iff_eq.mp z
     ·obtain ⟨m1,m2,m3⟩:=T.mt m mk tb (lookup_mem' hm);refine⟨m1,m2,fun cc fi C ht hC=>?_⟩;obtain ⟨k1,d',f',fd',k2,k3,k4,k5⟩:=m3 cc fi C ht hC
      exact⟨k1,f',fd',d'.ps,k2,k5,cI T n fi d' f' fd' k3 k4⟩
     ·have e:=T.xl1 _ (lookup_mem' h1);subst e;exact T.xg j D (cJ hj rfl hD)
    exact (qEV 100).ss _ _ _ T' _ _ O.cp
   ·rcases z with⟨pins,U,H1,s1,I,x⟩ | ⟨pins,U,H1,s1,a,args,h',c,C,hc,I,m,hw,rfl,rfl⟩
    ·exact qKN (W:=fun c _ H'=>∀ e,E e (some c) H') (fun _ _ _ z=>z) I x
    ·exact qKM (W:=fun c _ H'=>∀ e,E e (some c) H') (fun _ _ _ z=>z) I hc m hw
theorem qKP{K:PySem.W.Frag}(hm:∀ ns:List Int,ns.length<=63->∃ h',m [.ref 0] [.rol (ns.map .int)]=.ok (.bl true) h')(H:Hp)(a:Addr)(ns:List Int)(hl:ns.length<=63)(hO:L2.Only H)(hS:SqL K H a (ns.map V.int)) :
  spD K m [.ref a] H (fun v _=>v=.bl true) E:=by
 have hr:∀ ns:List Int,RepL K [a] H (ns.map .int) (ns.map V.int):=fun ns=>by
  induction ns with
  |nil=>rfl
  |cons x ns ih=>exact⟨_,_,rfl,rfl,ih⟩
 refine⟨[a],[.rol (ns.map .int)],[.ref 0],⟨rfl,fun i o hi=>?_,fun i j b o1 o2 hi hj m1 m2 _ _=>?_⟩,⟨.ref a,[],rfl,⟨a,rfl,rfl⟩,rfl⟩,?_⟩
 ·cases i with
  |succ i=>simp at hi
  |zero=>
   cases hi;refine⟨a,rfl,ns.map V.int,?_,hr ns⟩;rcases hS with (h | ⟨o,h⟩) | h
   ·rcases hO a with z | ⟨o,xs,z⟩
    ·rw[h] at z;cases z
    ·rw[h] at z;cases z
   ·exact .inl ⟨o,h⟩
   ·exact .inr h
 ·cases i with
  |succ i=>simp at hi
  |zero=>cases hi;cases m1
 ·obtain ⟨h',e⟩:=hm ns hl;rw[e];exact fun Y' H' _ _ v hv=>hv
theorem walk{l:PySem.W.OpenLaw}{K:Params->PySem.W.Frag}
  (hn:l.most=some 63) (hdf:dr.params.defaults=[]) (hi:ds[i]?=some d) (hG:(dr.name,GK.fn i)∈G) (hq:d.qual=d.name) (hps:d.ps=[x])
  (hY:∀ (w:World) (h:Heap),YP w h->(K w.params).In h)
  (T:∀ (w:World) (mg:Str->Option Value) (h:Heap),(K w.params).In h->h.Ns mainGlobals mg->Top (K w.params) mg G xs xl Mt At ds fns)
  (hm:∀ ns:List Int,ns.length<=63->∃ h',qA fns B 40 i [.ref 0] [.rol (ns.map .int)]=.ok (.bl true) h')
  (hbnd:∀ (fd:FuncData) (f:Addr) (K:PySem.W.Frag),L2.Fun K d.name d.name d.st f fd->∀ (s:Shared) (u:Value),BindsTo s fd ⟨[u],[]⟩ [(x,u)]) :
  PySem.W.WalkO q loose XP YP l.row.toRowW dr [] (fun f vs=>PySem.call f vs):=by
 refine L2.walk_of (n:=63) (k:=80) (x:=x) (K:=K) (CX:=fun w=>CXD l.prog w (zV (K w.params) xl)) (sp:=fun w=>spD (K w.params) (qA fns B 40 i)) hn (by decide) hdf ⟨rfl,by decide,by decide⟩ hY (fun w mg fa h KX Gm hmg=>?_) (fun w H a ns hl hO hS=>qKP hm H a ns hl hO hS) fun w H s e s' z=>?_
 ·have T':=T w mg h KX Gm;obtain ⟨d',f,fd,h0,h1,h2,h3⟩:=T'.gl _ _ hG;rw[hi] at h0;cases h0;rw[h1] at hmg;cases hmg;refine⟨fd,hbnd fd _ _ (hq ▸ h2),fun base kb nb=>?_⟩
  have:=cI (P:=l.prog) (w:=w) (base:=base) (B:=B) T' 40 i d _ fd hi h2
  rw[hps] at this;exact this
 ·obtain ⟨_,_,_,_,_,_,_,_,_,_,_,_,_,_,q⟩:=z;exact q
end Fy
namespace Lk41
open Fy PySem

abbrev _root_.Fy.CE.n(i:Int):CE:=.lit (.int i)
abbrev FE:List Nat:=[332437021739526678278002,91742370622580,22077439339750245,86240048210286,5651827816973820269,73059263014254,23766421875286888]
abbrev aH:Nat:=5651827816973820269
abbrev aI:Nat:=73059263014254
abbrev zZ:Nat:=23766421875286888
abbrev zC:Nat:=21785059625889383
abbrev zH:Nat:=358300611685
abbrev qP:Nat:=362411681138
abbrev qW:Nat:=1215263604
abbrev qBz:Nat:=1835626085
abbrev iK:Nat:=521561010803
abbrev qB0:Nat:=115944243160436
abbrev vY:Nat:=1952807028
abbrev gA:Nat:=495806672499
abbrev bU:Nat:=108187682958948
abbrev bT:Nat:=1919905645
abbrev qBx:Nat:=495739565157
abbrev iL:Nat:=8390043809167535716
abbrev iN:Nat:=1919246692
abbrev iP:Nat:=465625246068
abbrev qB1:Nat:=29681726098730597
abbrev qKn:Nat:=1836020596
abbrev qKo:Nat:=108256335193460
abbrev iQ:Nat:=1818846821
abbrev iO:Nat:=30792258880630375
abbrev iR:Nat:=113702655586931
abbrev iM:Nat:=127961762460275
abbrev qBy:Nat:=2128684475675056370548
def qQS:CT:=(.val (.lit (.bl true)))
def qQT:CS:=(.whil qQS .skip)
def qQe:CS:=(.set (.nm 3) (.bi .add (.var 5) (.n 1)))
def qQd:CS:=(.set (.nm 4) (.var 5))
def qQc:CS:=(.seq (.set (.nm 5) (.bi .fdiv (.bi .add (.var 3) (.var 4)) (.n 2))) (.ite (.val (.bi .lt (.bi .ix (.bi .ix (.var 0) (.var 5)) (.var 1)) (.var 2))) qQe qQd))
def qD7:CT:=(.val (.bi .lt (.var 3) (.var 4)))
def qD8:CS:=(.ret (.var 3))
def rY:CS:=(.seq (.set (.nm 3) (.n 0)) (.seq (.set (.nm 4) (.un .len (.var 0))) (.seq (.whil qD7 qQc) qD8)))
def sB:CS:=(.ite (.val (.bi .lt (.var 0) (.n 0))) (.raise 86240048210286) .skip)
def rZ:CS:=(.seq (.exp (.call 2 (.cons (.var 0) .nil))) (.ite (.val (.bi .gt (.var 0) (.var 1))) (.raise 86240048210286) .skip))
def qQh:CS:=(.seq (.set (.nm 1) (.bi .min2 (.var 1) (.bi .ix (.bi .ix (.var 0) (.var 3)) (.n 0)))) (.set (.nm 2) (.bi .max2 (.var 2) (.bi .ix (.bi .ix (.var 0) (.bi .sub (.var 4) (.n 1))) (.n 1)))))
def qEG:CS:=(.ret (.bi .add (.bi .add (.sl (.var 0) .no (.at (.var 3))) (.tup (.cons (.tup (.cons (.var 1) (.cons (.var 2) .nil))) .nil))) (.sl (.var 0) (.at (.var 4)) .no)))
def qEF:CS:=(.seq (.set (.nm 3) (.call 1 (.cons (.var 0) (.cons (.n 1) (.cons (.var 1) .nil))))) (.seq (.set (.nm 4) (.call 1 (.cons (.var 0) (.cons (.n 0) (.cons (.bi .add (.var 2) (.n 1)) .nil))))) (.seq (.ite (.val (.bi .lt (.var 3) (.var 4))) qQh .skip) qEG)))
def sJ:CS:=(.seq (.exp (.call 3 (.cons (.var 1) (.cons (.var 2) .nil)))) (.seq (.ite (.val (.bi .eq (.var 1) (.var 2))) (.ret (.var 0)) .skip) qEF))
def dY:CS:=(.seq (.setF (.var 0) 1835626085 [21785059625889383] (.var 1)) (.seq (.setF (.var 0) 521561010803 [21785059625889383] (.n 0)) (.setF (.var 0) 115944243160436 [21785059625889383] (.lit (.bl false)))))
def sR:CS:=(.seq (.setF (.var 0) 521561010803 [21785059625889383] (.var 2)) (.setF (.var 0) 115944243160436 [21785059625889383] (.lit (.bl false))))
def sQ:CS:=(.setF (.var 0) 115944243160436 [21785059625889383] (.lit (.bl true)))
def eB:CS:=(.ret (.tup (.cons (.var 4) (.cons (.var 5) .nil))))
def eA:CS:=(.seq (.set (.nm 5) (.bi .eq (.var 3) (.un (.fld 1835626085) (.var 0)))) (.seq (.ite (.val (.var 5)) sQ .skip) eB))
def dZ:CS:=(.seq (.set (.nm 4) (.bi .gt (.var 2) (.un (.fld 521561010803) (.var 0)))) (.seq (.ite (.val (.var 4)) sR .skip) eA))
def gZ:CS:=(.seq (.set (.nm 2) (.bi .ix (.var 1) (.n 1))) (.seq (.set (.nm 3) (.bi .ix (.var 1) (.n 2))) (.seq (.ite (.or (.val (.bi .lt (.var 2) (.un (.fld 521561010803) (.var 0)))) (.val (.bi .gt (.var 3) (.un (.fld 1835626085) (.var 0))))) (.ret (.lit .non)) .skip) dZ)))
def qQk:CS:=(.ret (.tup (.cons (.lit (.str [104,101,108,108,111])) (.cons (.un (.fld 1835626085) (.var 0)) (.cons (.n 0) .nil)))))
def sP:CS:=(.ret (.tup (.cons (.lit (.str [104,101,108,108,111])) (.cons (.un (.fld 1835626085) (.var 0)) (.cons (.un (.fld 521561010803) (.var 0)) .nil)))))
def rK:CS:=(.seq (.set (.nm 1) (.un .ord (.var 0))) (.ret (.and (.chain .le .le (.n 32) (.var 1) (.n 126)) (.bi .ne (.var 1) (.n 37)))))
def rH:CE:=(.call 9 (.cons (.var 1) .nil))
def rJ:CS:=(.ret (.and (.un (.isi .str) (.var 0)) (.un .all (.comp rH (.of (.var 0))))))
def qDz:CS:=(.ret (.chain .le .le (.var 1) (.var 0) (.var 2)))
def rN:CS:=(.seq (.ite (.or (.val (.un (.isi .bool) (.var 0))) (.not (.val (.un (.isi .int) (.var 0))))) (.ret (.lit (.bl false))) .skip) qDz)
def dN:CS:=(.set (.nm 1) (.bi .mod (.bi .sub (.bi .add (.bi .mul (.var 1) (.n 31)) (.un .ord (.var 2))) (.n 32)) (.n 9973)))
def qD9:CS:=(.ret (.var 1))
def sA:CS:=(.seq (.set (.nm 1) (.n 7)) (.seq (.fori (.nm 2) (.of (.var 0)) dN) qD9))
def rX:CS:=(.ret (.un .str (.var 0)))
def rR:CE:=(.bi .isin (.var 1) (.lit (.str [48,49,50,51,52,53,54,55,56,57])))
def rQ:CS:=(.ret (.un .all (.comp rR (.of (.var 0)))))
def qD0:CS:=(.seq (.ite (.and (.val (.bi .eq (.bi .ix (.var 0) (.n 0)) (.lit (.str [48])))) (.val (.bi .gt (.un .len (.var 0)) (.n 1)))) (.ret (.lit (.bl false))) .skip) rQ)
def rS:CS:=(.seq (.ite (.or (.not (.val (.un (.isi .str) (.var 0)))) (.not (.val (.chain .le .le (.n 1) (.un .len (.var 0)) (.n 13))))) (.ret (.lit (.bl false))) .skip) qD0)
def qDo:CS:=(.seq (.set (.nm 1) (.un .int (.var 0))) (.ret (.ite (.val (.bi .le (.var 1) (.n 1000000000000))) (.var 1) (.lit .non))))
def dA:CS:=(.seq (.ite (.not (.val (.call 14 (.cons (.var 0) .nil)))) (.ret (.lit .non)) .skip) qDo)
def rO:CS:=(.ret (.call 11 (.cons (.var 0) (.cons (.n 1) (.cons (.n 1000000000) .nil)))))
def rL:CS:=(.ret (.call 11 (.cons (.var 0) (.cons (.n 0) (.cons (.n 1000000) .nil)))))
def pU:CS:=(.ret (.and (.call 16 (.cons (.bi .ix (.var 0) (.n 1)) .nil)) (.and (.call 16 (.cons (.bi .ix (.var 0) (.n 2)) .nil)) (.call 11 (.cons (.bi .ix (.var 0) (.n 3)) (.cons (.n 0) (.cons (.n 999) .nil)))))))
def rP:CS:=(.ret (.and (.bi .eq (.un .len (.var 0)) (.n 3)) (.and (.call 16 (.cons (.bi .ix (.var 0) (.n 1)) .nil)) (.call 11 (.cons (.bi .ix (.var 0) (.n 2)) (.cons (.n 0) (.cons (.n 1000000000) .nil)))))))
def qD2:CS:=(.ret (.and (.bi .le (.un .len (.var 2)) (.n 40)) (.bi .le (.bi .add (.var 1) (.un .len (.var 2))) (.n 1000000))))
def qD1:CS:=(.seq (.set (.nm 1) (.bi .ix (.var 0) (.n 4))) (.seq (.set (.nm 2) (.bi .ix (.var 0) (.n 5))) (.seq (.ite (.or (.not (.val (.call 17 (.cons (.var 1) .nil)))) (.not (.val (.call 10 (.cons (.var 2) .nil))))) (.ret (.lit (.bl false))) .skip) qD2)))
def rV:CS:=(.seq (.ite (.or (.val (.bi .ne (.un .len (.var 0)) (.n 6))) (.not (.val (.call 18 (.cons (.var 0) .nil))))) (.ret (.lit (.bl false))) .skip) qD1)
def rT:CS:=(.ret (.and (.bi .eq (.un .len (.var 0)) (.n 5)) (.and (.call 18 (.cons (.var 0) .nil)) (.call 17 (.cons (.bi .ix (.var 0) (.n 4)) .nil)))))
def qQa:CS:=(.ret (.and (.call 17 (.cons (.bi .ix (.var 0) (.n 0)) .nil)) (.and (.call 17 (.cons (.bi .ix (.var 0) (.n 1)) .nil)) (.chain .lt .lt (.var 1) (.bi .ix (.var 0) (.n 0)) (.bi .ix (.var 0) (.n 1))))))
def qQb:CS:=(.seq (.ite (.or (.not (.val (.un (.isi .tuple) (.var 0)))) (.val (.bi .ne (.un .len (.var 0)) (.n 2)))) (.ret (.lit (.bl false))) .skip) qQa)
def qQg:CS:=(.set (.nm 1) (.bi .ix (.var 2) (.n 1)))
def qQf:CS:=(.seq (.ite (.not (.val (.call 22 (.cons (.var 2) (.cons (.var 1) .nil))))) (.ret (.lit (.bl false))) .skip) qQg)
def qED:CS:=(.ret (.lit (.bl true)))
def qEC:CS:=(.seq (.fori (.nm 2) (.of (.var 0)) qQf) qED)
def sF:CS:=(.seq (.ite (.or (.not (.val (.un (.isi .tuple) (.var 0)))) (.val (.bi .gt (.un .len (.var 0)) (.n 8)))) (.ret (.lit (.bl false))) .skip) qEC)
def qD4:CS:=(.ret (.call 23 (.cons (.bi .ix (.var 0) (.n 6)) (.cons (.bi .ix (.var 0) (.n 4)) .nil))))
def qD3:CS:=(.seq (.ite (.or (.not (.val (.call 11 (.cons (.bi .ix (.var 0) (.n 4)) (.cons (.n 0) (.cons (.n 1000001) .nil)))))) (.not (.val (.call 11 (.cons (.bi .ix (.var 0) (.n 5)) (.cons (.n 0) (.cons (.n 1000200) .nil))))))) (.ret (.lit (.bl false))) .skip) qD4)
def rW:CS:=(.seq (.ite (.or (.val (.bi .ne (.un .len (.var 0)) (.n 7))) (.not (.val (.call 18 (.cons (.var 0) .nil))))) (.ret (.lit (.bl false))) .skip) qD3)
def qDy:CS:=(.ret (.and (.bi .eq (.var 1) (.lit (.str [97,110,115,119,101,114]))) (.call 24 (.cons (.var 0) .nil))))
def rM:CS:=(.seq (.ite (.val (.bi .eq (.var 1) (.lit (.str [101,110,100])))) (.ret (.call 21 (.cons (.var 0) .nil))) .skip) qDy)
def dL:CS:=(.seq (.ite (.val (.bi .eq (.var 1) (.lit (.str [100,97,116,97])))) (.ret (.call 20 (.cons (.var 0) .nil))) .skip) rM)
def gW:CS:=(.seq (.ite (.val (.bi .eq (.var 1) (.lit (.str [104,101,108,108,111])))) (.ret (.call 19 (.cons (.var 0) .nil))) .skip) dL)
def gU:CS:=(.seq (.set (.nm 1) (.bi .ix (.var 0) (.n 0))) (.seq (.ite (.not (.val (.un (.isi .str) (.var 1)))) (.ret (.lit (.bl false))) .skip) gW))
def vA:CS:=(.seq (.ite (.or (.not (.val (.un (.isi .tuple) (.var 0)))) (.val (.bi .eq (.un .len (.var 0)) (.n 0)))) (.ret (.lit (.bl false))) .skip) gU)
def cZ:CE:=(.call 13 (.cons (.var 1) .nil))
def pT:CS:=(.ret (.comp cZ (.of (.var 0))))
def pP:CS:=(.seq (.set (.nm 1) (.call 13 (.cons (.un .len (.var 0)) .nil))) (.ret (.bi .add (.bi .add (.var 1) (.lit (.str [58]))) (.var 0))))
def qQV:CE:=(.me .join (.lit (.str [45])) (.call 26 (.cons (.var 1) .nil)))
def qQU:CS:=(.ret (.me .join (.lit (.str [44])) (.comp qQV (.of (.var 0)))))
def qQW:CS:=(.seq (.ite (.val (.bi .eq (.un .len (.var 0)) (.n 0))) (.ret (.lit (.str [45]))) .skip) qQU)
def qEB:CS:=(.set (.nm 2) (.bi .add (.call 26 (.cons (.sl (.var 0) (.at (.n 1)) (.at (.n 5))) .nil)) (.lst (.cons (.call 27 (.cons (.bi .ix (.var 0) (.n 5)) .nil)) .nil))))
def qEA:CS:=(.set (.nm 2) (.bi .add (.call 26 (.cons (.sl (.var 0) (.at (.n 1)) (.at (.n 6))) .nil)) (.lst (.cons (.call 28 (.cons (.bi .ix (.var 0) (.n 6)) .nil)) .nil))))
def sD:CS:=(.set (.nm 2) (.call 26 (.cons (.sl (.var 0) (.at (.n 1)) .no) .nil)))
def dO:CS:=(.ite (.val (.bi .eq (.var 1) (.lit (.str [97,110,115,119,101,114])))) qEA sD)
def sC:CS:=(.ret (.me .join (.lit (.str [32])) (.bi .add (.lst (.cons (.var 1) .nil)) (.var 2))))
def vB:CS:=(.seq (.set (.nm 1) (.bi .ix (.var 0) (.n 0))) (.seq (.ite (.val (.bi .eq (.var 1) (.lit (.str [100,97,116,97])))) qEB dO) sC))
def qDi:CS:=(.seq (.set (.nm 1) (.call 29 (.cons (.var 0) .nil))) (.seq (.set (.nm 2) (.me .zfill (.call 13 (.cons (.call 12 (.cons (.var 1) .nil)) .nil)) (.n 4))) (.ret (.bi .add (.bi .add (.var 1) (.lit (.str [32]))) (.var 2)))))
def pN:CS:=(.seq (.ite (.not (.val (.call 25 (.cons (.var 0) .nil)))) (.raise 22077439339750245) .skip) qDi)
def pR:CE:=(.call 15 (.cons (.var 1) .nil))
def pS:CS:=(.ret (.un .tuple (.comp pR (.of (.var 0)))))
def qQY:CE:=(.call 31 (.cons (.me .split (.var 1) (.lit (.str [45]))) .nil))
def qQX:CS:=(.ret (.un .tuple (.comp qQY (.of (.me .split (.var 0) (.lit (.str [44])))))))
def qQZ:CS:=(.seq (.ite (.val (.bi .eq (.var 0) (.lit (.str [45])))) (.ret (.tup .nil)) .skip) qQX)
def qDn:CS:=(.seq (.set (.nm 1) (.splm (.var 0) (.lit (.str [32])) (.n 5))) (.ret (.bi .add (.bi .add (.tup (.cons (.var 2) .nil)) (.call 31 (.cons (.sl (.var 1) (.at (.n 1)) (.at (.un .neg (.n 1)))) .nil))) (.tup (.cons (.bi .ix (.me .part (.bi .ix (.var 1) (.un .neg (.n 1))) (.lit (.str [58]))) (.n 2)) .nil)))))
def qDm:CS:=(.ret (.bi .add (.tup (.cons (.var 2) .nil)) (.call 31 (.cons (.sl (.var 1) (.at (.n 1)) .no) .nil))))
def qDl:CS:=(.seq (.ite (.val (.bi .eq (.var 2) (.lit (.str [97,110,115,119,101,114])))) (.ret (.bi .add (.bi .add (.tup (.cons (.var 2) .nil)) (.call 31 (.cons (.sl (.var 1) (.at (.n 1)) (.at (.un .neg (.n 1)))) .nil))) (.tup (.cons (.call 32 (.cons (.bi .ix (.var 1) (.un .neg (.n 1))) .nil)) .nil)))) .skip) qDm)
def cY:CS:=(.seq (.set (.nm 1) (.me .split (.var 0) (.lit (.str [32])))) (.seq (.set (.nm 2) (.bi .ix (.var 1) (.n 0))) (.seq (.ite (.val (.bi .eq (.var 2) (.lit (.str [100,97,116,97])))) qDn .skip) qDl)))
def qDk:CS:=(.ret (.var 1))
def qDj:CS:=(.seq (.set (.nm 1) (.call 33 (.cons (.bi .ix (.me .rpart (.var 0) (.lit (.str [32]))) (.n 0)) .nil))) (.seq (.ite (.or (.not (.val (.call 25 (.cons (.var 1) .nil)))) (.val (.bi .ne (.call 30 (.cons (.var 1) .nil)) (.var 0)))) (.raise 91742370622580) .skip) qDk))
def pQ:CS:=(.seq (.ite (.not (.val (.call 10 (.cons (.var 0) .nil)))) (.raise 91742370622580) .skip) qDj)
def sN:CS:=(.seq (.setF (.var 0) 1952807028 [358300611685,362411681138] (.lit (.str []))) (.seq (.setF (.var 0) 495806672499 [358300611685] (.tup .nil)) (.setF (.var 0) 108187682958948 [358300611685] (.disp [] .nil))))
def dU:CS:=(.exp (.setd (.un (.fld 108187682958948) (.var 0)) (.var 5) (.bi .ix (.var 2) (.bi .sub (.var 5) (.var 1)))))
def qEL:CS:=(.seq (.setF (.var 0) 495806672499 [358300611685] (.call 4 (.cons (.un (.fld 495806672499) (.var 0)) (.cons (.var 3) (.cons (.var 4) .nil))))) (.exp (.meth 28273260611201390 [(358300611685,37)] (.var 0) .nil)))
def qEK:CS:=(.seq (.fori (.nm 5) (.rng2 (.var 3) (.var 4)) dU) qEL)
def sM:CS:=(.seq (.set (.nm 3) (.bi .max2 (.var 1) (.un .len (.un (.fld 1952807028) (.var 0))))) (.seq (.set (.nm 4) (.bi .add (.var 1) (.un .len (.var 2)))) (.seq (.ite (.val (.bi .ge (.var 3) (.var 4))) .retN .skip) qEK)))
def dW:CS:=(.seq (.ite (.val (.bi .lt (.var 1) (.n 0))) (.raise 86240048210286) .skip) sM)
def dX:CS:=(.exp (.me .append (.var 2) (.me .pop (.un (.fld 108187682958948) (.var 0)) (.var 3))))
def qEN:CS:=(.seq (.setF (.var 0) 1952807028 [358300611685,362411681138] (.me .join (.lit (.str [])) (.var 2))) (.setF (.var 0) 495806672499 [358300611685] (.sl (.un (.fld 495806672499) (.var 0)) (.at (.n 1)) .no)))
def qEM:CS:=(.seq (.set (.nm 2) (.lst (.cons (.un (.fld 1952807028) (.var 0)) .nil))) (.seq (.fori (.nm 3) (.rng2 (.bi .ix (.var 1) (.n 0)) (.bi .ix (.var 1) (.n 1))) dX) qEN))
def sO:CS:=(.seq (.set (.nm 1) (.bi .ix (.un (.fld 495806672499) (.var 0)) (.n 0))) (.seq (.ite (.val (.bi .ne (.bi .ix (.var 1) (.n 0)) (.un .len (.un (.fld 1952807028) (.var 0))))) .retN .skip) qEM))
def qQi:CS:=(.ret (.me .get (.un (.fld 108187682958948) (.var 0)) (.var 1)))
def qQj:CS:=(.seq (.ite (.val (.chain .le .lt (.n 0) (.var 1) (.un .len (.un (.fld 1952807028) (.var 0))))) (.ret (.bi .ix (.un (.fld 1952807028) (.var 0)) (.var 1))) .skip) qQi)
def sL:CS:=(.seq (.setF (.var 0) 1919905645 [362411681138,1215263604] (.var 1)) (.seq (.setF (.var 0) 495739565157 [362411681138] (.make 358300611685 35 .nil)) (.seq (.setF (.var 0) 8390043809167535716 [362411681138] (.lit .non)) (.seq (.setF (.var 0) 1952807028 [358300611685,362411681138] (.lit (.str []))) (.seq (.setF (.var 0) 1919246692 [362411681138] (.n 0)) (.seq (.setF (.var 0) 465625246068 [362411681138] (.var 1)) (.setF (.var 0) 29681726098730597 [362411681138] (.lit (.bl false)))))))))
def dQ:CS:=(.seq (.set (.nm 3) (.ite (.val (.un .isN (.un (.fld 8390043809167535716) (.var 0)))) (.un (.fld 465625246068) (.var 0)) (.bi .min2 (.un (.fld 465625246068) (.var 0)) (.un (.fld 8390043809167535716) (.var 0))))) (.seq (.exp (.meth 7370100 [(358300611685,36),(362411681138,40)] (.un (.fld 495739565157) (.var 0)) (.cons (.var 1) (.cons (.sl (.var 2) .no (.at (.bi .max2 (.bi .sub (.var 3) (.var 1)) (.n 0)))) .nil)))) (.setF (.var 0) 1952807028 [358300611685,362411681138] (.un (.fld 1952807028) (.un (.fld 495739565157) (.var 0))))))
def qEI:CS:=(.seq (.setF (.var 0) 8390043809167535716 [362411681138] (.var 1)) (.exp (.meth 8315163747390811749 [(362411681138,44)] (.var 0) .nil)))
def dR:CS:=(.seq (.ite (.or (.val (.un .notN (.un (.fld 8390043809167535716) (.var 0)))) (.val (.bi .lt (.var 1) (.meth 491327153000 [(362411681138,42)] (.var 0) .nil)))) .retN .skip) qEI)
def sK:CS:=(.seq (.set (.nm 1) (.un (.fld 495806672499) (.un (.fld 495739565157) (.var 0)))) (.ret (.ite (.val (.bi .gt (.un .len (.var 1)) (.n 0))) (.bi .ix (.bi .ix (.var 1) (.un .neg (.n 1))) (.n 1)) (.un .len (.un (.fld 1952807028) (.var 0))))))
def qEH:CS:=(.seq (.set (.nm 2) (.sl (.un (.fld 1952807028) (.var 0)) (.at (.un (.fld 1919246692) (.var 0))) (.at (.bi .add (.un (.fld 1919246692) (.var 0)) (.var 1))))) (.seq (.setF (.var 0) 1919246692 [362411681138] (.bi .add (.un (.fld 1919246692) (.var 0)) (.un .len (.var 2)))) (.seq (.setF (.var 0) 465625246068 [362411681138] (.bi .add (.un (.fld 1919246692) (.var 0)) (.un (.fld 1919905645) (.var 0)))) (.seq (.exp (.meth 8315163747390811749 [(362411681138,44)] (.var 0) .nil)) (.ret (.var 2))))))
def gX:CS:=(.seq (.ite (.not (.val (.chain .le .le (.n 1) (.var 1) (.n 200)))) (.raise 23766421875286888) .skip) qEH)
def dP:CS:=(.setF (.var 0) 29681726098730597 [362411681138] (.bi .eq (.un (.fld 1919246692) (.var 0)) (.un (.fld 8390043809167535716) (.var 0))))
def qEJ:CS:=(.set (.nm 1) (.bi .add (.var 1) (.n 1)))
def dS:CS:=(.ret (.tup (.cons (.var 1) (.cons (.un (.fld 465625246068) (.var 0)) (.cons (.sl (.un (.fld 495806672499) (.un (.fld 495739565157) (.var 0))) .no (.at (.n 8))) .nil)))))
def gY:CS:=(.seq (.set (.nm 1) (.un .len (.un (.fld 1952807028) (.var 0)))) (.seq (.ite (.val (.bi .eq (.var 1) (.un (.fld 8390043809167535716) (.var 0)))) qEJ .skip) dS))
def qD6:CS:=(.ret (.bi .ix (.var 0) (.var 1)))
def qD5:CS:=(.seq (.ite (.val (.un .isN (.bi .ix (.var 0) (.var 1)))) (.raise 73059263014254) .skip) qD6)
def dM:CS:=(.seq (.ite (.val (.bi .notin (.var 1) (.var 0))) (.raise 5651827816973820269) .skip) qD5)
def cW:CE:=(.var 1)
def cV:CT:=(.val (.un .notN (.bi .ix (.var 0) (.var 1))))
def pO:CS:=(.ret (.un .sorted (.compD cW cV (.var 0))))
def sG:CS:=(.setIx (.var 1) (.var 2) (.lit .non))
def qEE:CS:=(.ret (.var 1))
def sI:CS:=(.seq (.set (.nm 1) (.disp [] .nil)) (.seq (.forD 2 (.var 0) sG) qEE))
def sZ:CS:=(.seq (.setF (.var 0) 1919905645 [362411681138,1215263604] (.var 1)) (.seq (.setF (.var 0) 1836020596 [1215263604] (.bi .min2 (.var 2) (.n 40))) (.seq (.setF (.var 0) 108256335193460 [1215263604] (.var 3)) (.seq (.setF (.var 0) 1818846821 [1215263604] (.n 1)) (.exp (.meth 464662488081084476647013 [(1215263604,50)] (.var 0) .nil))))))
def eJ:CS:=(.seq (.setF (.var 0) 30792258880630375 [1215263604] (.make 21785059625889383 5 (.cons (.un (.fld 1818846821) (.var 0)) .nil))) (.seq (.setF (.var 0) 113702655586931 [1215263604] (.disp [] .nil)) (.seq (.setF (.var 0) 127961762460275 [1215263604] (.disp [] .nil)) (.setF (.var 0) 2128684475675056370548 [1215263604] (.lit .non)))))
def qQp:CS:=(.exp (.call 0 (.cons (.n 0) .nil)))
def qQt:CS:=(.ret (.call 46 (.cons (.un (.fld 113702655586931) (.var 0)) (.cons (.var 1) .nil))))
def aA:CS:=(.ret (.call 46 (.cons (.un (.fld 127961762460275) (.var 0)) (.cons (.var 1) .nil))))
def qQl:CS:=(.exp (.meth 513020621925 [(1215263604,54)] (.meth 444150998386 [(1215263604,52)] (.var 0) (.cons (.var 1) .nil)) (.cons (.var 2) .nil)))
def qQu:CS:=(.exp (.call 0 (.cons (.n 1) .nil)))
def aC:CS:=(.ret (.meth 1952541541 [(362411681138,43),(1215263604,56)] (.meth 499850634610 [(1215263604,53)] (.var 0) (.cons (.var 1) .nil)) (.cons (.var 2) .nil)))
def qQo:CS:=(.exp (.call 0 (.cons (.n 2) .nil)))
def sY:CS:=(.ret (.call 47 (.cons (.un (.fld 127961762460275) (.var 0)) .nil)))
def qQw:CE:=(.var 1)
def qQv:CT:=(.val (.un .isN (.bi .ix (.un (.fld 113702655586931) (.var 0)) (.var 1))))
def qQx:CS:=(.ret (.un .sorted (.compD qQw qQv (.un (.fld 113702655586931) (.var 0)))))
def qET:CS:=(.seq (.setF (.var 0) 1818846821 [1215263604] (.bi .add (.un (.fld 1818846821) (.var 0)) (.n 1))) (.exp (.meth 464662488081084476647013 [(1215263604,50)] (.var 0) .nil)))
def tJ:CS:=(.seq (.ite (.val (.bi .eq (.un (.fld 1818846821) (.var 0)) (.n 40))) (.raise 23766421875286888) .skip) qET)
def qQm:CS:=(.exp (.call 0 (.cons (.n 3) .nil)))
def qQq:CS:=(.exp (.call 0 (.cons (.n 4) .nil)))
def qQr:CS:=(.exp (.call 0 (.cons (.n 5) .nil)))
def sV:CS:=(.ret (.bi .add (.bi .add (.sl (.var 2) .no (.at (.n 1))) (.tup (.cons (.un (.fld 1835626085) (.un (.fld 30792258880630375) (.var 0))) (.cons (.un (.fld 521561010803) (.un (.fld 30792258880630375) (.var 0))) (.cons (.var 1) .nil))))) (.sl (.var 2) (.at (.n 1)) .no)))
def eI:CS:=(.set (.nm 2) (.call 34 (.cons (.var 1) .nil)))
def qQs:CS:=(.ret (.lst .nil))
def tI:CS:=(.exp (.meth 7799763779075547922881686105459 [(1215263604,66)] (.var 0) .nil))
def tH:CS:=(.exp (.me .append (.var 6) (.meth 491328138361 [(21785059625889383,8)] (.un (.fld 30792258880630375) (.var 0)) .nil)))
def tG:CS:=(.exp (.me .extend (.var 6) (.meth 8386102064528189806 [(1215263604,67)] (.var 0) (.cons (.var 2) .nil))))
def tF:CE:=(.call 30 (.cons (.var 7) .nil))
def tE:CS:=(.ret (.comp tF (.of (.var 6))))
def eF:CS:=(.seq (.ite (.val (.var 5)) tG .skip) tE)
def eE:CS:=(.seq (.set (.nm 6) (.lst .nil)) (.seq (.ite (.or (.val (.var 4)) (.not (.val (.var 5)))) tH .skip) eF))
def eH:CS:=(.seq (.set (.nm 4) (.bi .ix (.var 3) (.n 0))) (.seq (.set (.nm 5) (.bi .ix (.var 3) (.n 1))) (.seq (.ite (.val (.var 4)) tI .skip) eE)))
def eG:CS:=(.seq (.set (.nm 3) (.meth 448377483876 [(21785059625889383,6)] (.un (.fld 30792258880630375) (.var 0)) (.cons (.var 2) .nil))) (.seq (.ite (.val (.un .isN (.var 3))) (.ret (.lst .nil)) .skip) eH))
def aE:CS:=(.seq (.tryx eI (.cons [91742370622580] qQs .nil)) eG)
def tK:CS:=(.seq (.setF (.var 0) 113702655586931 [1215263604] (.call 48 (.cons (.un (.fld 113702655586931) (.var 0)) .nil))) (.setF (.var 0) 127961762460275 [1215263604] (.call 48 (.cons (.un (.fld 127961762460275) (.var 0)) .nil))))
def qQn:CS:=(.exp (.meth 117787394794711584694431077 [(1215263604,70)] (.var 0) (.cons (.var 1) .nil)))
def qEQ:CS:=(.ret (.lst .nil))
def qEP:CS:=(.seq (.ite (.val (.bi .eq (.var 2) (.lit (.str [97,110,115,119,101,114])))) qQn .skip) qEQ)
def aB:CS:=(.seq (.set (.nm 2) (.bi .ix (.var 1) (.n 0))) (.seq (.ite (.or (.val (.bi .eq (.var 2) (.lit (.str [100,97,116,97])))) (.val (.bi .eq (.var 2) (.lit (.str [101,110,100]))))) (.ret (.meth 2073057138977531850085 [(1215263604,68)] (.var 0) (.cons (.var 1) .nil))) .skip) qEP))
def qES:CS:=(.exp (.meth 7370100 [(358300611685,36),(362411681138,40)] (.var 3) (.cons (.bi .ix (.var 1) (.n 4)) (.cons (.bi .ix (.var 1) (.n 5)) .nil))))
def qER:CS:=(.exp (.meth 1701733491 [(362411681138,41)] (.var 3) (.cons (.bi .ix (.var 1) (.n 4)) .nil)))
def aD:CS:=(.ret (.lst (.cons (.meth 8100116882379468646 [(1215263604,64)] (.var 0) (.cons (.var 2) (.cons (.bi .add (.tup (.cons (.lit (.str [97,110,115,119,101,114])) .nil)) (.meth 107127011501426 [(362411681138,45)] (.var 3) .nil)) .nil))) .nil)))
def sW:CS:=(.seq (.set (.nm 3) (.meth 549591584905317559919717 [(1215263604,69)] (.var 0) (.cons (.var 2) .nil))) (.seq (.ite (.val (.bi .eq (.bi .ix (.var 1) (.n 0)) (.lit (.str [100,97,116,97])))) qES qER) aD))
def eD:CS:=(.seq (.set (.nm 2) (.bi .ix (.var 1) (.n 3))) (.seq (.ite (.val (.bi .ge (.var 2) (.n 50))) (.ret (.lst .nil)) .skip) sW))
def qEO:CS:=(.setIx (.un (.fld 127961762460275) (.var 0)) (.var 1) (.make 362411681138 39 (.cons (.un (.fld 1919905645) (.var 0)) .nil)))
def sU:CS:=(.ret (.bi .ix (.un (.fld 127961762460275) (.var 0)) (.var 1)))
def eC:CS:=(.seq (.ite (.val (.un .isN (.me .get (.un (.fld 127961762460275) (.var 0)) (.var 1)))) qEO .skip) sU)
def qQy:CS:=.opq
def qQz:CS:=(.seq (.set (.nm 2) (.me .get (.un (.fld 113702655586931) (.var 0)) (.bi .ix (.var 1) (.n 3)))) (.ite (.val (.un .notN (.var 2))) qQy .skip))
def qDu:CS:=(.ret (.n 0))
def pZ:CS:=(.seq (.ite (.val (.bi .lt (.var 1) (.un .len (.var 0)))) (.ret (.bi .ix (.var 0) (.var 1))) .skip) qDu)
def pV:CE:=(.bi .ix (.var 2) (.bi .mod (.bi .add (.bi .add (.var 0) (.bi .mul (.n 7) (.var 3))) (.bi .fdiv (.bi .mul (.var 3) (.var 3)) (.n 3))) (.n 94)))
def pW:CS:=(.seq (.set (.nm 2) (.lit (.str [32,33,34,35,36,38,39,40,41,42,43,44,45,46,47,48,49,50,51,52,53,54,55,56,57,58,59,60,61,62,63,64,65,66,67,68,69,70,71,72,73,74,75,76,77,78,79,80,81,82,83,84,85,86,87,88,89,90,91,92,93,94,95,96]))) (.seq (.set (.nm 2) (.bi .add (.var 2) (.lit (.str [97,98,99,100,101,102,103,104,105,106,107,108,109,110,111,112,113,114,115,116,117,118,119,120,121,122,123,124,125,126])))) (.ret (.me .join (.lit (.str [])) (.comp pV (.rng1 (.var 1)))))))
def pY:CS:=(.ret (.tup (.cons (.meth 1952541541 [(362411681138,43),(1215263604,56)] (.var 0) (.cons (.var 1) (.cons (.var 2) .nil))) .nil)))
def qDr:CS:=(.ret (.lst (.cons (.un (.isx [73059263014254] FE) (.var 3)) (.cons (.un (.isx [5651827816973820269] FE) (.var 3)) (.cons (.un (.isx [23766421875286888] FE) (.var 3)) .nil)))))
def dE:CS:=(.tryx pY (.as FE 3 qDr .nil))
def rA:CS:=(.ret (.tup (.cons (.un (.fld 1952807028) (.meth 499850634610 [(1215263604,53)] (.var 0) (.cons (.var 1) .nil))) .nil)))
def qDv:CS:=(.ret (.lst (.cons (.un (.isx [73059263014254] FE) (.var 2)) (.cons (.un (.isx [5651827816973820269] FE) (.var 2)) (.cons (.un (.isx [23766421875286888] FE) (.var 2)) .nil)))))
def dG:CS:=(.tryx rA (.as FE 2 qDv .nil))
def qDq:CS:=(.seq (.set (.nm 7) (.lst (.cons (.bi .isin (.var 1) (.var 4)) (.cons (.bi .notin (.var 1) (.var 4)) (.cons (.lit (.bl false)) .nil))))) (.ret (.ite (.and (.val (.bi .eq (.var 5) (.var 7))) (.val (.bi .eq (.var 6) (.var 7)))) (.n 0) (.lit .non))))
def qDp:CS:=(.seq (.set (.nm 9) (.sl (.bi .ix (.var 8) (.n 0)) (.at (.bi .ix (.var 8) (.n 1))) (.at (.bi .add (.bi .ix (.var 8) (.n 1)) (.var 2))))) (.ret (.ite (.val (.bi .eq (.var 5) (.tup (.cons (.var 9) .nil)))) (.bi .add (.bi .ix (.var 8) (.n 1)) (.un .len (.var 9))) (.lit .non))))
def dD:CS:=(.seq (.ite (.or (.val (.bi .lt (.var 2) (.n 1))) (.val (.bi .gt (.var 2) (.n 200)))) (.ret (.ite (.val (.bi .eq (.var 5) (.lst (.cons (.lit (.bl false)) (.cons (.lit (.bl false)) (.cons (.lit (.bl true)) .nil)))))) (.bi .ix (.var 8) (.n 1)) (.lit .non))) .skip) qDp)
def dB:CS:=(.seq (.set (.nm 8) (.bi .ix (.var 3) (.var 1))) (.seq (.ite (.val (.bi .ne (.var 6) (.tup (.cons (.bi .ix (.var 8) (.n 0)) .nil)))) (.ret (.lit .non)) .skip) dD))
def uC:CS:=(.seq (.set (.nm 5) (.call 73 (.cons (.var 0) (.cons (.var 1) (.cons (.var 2) .nil))))) (.seq (.set (.nm 6) (.call 74 (.cons (.var 0) (.cons (.var 1) .nil)))) (.seq (.ite (.val (.bi .notin (.var 1) (.var 3))) qDq .skip) dB)))
def qDt:CS:=(.seq (.exp (.meth 1751474546 [(1215263604,65)] (.var 0) (.cons (.call 30 (.cons (.tup (.cons (.lit (.str [101,110,100])) (.cons (.bi .ix (.var 1) (.n 1)) (.cons (.bi .ix (.var 1) (.n 0)) (.cons (.var 2) (.cons (.n 60) .nil)))))) .nil)) .nil))) (.ret (.var 6)))
def qDs:CS:=(.seq (.set (.nm 8) (.bi .ix (.lst (.cons (.var 7) (.cons (.var 7) (.cons (.bi .mod (.bi .fdiv (.var 4) (.n 7)) (.bi .add (.var 7) (.n 1))) .nil)))) (.bi .mod (.var 4) (.n 3)))) (.seq (.set (.nm 9) (.sl (.var 5) (.at (.var 8)) (.at (.bi .add (.bi .add (.var 8) (.n 1)) (.bi .mod (.bi .fdiv (.var 4) (.n 21)) (.n 9)))))) (.seq (.exp (.meth 1751474546 [(1215263604,65)] (.var 0) (.cons (.call 30 (.cons (.tup (.cons (.lit (.str [100,97,116,97])) (.cons (.bi .ix (.var 1) (.n 1)) (.cons (.bi .ix (.var 1) (.n 0)) (.cons (.var 2) (.cons (.var 8) (.cons (.var 9) .nil))))))) .nil)) .nil))) (.ret (.tup (.cons (.sl (.var 5) .no (.at (.bi .max2 (.var 7) (.bi .add (.var 8) (.un .len (.var 9)))))) (.cons (.bi .ix (.var 6) (.n 1)) .nil)))))))
def dF:CS:=(.seq (.set (.nm 6) (.getd (.var 3) (.var 2) (.tup (.cons (.lit (.str [])) (.cons (.n 0) .nil))))) (.seq (.set (.nm 7) (.un .len (.bi .ix (.var 6) (.n 0)))) (.seq (.ite (.val (.bi .eq (.bi .mod (.var 4) (.n 7)) (.n 3))) qDt .skip) qDs)))
def gT:CE:=(.tup (.cons (.var 11) (.cons (.lit (.bl true)) .nil)))
def dI:CS:=(.seq (.setIx (.var 2) (.n 1) (.bi .add (.bi .ix (.var 2) (.n 1)) (.n 1))) (.seq (.exp (.me .update (.var 4) (.un .dictl (.compD gT (.val (.lit (.bl true))) (.var 3))))) (.seq (.set (.nm 3) (.disp [] .nil)) (.exp (.meth 1751474546 [(1215263604,65)] (.var 1) (.cons (.call 30 (.cons (.tup (.cons (.lit (.str [104,101,108,108,111])) (.cons (.bi .ix (.var 2) (.n 1)) (.cons (.bi .mul (.bi .ix (.var 2) (.n 0)) (.bi .mod (.var 8) (.n 2))) .nil)))) .nil)) .nil))))))
def rF:CS:=(.seq (.exp (.meth 1717660780 [(1215263604,60)] (.var 1) .nil)) (.seq (.set (.nm 2) (.lst (.cons (.bi .add (.bi .ix (.var 2) (.n 0)) (.n 1)) (.cons (.n 0) .nil)))) (.seq (.set (.nm 3) (.disp [] .nil)) (.set (.nm 4) (.disp [] .nil)))))
def rE:CS:=(.setIx (.var 3) (.var 7) (.call 76 (.cons (.var 1) (.cons (.var 2) (.cons (.var 7) (.cons (.var 3) (.cons (.var 8) (.cons (.call 72 (.cons (.bi .add (.var 7) (.bi .mul (.bi .ix (.var 2) (.n 1)) (.n 5))) (.cons (.n 60) .nil))) .nil))))))))
def qDw:CS:=(.setIx (.var 3) (.var 7) (.tup (.cons (.bi .ix (.bi .ix (.var 3) (.var 7)) (.n 0)) (.cons (.var 9) .nil))))
def rD:CS:=(.ite (.val (.bi .isin (.var 7) (.var 3))) qDw .skip)
def dH:CS:=(.seq (.set (.nm 9) (.call 75 (.cons (.var 1) (.cons (.var 7) (.cons (.bi .mod (.var 8) (.n 202)) (.cons (.var 3) (.cons (.var 4) .nil))))))) (.seq (.ite (.val (.un .isN (.var 9))) (.ret (.lit (.bl false))) .skip) rD))
def gQ:CS:=(.ite (.and (.val (.bi .lt (.bi .mod (.var 6) (.n 9)) (.n 5))) (.val (.bi .gt (.bi .ix (.var 2) (.n 1)) (.n 0)))) rE dH)
def gP:CS:=(.ite (.and (.val (.bi .eq (.bi .mod (.var 6) (.n 9)) (.n 1))) (.and (.val (.bi .eq (.bi .mod (.var 8) (.n 3)) (.n 0))) (.val (.bi .lt (.bi .ix (.var 2) (.n 0)) (.n 40))))) rF gQ)
def gR:CS:=(.seq (.set (.nm 10) (.meth 122545758368371 [(1215263604,58)] (.var 1) .nil)) (.seq (.exp (.me .append (.var 5) (.tup (.cons (.var 10) (.cons (.un .sorted (.var 3)) .nil))))) (.ite (.or (.val (.bi .ne (.var 10) (.un .sorted (.var 3)))) (.val (.bi .ne (.un (.fld 1818846821) (.var 1)) (.bi .ix (.var 2) (.n 0))))) (.ret (.lit (.bl false))) .skip)))
def yF:CS:=(.seq (.set (.nm 7) (.bi .mul (.bi .mod (.bi .fdiv (.var 6) (.n 9)) (.n 8)) (.bi .add (.n 1) (.bi .mod (.call 71 (.cons (.var 0) (.cons (.n 1) .nil))) (.n 7))))) (.seq (.set (.nm 8) (.bi .fdiv (.var 6) (.n 72))) (.seq (.ite (.val (.bi .eq (.bi .mod (.var 6) (.n 9)) (.n 0))) dI gP) gR)))
def rG:CE:=(.bi .eq (.bi .ix (.var 11) (.n 0)) (.bi .ix (.var 11) (.n 1)))
def dJ:CS:=(.ret (.un .all (.comp rG (.of (.var 5)))))
def qDx:CS:=(.seq (.set (.nm 1) (.make 1215263604 49 (.cons (.bi .add (.n 60) (.bi .mod (.call 71 (.cons (.var 0) (.cons (.n 0) .nil))) (.n 141))) (.cons (.n 9) (.cons (.n 3) .nil))))) (.seq (.set (.nm 2) (.lst (.cons (.n 1) (.cons (.n 0) .nil)))) (.seq (.set (.nm 3) (.disp [] .nil)) (.seq (.set (.nm 4) (.disp [] .nil)) (.seq (.set (.nm 5) (.lst .nil)) (.seq (.fori (.nm 6) (.of (.sl (.var 0) (.at (.n 2)) (.at (.n 52)))) yF) dJ))))))
def fns:List Fn:=[⟨1,1,qQT⟩,
 ⟨3,6,rY⟩,
 ⟨1,1,sB⟩,
 ⟨2,2,rZ⟩,
 ⟨3,5,sJ⟩,
 ⟨2,2,dY⟩,
 ⟨2,6,gZ⟩,
 ⟨1,1,qQk⟩,
 ⟨1,1,sP⟩,
 ⟨1,2,rK⟩,
 ⟨1,1,rJ⟩,
 ⟨3,3,rN⟩,
 ⟨1,3,sA⟩,
 ⟨1,1,rX⟩,
 ⟨1,1,rS⟩,
 ⟨1,2,dA⟩,
 ⟨1,1,rO⟩,
 ⟨1,1,rL⟩,
 ⟨1,1,pU⟩,
 ⟨1,1,rP⟩,
 ⟨1,3,rV⟩,
 ⟨1,1,rT⟩,
 ⟨2,2,qQb⟩,
 ⟨2,3,sF⟩,
 ⟨1,1,rW⟩,
 ⟨1,2,vA⟩,
 ⟨1,1,pT⟩,
 ⟨1,2,pP⟩,
 ⟨1,1,qQW⟩,
 ⟨1,3,vB⟩,
 ⟨1,3,pN⟩,
 ⟨1,1,pS⟩,
 ⟨1,1,qQZ⟩,
 ⟨1,3,cY⟩,
 ⟨1,2,pQ⟩,
 ⟨1,1,sN⟩,
 ⟨3,6,dW⟩,
 ⟨1,4,sO⟩,
 ⟨2,2,qQj⟩,
 ⟨2,2,sL⟩,
 ⟨3,4,dQ⟩,
 ⟨2,2,dR⟩,
 ⟨1,2,sK⟩,
 ⟨2,3,gX⟩,
 ⟨1,1,dP⟩,
 ⟨1,2,gY⟩,
 ⟨2,2,dM⟩,
 ⟨1,1,pO⟩,
 ⟨1,3,sI⟩,
 ⟨4,4,sZ⟩,
 ⟨1,1,eJ⟩,
 ⟨1,1,qQp⟩,
 ⟨2,2,qQt⟩,
 ⟨2,2,aA⟩,
 ⟨3,3,qQl⟩,
 ⟨2,2,qQu⟩,
 ⟨3,3,aC⟩,
 ⟨1,1,qQo⟩,
 ⟨1,1,sY⟩,
 ⟨1,1,qQx⟩,
 ⟨1,1,tJ⟩,
 ⟨1,1,qQm⟩,
 ⟨1,1,qQq⟩,
 ⟨2,2,qQr⟩,
 ⟨3,3,sV⟩,
 ⟨2,7,aE⟩,
 ⟨1,1,tK⟩,
 ⟨2,3,aB⟩,
 ⟨2,4,eD⟩,
 ⟨2,2,eC⟩,
 ⟨2,3,qQz⟩,
 ⟨2,2,pZ⟩,
 ⟨2,3,pW⟩,
 ⟨3,4,dE⟩,
 ⟨2,3,dG⟩,
 ⟨5,10,uC⟩,
 ⟨6,10,dF⟩,
 ⟨1,11,qDx⟩]
section
variable (B n:Nat)(a0 a1 a2 a3 a4 a5:D)(h:AH)
abbrev qLb:Nat:=1
theorem qOk:qA fns B (n+1) 1 [a0,a1,a2] h=fin (qB (qA fns B n) B rY [some a0,some a1,some a2,none,none,none] h):=rfl
theorem qOn:qA fns B (n+1) 2 [a0] h=fin (qB (qA fns B n) B sB [some a0] h):=rfl
theorem qOl:qA fns B (n+1) 3 [a0,a1] h=fin (qB (qA fns B n) B rZ [some a0,some a1] h):=rfl
abbrev qLf:Nat:=4
theorem qOr:qA fns B (n+1) 4 [a0,a1,a2] h=fin (qB (qA fns B n) B sJ [some a0,some a1,some a2,none,none] h):=rfl
theorem qDN:qA fns B (n+1) 5 [a0,a1] h=fin (qB (qA fns B n) B dY [some a0,some a1] h):=rfl
abbrev qCd:Nat:=6
theorem qDO:qA fns B (n+1) 6 [a0,a1] h=fin (qB (qA fns B n) B gZ [some a0,some a1,none,none,none,none] h):=rfl
abbrev qLn:Nat:=8
theorem qO1:qA fns B (n+1) 8 [a0] h=fin (qB (qA fns B n) B sP [some a0] h):=rfl
abbrev qLU:Nat:=9
theorem qOY:qA fns B (n+1) 9 [a0] h=fin (qB (qA fns B n) B rK [some a0,none] h):=rfl
abbrev qLT:Nat:=10
theorem qOX:qA fns B (n+1) 10 [a0] h=fin (qB (qA fns B n) B rJ [some a0] h):=rfl
abbrev qLX:Nat:=11
theorem qOb:qA fns B (n+1) 11 [a0,a1,a2] h=fin (qB (qA fns B n) B rN [some a0,some a1,some a2] h):=rfl
abbrev qLc:Nat:=12
theorem qOm:qA fns B (n+1) 12 [a0] h=fin (qB (qA fns B n) B sA [some a0,none,none] h):=rfl
abbrev qCb:Nat:=13
theorem qOj:qA fns B (n+1) 13 [a0] h=fin (qB (qA fns B n) B rX [some a0] h):=rfl
abbrev qLZ:Nat:=14
theorem qOe:qA fns B (n+1) 14 [a0] h=fin (qB (qA fns B n) B rS [some a0] h):=rfl
abbrev qLM:Nat:=15
theorem qOR:qA fns B (n+1) 15 [a0] h=fin (qB (qA fns B n) B dA [some a0,none] h):=rfl
abbrev qLY:Nat:=16
theorem qOc:qA fns B (n+1) 16 [a0] h=fin (qB (qA fns B n) B rO [some a0] h):=rfl
abbrev qLV:Nat:=17
theorem qOZ:qA fns B (n+1) 17 [a0] h=fin (qB (qA fns B n) B rL [some a0] h):=rfl
abbrev qLN:Nat:=18
theorem qOS:qA fns B (n+1) 18 [a0] h=fin (qB (qA fns B n) B pU [some a0] h):=rfl
theorem qOd:qA fns B (n+1) 19 [a0] h=fin (qB (qA fns B n) B rP [some a0] h):=rfl
theorem qOg:qA fns B (n+1) 20 [a0] h=fin (qB (qA fns B n) B rV [some a0,none,none] h):=rfl
theorem qOf:qA fns B (n+1) 21 [a0] h=fin (qB (qA fns B n) B rT [some a0] h):=rfl
theorem qOp:qA fns B (n+1) 23 [a0,a1] h=fin (qB (qA fns B n) B sF [some a0,some a1,none] h):=rfl
theorem qOh:qA fns B (n+1) 24 [a0] h=fin (qB (qA fns B n) B rW [some a0] h):=rfl
abbrev qLW:Nat:=25
theorem qOa:qA fns B (n+1) 25 [a0] h=fin (qB (qA fns B n) B vA [some a0,none] h):=rfl
abbrev qLL:Nat:=26
theorem qOQ:qA fns B (n+1) 26 [a0] h=fin (qB (qA fns B n) B pT [some a0] h):=rfl
abbrev qLI:Nat:=27
theorem qOM:qA fns B (n+1) 27 [a0] h=fin (qB (qA fns B n) B pP [some a0,none] h):=rfl
abbrev qLd:Nat:=29
theorem qOo:qA fns B (n+1) 29 [a0] h=fin (qB (qA fns B n) B vB [some a0,none,none] h):=rfl
abbrev qCX:Nat:=30
theorem qOK:qA fns B (n+1) 30 [a0] h=fin (qB (qA fns B n) B pN [some a0,none,none] h):=rfl
abbrev qLK:Nat:=31
theorem qOP:qA fns B (n+1) 31 [a0] h=fin (qB (qA fns B n) B pS [some a0] h):=rfl
abbrev qLJ:Nat:=33
theorem qOO:qA fns B (n+1) 33 [a0] h=fin (qB (qA fns B n) B cY [some a0,none,none] h):=rfl
abbrev qCY:Nat:=34
theorem qON:qA fns B (n+1) 34 [a0] h=fin (qB (qA fns B n) B pQ [some a0,none] h):=rfl
abbrev qLm:Nat:=35
theorem qOz:qA fns B (n+1) 35 [a0] h=fin (qB (qA fns B n) B sN [some a0] h):=rfl
abbrev qLl:Nat:=36
theorem qOy:qA fns B (n+1) 36 [a0,a1,a2] h=fin (qB (qA fns B n) B dW [some a0,some a1,some a2,none,none,none] h):=rfl
theorem qO0:qA fns B (n+1) 37 [a0] h=fin (qB (qA fns B n) B sO [some a0,none,none,none] h):=rfl
abbrev qLi:Nat:=39
theorem qOv:qA fns B (n+1) 39 [a0,a1] h=fin (qB (qA fns B n) B sL [some a0,some a1] h):=rfl
abbrev qLh:Nat:=40
theorem qOu:qA fns B (n+1) 40 [a0,a1,a2] h=fin (qB (qA fns B n) B dQ [some a0,some a1,some a2,none] h):=rfl
abbrev qLj:Nat:=41
theorem qOw:qA fns B (n+1) 41 [a0,a1] h=fin (qB (qA fns B n) B dR [some a0,some a1] h):=rfl
theorem qOt:qA fns B (n+1) 42 [a0] h=fin (qB (qA fns B n) B sK [some a0,none] h):=rfl
abbrev qCc:Nat:=43
theorem qDM:qA fns B (n+1) 43 [a0,a1] h=fin (qB (qA fns B n) B gX [some a0,some a1,none] h):=rfl
abbrev qLg:Nat:=44
theorem qOs:qA fns B (n+1) 44 [a0] h=fin (qB (qA fns B n) B dP [some a0] h):=rfl
abbrev qLk:Nat:=45
theorem qOx:qA fns B (n+1) 45 [a0] h=fin (qB (qA fns B n) B gY [some a0,none] h):=rfl
abbrev qLa:Nat:=46
theorem qOi:qA fns B (n+1) 46 [a0,a1] h=fin (qB (qA fns B n) B dM [some a0,some a1] h):=rfl
theorem qOL:qA fns B (n+1) 47 [a0] h=fin (qB (qA fns B n) B pO [some a0] h):=rfl
abbrev qLe:Nat:=48
theorem qOq:qA fns B (n+1) 48 [a0] h=fin (qB (qA fns B n) B sI [some a0,none,none] h):=rfl
abbrev qLq:Nat:=49
theorem qO6:qA fns B (n+1) 49 [a0,a1,a2,a3] h=fin (qB (qA fns B n) B sZ [some a0,some a1,some a2,some a3] h):=rfl
abbrev qLt:Nat:=50
theorem qDS:qA fns B (n+1) 50 [a0] h=fin (qB (qA fns B n) B eJ [some a0] h):=rfl
abbrev yW:Nat:=53
theorem qO3:qA fns B (n+1) 53 [a0,a1] h=fin (qB (qA fns B n) B aA [some a0,some a1] h):=rfl
abbrev cB:Nat:=56
theorem pK:qA fns B (n+1) 56 [a0,a1,a2] h=fin (qB (qA fns B n) B aC [some a0,some a1,some a2] h):=rfl
abbrev qLp:Nat:=58
theorem qO5:qA fns B (n+1) 58 [a0] h=fin (qB (qA fns B n) B sY [some a0] h):=rfl
abbrev qLr:Nat:=60
theorem qO7:qA fns B (n+1) 60 [a0] h=fin (qB (qA fns B n) B tJ [some a0] h):=rfl
theorem qO4:qA fns B (n+1) 64 [a0,a1,a2] h=fin (qB (qA fns B n) B sV [some a0,some a1,some a2] h):=rfl
abbrev qCe:Nat:=65
theorem qDR:qA fns B (n+1) 65 [a0,a1] h=fin (qB (qA fns B n) B aE [some a0,some a1,none,none,none,none,none] h):=rfl
abbrev qLs:Nat:=66
theorem qO8:qA fns B (n+1) 66 [a0] h=fin (qB (qA fns B n) B tK [some a0] h):=rfl
theorem qDP:qA fns B (n+1) 67 [a0,a1] h=fin (qB (qA fns B n) B aB [some a0,some a1,none] h):=rfl
abbrev lA:Nat:=68
theorem qDQ:qA fns B (n+1) 68 [a0,a1] h=fin (qB (qA fns B n) B eD [some a0,some a1,none,none] h):=rfl
abbrev qLo:Nat:=69
theorem qO2:qA fns B (n+1) 69 [a0,a1] h=fin (qB (qA fns B n) B eC [some a0,some a1] h):=rfl
abbrev qLR:Nat:=71
theorem qOV:qA fns B (n+1) 71 [a0,a1] h=fin (qB (qA fns B n) B pZ [some a0,some a1] h):=rfl
abbrev qLO:Nat:=72
theorem qOT:qA fns B (n+1) 72 [a0,a1] h=fin (qB (qA fns B n) B pW [some a0,some a1,none] h):=rfl
abbrev qLP:Nat:=73
theorem qDK:qA fns B (n+1) 73 [a0,a1,a2] h=fin (qB (qA fns B n) B dE [some a0,some a1,some a2,none] h):=rfl
abbrev qCa:Nat:=74
theorem qDL:qA fns B (n+1) 74 [a0,a1] h=fin (qB (qA fns B n) B dG [some a0,some a1,none] h):=rfl
abbrev qCZ:Nat:=75
theorem pJ:qA fns B (n+1) 75 [a0,a1,a2,a3,a4] h=fin (qB (qA fns B n) B uC [some a0,some a1,some a2,some a3,some a4,none,none,none,none,none] h):=rfl
abbrev qLQ:Nat:=76
theorem qOU:qA fns B (n+1) 76 [a0,a1,a2,a3,a4,a5] h=fin (qB (qA fns B n) B dF [some a0,some a1,some a2,some a3,some a4,some a5,none,none,none,none] h):=rfl
abbrev qLS:Nat:=77
theorem qOW:qA fns B (n+1) 77 [a0] h=fin (qB (qA fns B n) B qDx [some a0,none,none,none,none,none,none,none,none,none,none] h):=rfl
end
local macro_rules | `(tactic| simp! only [$ts,*] $[$l]?) => do
  let a ← ("Int.reduceLT Int.reduceLE Int.reduceNeg Int.reduceAdd Int.reduceSub Int.reduceEq Int.reduceBEq Nat.reduceLeDiff Nat.reduceLT Nat.reduceBEq and_self and_true true_and qMQ qMP qMR qB den qJ zA jF kR qLG tM qQ3 qQ4 qHi qHj tY qN0 qNz qN1 qGz wB qN2 qN3 M.ret_eq M.bind_eq R.bind_ok R.bind_exc wJ newL wF iB qJX qGX qGW qL zP tbN Option.isNone_none Option.isNone_some qJc iA uK qCr uI b2i List.getElem?_cons_zero List.getElem?_cons_succ List.length_cons List.length_nil List.map_cons List.map_nil List.cons_append List.nil_append List.set_cons_zero List.set_cons_succ if_true reduceIte Nat.zero_add Nat.reduceAdd Bool.false_eq_true if_false Bool.not_true Bool.not_false Bool.or_true Bool.or_false Bool.true_or Bool.false_or decide_true decide_false reduceCtorEq beq_self_eq_true qEz qE2 qE1 qE0 qEv qE6 qEx qEu qE9 qEw qE8 qE3 qE7 qE5 qEy qE4 qIG qIF qIE qID qHn qHu qHo qHr qHp qH7 qHq qHm qIA qH9 qHv qIB qHt qHy qHz qH6 qH8 qH5 qH4 qHs qH3 qH2 qH1 qHw qHx qHl qH0 qIC qFf qK0 qKz qK1 qGe qGc qGk qJV qJM qJS qJT qJQ qJN qJU qEm qFW qJO qJR qJP qGF qGR qMG isi_int isi_str isi_tup qMX qMY qMW".splitOn " ").toArray.mapM fun x => `(Lean.Parser.Tactic.simpLemma| $(Lean.mkIdent x.toName):term)
  `(tactic| simp only [$a,*, $ts,*] $[$l]?)
theorem vH(h l:AH)(k:Nat):getL (h++l) (h.length+k)=getL l k:=by
 unfold getL;rw[List.getElem?_append_right (by lia),Nat.add_sub_cancel_left]
theorem jG(h l:AH):getL (h++l) h.length=getL l 0:=vH h l 0
theorem jT(h l:AH)(k:Nat):(h++l)[h.length+k]?=l[k]?:=by
 rw[List.getElem?_append_right (by lia),Nat.add_sub_cancel_left]
theorem zY(h l:AH):(h++l)[h.length]?=l[0]?:=jT h l 0
theorem uP(h l:AH)(k:Nat)(o:O):(h++l).set (h.length+k) o=h++l.set k o:=by
 rw[List.set_append_right _ _ (by lia),Nat.add_sub_cancel_left]
theorem wN(h l:AH)(o:O):(h++l).set h.length o=h++l.set 0 o:=uP h l 0 o
theorem qMK(xs:List D)(l:AH):getL (.lst xs::l) 0=some xs:=rfl
theorem qKu{ds:List D}{k:Nat}(h:ds[k]?=some d):((ixN ds.length (k:Int)).bind fun j=>ds[j]?)=some d:=by
 rw[iT (List.getElem?_eq_some_iff.mp h).1,Option.bind_some,h]
theorem qC6{α:Type}(x:List α)(k:Nat):qN x none (some (k:Int))=x.take k:=by
 unfold qN qY;simp only[if_neg (show ¬ (k:Int)<0 by lia),Int.toNat_natCast,List.drop_zero,Nat.sub_zero];rw[Nat.min_comm,<- List.take_take];exact List.take_of_length_le (by rw[List.length_take];lia)
theorem qNk{α:Type}(x:List α)(k:Nat):qN x (some (k:Int)) none=x.drop k:=by
 unfold qN qY;simp only[if_neg (show ¬ (k:Int)<0 by lia),Int.toNat_natCast]
 by_cases hk:k<=x.length
 ·rw[Nat.min_eq_left hk];exact List.take_of_length_le (by simp)
 ·rw[Nat.min_eq_right (by lia),List.drop_length,List.drop_eq_nil_of_le (by lia),List.take_nil]
theorem qBh(B n:Nat)(h:AH)(i:Nat)(xs:List Int)(k:Nat)(hx:getL h i=some (xs.map .int)):qA fns B (n+1) qLR [.ref i,.int k] h=.ok (.int (xs.getD k 0)) h:=by
 rw[qOV];simp! only [pZ,hx,List.length_map]
 by_cases hk:k<xs.length
 ·have e:decide ((k:Int)<(xs.length:Int))=true:=by simpa using hk
  have e2:xs[k]?=some xs[k]:=by simp[hk]
  simp! only [e,Option.bind_some,ixN,List.length_map,if_pos (show (0:Int)<=k by lia),if_pos (show (k:Int)<xs.length by lia),Int.toNat_natCast,e2,List.getElem?_map,Option.map_some,List.getD_eq_getElem?_getD,Option.getD_some]
 ·have e:decide ((k:Int)<(xs.length:Int))=false:=by simpa using hk
  have e2:xs[k]?=none:=by simp;lia
  simp! only [e,qDu,List.getD_eq_getElem?_getD,e2,Option.getD_none]
def okC(c:Nat):Bool:=decide (32<=c)&&decide (c<=126)&&!decide (c=37)
theorem qJ0(B n:Nat)(c:Nat)(h:AH):qA fns B (n+1) qLU [.str [c]] h=.ok (.bl (okC c)) h:=by
 rw[qOY];have e1:decide ((32:Int)<=(c:Int))=decide (32<=c):=gD 32 c;have e2:decide ((c:Int)<=(126:Int))=decide (c<=126):=gD c 126;have e3:((c:Int) == 37)=decide (c=37):=qLF c 37;simp! only [rK,e1];unfold okC
 by_cases h1:32<=c
 ·by_cases h2:c<=126
  ·simp! only [e2,e3,h1,h2,Bool.true_and]
  ·simp! only [e2,h1,h2,Bool.and_false,Bool.false_and]
 ·simp! only [h1,Bool.false_and]
theorem qBe(B n:Nat)(x:Tx)(h:AH)(hz:x.length<=1000):qA fns B (n+2) qLT [.str x] h=.ok (.bl (x.all okC)) (h++[.lst (x.map fun c=>.bl (okC c))]):=by
 rw[qOX]
 have e:zG (jH (den (qA fns B (n+1)) rH) [some (D.str x)]) (x.map fun c=>D.str [c]) h=.ok (x.map fun c=>.bl (okC c)) h:=by
  rw[uY _ (fun d=>match d with | .str [c]=>.bl (okC c) | _=>.non)]
  ·rw[List.map_map];rfl
  ·intro y hy;obtain ⟨c,_,rfl⟩:=List.mem_map.mp hy;simp! only [yE,rH,qJ0]
 have hz':x.length<=16777216:=by lia
 have hz2:x.length<16777216:=by lia
 simp! only [rJ,e,List.length_map,hz',hz2,lM,Option.bind_some,eK]
def chk(v:Int)(x:Tx):Int:=x.foldl (fun (v:Int) (c:Nat)=>(v*31+(c:Int)-32) % 9973) v
theorem qKB(B n:Nat)(x:Tx)(h:AH):qA fns B (n+1) qLc [.str x] h=.ok (.int (chk 7 x)) h:=by
 have step:∀ (c:Nat) (v:Int) (l:Option D),zT (TG.nm 2) (qB (qA fns B n) B dN) (.str [c]) [some (.str x),some (.int v),l] h=.nx [some (.str x),some (.int ((v*31+(c:Int)-32) % 9973)),some (.str [c])] h:=by
  intro c v l;simp! only [dN,if_pos (qBO (i:=v) (j:=31) (by lia)),show (0:Int)<9973 by lia]
 have L:∀ (z:Tx) (v:Int) (l:Option D),∃ l',jP (zT (TG.nm 2) (qB (qA fns B n) B dN)) (z.map fun c=>D.str [c]) [some (.str x),some (.int v),l] h=.nx [some (.str x),some (.int (chk v z)),l'] h:=by
  intro z
  induction z with
  |nil=>intro v l;exact⟨l,rfl⟩
  |cons c z ih=>intro v l;rw[List.map_cons,jP,step,tY];exact ih _ _
 rw[qOm];simp! only [sA];obtain ⟨l',L⟩:=L x 7 none;rw[L];simp! only [qD9]
def txN(m:Nat):Tx:=(Nat.toDigits 10 m).map Char.toNat
theorem qFE(m:Nat):txI (m:Int)=txN m:=by
 unfold txI txN;have e:(toString (m:Int):String)=String.ofList (Nat.toDigits 10 m):=rfl;rw[e,String.toList_ofList]
theorem dch:∀ d:Nat,d<10->(Nat.digitChar d).toNat=48+d:=by decide
theorem wK(h:m<10):txN m=[48+m]:=by
 unfold txN;rw[Nat.toDigits_of_lt_base h,List.map_cons,List.map_nil,dch m h]
theorem uG(h:10<=m):txN m=txN (m / 10)++[48+m % 10]:=by
 unfold txN;rw[Nat.toDigits_of_base_le (by lia) h,List.map_append,List.map_cons,List.map_nil,dch _ (Nat.mod_lt _ (by lia))]
theorem eR(m:Nat):jN (txN m)=true:=by
 induction m using Nat.strongRecOn with
 |_ m ih=>
  by_cases h:m<10
  ·rw[wK h];unfold jN;simp;lia
  ·rw[uG (by lia)];unfold jN;rw[List.all_append]
   have:=ih (m / 10) (by lia)
   unfold jN at this;rw[this]
   have:=Nat.mod_lt m (show 10 > 0 by lia)
   simp
   lia
theorem qMz(x:Tx)(c:Nat):kM (x++[c])=kM x*10+(c-48):=by
 unfold kM;rw[List.foldl_append];rfl
theorem qFC(m:Nat):kM (txN m)=m:=by
 induction m using Nat.strongRecOn with
 |_ m ih=>
  by_cases h:m<10
  ·rw[wK h];unfold kM;simp
  ·rw[uG (by lia),qMz,ih (m / 10) (by lia)]
   lia
theorem tW(m:Nat):txN m≠[]:=by
 by_cases h:m<10
 ·rw[wK h];simp
 ·rw[uG (by lia)];simp
theorem qFD(h:0<m):(txN m)[0]?≠some 48:=by
 induction m using Nat.strongRecOn with
 |_ m ih=>
  by_cases h1:m<10
  ·rw[wK h1];simp;lia
  ·rw[uG (by lia)]
   have:=ih (m / 10) (by lia) (by lia)
   rw[List.getElem?_append_left (List.length_pos_iff.mpr (tW _))];exact this
theorem eQ:∀ k:Nat,m<10 ^ (k+1)->(txN m).length<=k+1:=by
 intro k
 induction k generalizing m with
 |zero=>intro h;rw[wK (by simpa using h)];simp
 |succ k ih=>
  intro h
  by_cases h1:m<10
  ·rw[wK h1];simp
  ·rw[uG (by lia),List.length_append]
   have:=ih (m:=m / 10) (by rw[Nat.pow_succ] at h;lia)
   simp only[List.length_cons,List.length_nil]
   lia
def FIG:Tx:=[48,49,50,51,52,53,54,55,56,57]
def dgC(c:Nat):Bool:=decide (48<=c/\c<=57)
theorem qMS(c:Nat):FIG.contains c=dgC c:=by
 by_cases h:c<58
 ·exact (by decide:∀ c,c<58->FIG.contains c=dgC c) c h
 ·have e:FIG.contains c=false:=by
   cases q:FIG.contains c with
   |false=>rfl
   |true=>exact absurd ((by decide:∀ x∈FIG,x<58) c (List.contains_iff_mem.mp q)) h
  rw[e];unfold dgC;exact (decide_eq_false (by omega)).symm
theorem log2_lt{i:Int}(h0:0<=i)(h:i<10000000000000):i.natAbs.log2<1920:=by
 by_cases h1:i.natAbs=0
 ·rw[h1];decide
 ·refine Nat.lt_of_lt_of_le ((Nat.log2_lt h1).mpr (show i.natAbs<2 ^ 44 from ?_)) (by decide)
  have:(2:Nat) ^ 44=17592186044416:=by decide
  lia
theorem qJ7(B n:Nat)(i:Int)(h0:0<=i)(h1:i<10000000000000)(h:AH):qA fns B (n+1) qCb [.int i] h=.ok (.str (txI i)) h:=by
 rw[qOj];simp! only [rX,if_pos (log2_lt h0 h1)]
def yC(x:Tx):Bool:=decide (1<=x.length/\x.length<=13)&&!(decide (x[0]?=some 48)&&decide (1<x.length))&&x.all dgC
theorem qJ1(B n:Nat)(x:Tx)(h:AH)(hz:x.length<=1000):∃ g,qA fns B (n+1) qLZ [.str x] h=.ok (.bl (yC x)) (h++g):=by
 rw[qOe];have hz':x.length<=16777216:=by lia
 have hz2:x.length<16777216:=by lia
 have e1:decide ((1:Int)<=(x.length:Int))=decide (1<=x.length):=gD 1 x.length;have e2:decide ((x.length:Int)<=13)=decide (x.length<=13):=gD x.length 13;have e3:decide ((1:Int)<(x.length:Int))=decide (1<x.length):=qLE 1 x.length;unfold yC
 match x,hz,hz',hz2,e1,e2,e3 with
 | [],_,_,_,_,_,_=>exact⟨[],by rw[List.append_nil];rfl⟩
 |c::r,hz,hz',hz2,e1,e2,e3=>
  have f1:decide (1<=(c::r).length)=true:=by simp
  have ix0:(ixN (c::r).length 0).bind ((c::r)[·]?)=some c:=by
   rw[show (0:Int)=((0:Nat):Int) from rfl,iT (by simp)];rfl
  generalize hy:c::r=x at *;have hx0:x[0]?=some c:=by rw[<- hy];rfl
  simp! only [rS,hz',e1,f1,e2]
  by_cases h13:x.length<=13
  ·have q1:decide (1<=x.length/\x.length<=13)=true:=decide_eq_true ⟨of_decide_eq_true f1,h13⟩;rw[q1,hx0];simp! only [h13,qD0,hz',ix0,e3,Bool.true_and,Option.some.injEq]
   have e:zG (jH (den (qA fns B n) rR) [some (D.str x)]) (x.map fun c=>D.str [c]) h=.ok (x.map fun c=>.bl (dgC c)) h:=by
    rw[uY _ (fun d=>match d with | .str [c]=>.bl (dgC c) | _=>.non)]
    ·rw[List.map_map];rfl
    ·intro y hy;obtain ⟨c,_,rfl⟩:=List.mem_map.mp hy;have q:=qMS c;unfold FIG at q;simp! only [yE,rR,q]
   by_cases h48:c=48
   ·subst h48;simp! only [BEq.rfl,Bool.true_and,hz',e3]
    by_cases hl:1<x.length
    ·simp! only [hl,Bool.false_and]
     exact⟨[],by rw[List.append_nil]⟩
    ·simp! only [hl,rQ,Bool.true_and,List.length_map,hz',hz2,e,lM,Option.bind_some,eK]
     exact⟨_,rfl⟩
   ·have q:(([c]:Tx) == [48])=false:=by simp[h48]
    simp! only [q,h48,Bool.false_and,rQ,Bool.true_and,List.length_map,hz',hz2,e,lM,Option.bind_some,eK]
    exact⟨_,rfl⟩
  ·have q1:decide (1<=x.length/\x.length<=13)=false:=decide_eq_false fun q=>h13 q.2;rw[q1];simp! only [h13,Bool.false_and]
   exact⟨[],by rw[List.append_nil]⟩
def zQ(x:Tx):D:=if yC x=true then (if kM x<=1000000000000 then .int (kM x) else .non) else .non
theorem qQ5:x.all dgC=jN x:=rfl
theorem qJy(B n:Nat)(x:Tx)(h:AH)(hz:x.length<=1000):∃ g,qA fns B (n+2) qLM [.str x] h=.ok (zQ x) (h++g):=by
 rw[qOR];obtain ⟨g,e⟩:=qJ1 B n x h hz;refine⟨g,?_⟩;unfold zQ;cases q:yC x with
 |false=>simp! only [dA,e,q]
 |true=>
  have q':=q;unfold yC at q';simp only[Bool.and_eq_true,decide_eq_true_eq] at q';obtain ⟨⟨⟨l1,l2⟩,_⟩,l3⟩:=q';have hc:x≠[]/\x.length<=640/\jN x=true:=⟨List.length_pos_iff.mp l1,by lia,l3⟩;have ed:decide ((kM x:Int)<=1000000000000)=decide (kM x<=1000000000000):=gD _ _;simp! only [dA,e,q,qDo,if_pos hc,ed]
  by_cases hd:kM x<=1000000000000 <;> simp! only [hd]
theorem qIK(m:Nat)(h:m<=1000000000000):zQ (txN m)=.int m:=by
 unfold zQ;have hl:(txN m).length<=13:=eQ 12 (by have:(10:Nat) ^ (12+1)=10000000000000:=(by decide);lia)
 have:yC (txN m)=true:=by
  unfold yC;rw[qQ5,eR,decide_eq_true (show 1<=(txN m).length/\(txN m).length<=13 from ⟨List.length_pos_iff.mpr (tW m),hl⟩)]
  by_cases h0:0<m
  ·rw[decide_eq_false (qFD h0)];rfl
  ·have:m=0:=by lia
   subst this;rw[wK (by lia)];rfl
 rw[this,if_pos rfl,qFC,if_pos h]
theorem isi_int(h:AH)(t:Ty)(i:Int):kP h t (.int i)=some (t == .int):=rfl
theorem isi_str(h:AH)(t:Ty)(x:Tx):kP h t (.str x)=some (t == .str):=rfl
theorem isi_tup(h:AH)(t:Ty)(x:List D):kP h t (.tup x)=some (t == .tuple):=rfl
section
variable (B n:Nat)(h:AH)
theorem yP{i lo hi:Int}(h1:lo<=i)(h2:i<=hi):qA fns B (n+1) qLX [.int i,.int lo,.int hi] h=.ok (.bl true) h:=by
 rw[qOb];simp! only [rN,isi_int,show (Ty.bool == Ty.int)=false from rfl,show (Ty.int == Ty.int)=true from rfl,qDz,decide_eq_true h1,decide_eq_true h2]
theorem iE{i:Int}(h1:1<=i)(h2:i<=1000000000):qA fns B (n+2) qLY [.int i] h=.ok (.bl true) h:=by
 rw[qOc];simp! only [rO,yP B n h h1 h2]
theorem qBa{i:Int}(h1:0<=i)(h2:i<=1000000):qA fns B (n+2) qLV [.int i] h=.ok (.bl true) h:=by
 rw[qOZ];simp! only [rL,yP B n h h1 h2]
theorem iC(k:D)(a b c:Int)(r:List D)(ha:1<=a)(ha2:a<=1000000000)(hb:1<=b)(hb2:b<=1000000000)(hc:0<=c)(hc2:c<=999):qA fns B (n+3) qLN [.tup (k::.int a::.int b::.int c::r)] h=.ok (.bl true) h:=by
 rw[qOS]
 have i1:((ixN (r.length+4) 1).bind fun j=>(k::D.int a::.int b::.int c::r)[j]?)=some (.int a):=by
  rw[show ixN (r.length+4) 1=some 1 by unfold ixN;rw[if_pos (by lia),if_pos (by lia)];rfl];rfl
 have i2:((ixN (r.length+4) 2).bind fun j=>(k::D.int a::.int b::.int c::r)[j]?)=some (.int b):=by
  rw[show ixN (r.length+4) 2=some 2 by unfold ixN;rw[if_pos (by lia),if_pos (by lia)];rfl];rfl
 have i3:((ixN (r.length+4) 3).bind fun j=>(k::D.int a::.int b::.int c::r)[j]?)=some (.int c):=by
  rw[show ixN (r.length+4) 3=some 3 by unfold ixN;rw[if_pos (by lia),if_pos (by lia)];rfl];rfl
 simp! only [pU,List.length_cons,i1,i2,i3,iE B n h ha ha2,iE B n h hb hb2,yP B (n+1) h hc hc2]
end
def HELLO:Tx:=[104,101,108,108,111]
def DATA:Tx:=[100,97,116,97]
def ENDW:Tx:=[101,110,100]
def ANS:Tx:=[97,110,115,119,101,114]
inductive La where
 |no | sg (y:Tx) | sp
structure Pce where
 k:Tx
 ns:List Nat
 la:La
def nsD(ns:List Nat):List D:=ns.map fun n:Nat=>D.int n
def laD:La->List D
 | .no=>[]
 | .sg y=>[.str y]
 | .sp=>[.tup []]
def toD(p:Pce):D:=.tup (.str p.k::(nsD p.ns++laD p.la))
inductive Shp:Pce->Prop where
 |hello (a b:Nat):1<=a->Shp ⟨HELLO,[a,b],.no⟩
 |data (a b c d:Nat) (y:Tx):1<=a->1<=b->c<50->d<=100->y.all okC=true->y.length<=40->Shp ⟨DATA,[a,b,c,d],.sg y⟩
 |fin (a b c d:Nat):1<=a->1<=b->c<50->d<=100->Shp ⟨ENDW,[a,b,c,d],.no⟩
 |ans (a b c d f:Nat):1<=a->1<=b->c<50->d<=1000->f<=1000->Shp ⟨ANS,[a,b,c,d,f],.sp⟩
def okP(p:Pce):Prop:=Shp p/\∀ n∈p.ns,n<=1000000000
section
variable (B n:Nat)(h:AH)
theorem w1:(HELLO == [104,101,108,108,111])=true:=rfl
theorem w2:(DATA == [104,101,108,108,111])=false:=rfl
theorem w3:(DATA == [100,97,116,97])=true:=rfl
theorem w4:(ENDW == [104,101,108,108,111])=false:=rfl
theorem w5:(ENDW == [100,97,116,97])=false:=rfl
theorem w6:(ENDW == [101,110,100])=true:=rfl
theorem w7:(ANS == [104,101,108,108,111])=false:=rfl
theorem w8:(ANS == [100,97,116,97])=false:=rfl
theorem w9:(ANS == [101,110,100])=false:=rfl
theorem w10:(ANS == [97,110,115,119,101,114])=true:=rfl
theorem tyt:(Ty.tuple == Ty.tuple)=true:=rfl
theorem tys:(Ty.str == Ty.str)=true:=rfl
theorem qBf{p:Pce}(hp:okP p):∃ f,qA fns B (n+6) qLW [toD p] h=.ok (.bl true) (h++f):=by
 rw[qOa];obtain ⟨sh,bd⟩:=hp;cases sh with
 |hello a b ha=>
  have b1:=bd a (by simp);have b2:=bd b (by simp)
  have s:qA fns B (n+5) 19 [.tup [.str HELLO,.int a,.int b]] h=.ok (.bl true) h:=by
   rw[qOd];simp! only [rP,show (((3:Nat):Int) == 3)=true from rfl,show ((ixN 3 1).bind fun j=>[D.str HELLO,.int a,.int b][j]?)=some (.int a) from rfl,show ((ixN 3 2).bind fun j=>[D.str HELLO,.int a,.int b][j]?)=some (.int b) from rfl,iE B (n+2) h (show (1:Int)<=a by lia) (show (a:Int)<=1000000000 by lia),yP B (n+3) h (show (0:Int)<=b by lia) (show (b:Int)<=1000000000 by lia)]
  refine⟨[],?_⟩;rw[List.append_nil];show Fy.fin (qB (qA fns B (n+5)) B vA [some (.tup [.str HELLO,.int a,.int b]),none] h)=_;simp! only [vA,isi_tup,tyt,show (((3:Nat):Int) == 0)=false from rfl,gU,show ((ixN 3 0).bind fun j=>[D.str HELLO,.int a,.int b][j]?)=some (.str HELLO) from rfl,isi_str,tys,gW,w1,s]
 |data a b c d y ha hb hc hd hy hl=>
  have b1:=bd a (by simp);have b2:=bd b (by simp);have s0:=qBe B (n+2) y h (by lia);rw[hy] at s0;have d1:decide ((y.length:Int)<=40)=true:=decide_eq_true (by lia);have d2:decide ((d:Int)+(y.length:Int)<=1000000)=true:=decide_eq_true (by lia)
  have s:qA fns B (n+5) 20 [.tup [.str DATA,.int a,.int b,.int c,.int d,.str y]] h=.ok (.bl true) (h++[.lst (y.map fun c=>.bl (okC c))]):=by
   rw[qOg];simp! only [rV,show (((6:Nat):Int) == 6)=true from rfl,iC B (n+1) h (.str DATA) a b c [.int d,.str y] (by lia) (by lia) (by lia) (by lia) (by lia) (by lia),qD1,show ((ixN 6 4).bind fun j=>[D.str DATA,.int a,.int b,.int c,.int d,.str y][j]?)=some (.int d) from rfl,show ((ixN 6 5).bind fun j=>[D.str DATA,.int a,.int b,.int c,.int d,.str y][j]?)=some (.str y) from rfl,qBa B (n+2) h (show (0:Int)<=d by lia) (show (d:Int)<=1000000 by lia),s0,qD2,if_pos (show y.length<=16777216 by lia),d1,d2]
  refine⟨[.lst (y.map fun c=>.bl (okC c))],?_⟩;show Fy.fin (qB (qA fns B (n+5)) B vA [some (.tup [.str DATA,.int a,.int b,.int c,.int d,.str y]),none] h)=_;simp! only [vA,isi_tup,tyt,show (((6:Nat):Int) == 0)=false from rfl,gU,show ((ixN 6 0).bind fun j=>[D.str DATA,.int a,.int b,.int c,.int d,.str y][j]?)=some (.str DATA) from rfl,isi_str,tys,gW,w2,dL,w3,s]
 |fin a b c d ha hb hc hd=>
  have b1:=bd a (by simp);have b2:=bd b (by simp)
  have s:qA fns B (n+5) 21 [.tup [.str ENDW,.int a,.int b,.int c,.int d]] h=.ok (.bl true) h:=by
   rw[qOf];simp! only [rT,show (((5:Nat):Int) == 5)=true from rfl,iC B (n+1) h (.str ENDW) a b c [.int d] (by lia) (by lia) (by lia) (by lia) (by lia) (by lia),show ((ixN 5 4).bind fun j=>[D.str ENDW,.int a,.int b,.int c,.int d][j]?)=some (.int d) from rfl,qBa B (n+2) h (show (0:Int)<=d by lia) (show (d:Int)<=1000000 by lia)]
  refine⟨[],?_⟩;rw[List.append_nil];show Fy.fin (qB (qA fns B (n+5)) B vA [some (.tup [.str ENDW,.int a,.int b,.int c,.int d]),none] h)=_;simp! only [vA,isi_tup,tyt,show (((5:Nat):Int) == 0)=false from rfl,gU,show ((ixN 5 0).bind fun j=>[D.str ENDW,.int a,.int b,.int c,.int d][j]?)=some (.str ENDW) from rfl,isi_str,tys,gW,w4,dL,w5,rM,w6,s]
 |ans a b c d f ha hb hc hd hf=>
  have b1:=bd a (by simp);have b2:=bd b (by simp)
  have s0:qA fns B (n+4) 23 [.tup [],.int d] h=.ok (.bl true) h:=by
   rw[qOp];simp! only [sF,isi_tup,tyt,List.length_nil,show decide ((8:Int)<((0:Nat):Int))=false from rfl,qEC,jP,qED]
  have s:qA fns B (n+5) 24 [.tup [.str ANS,.int a,.int b,.int c,.int d,.int f,.tup []]] h=.ok (.bl true) h:=by
   rw[qOh];simp! only [rW,show (((7:Nat):Int) == 7)=true from rfl,iC B (n+1) h (.str ANS) a b c [.int d,.int f,.tup []] (by lia) (by lia) (by lia) (by lia) (by lia) (by lia),qD3,show ((ixN 7 4).bind fun j=>[D.str ANS,.int a,.int b,.int c,.int d,.int f,.tup []][j]?)=some (.int d) from rfl,show ((ixN 7 5).bind fun j=>[D.str ANS,.int a,.int b,.int c,.int d,.int f,.tup []][j]?)=some (.int f) from rfl,show ((ixN 7 6).bind fun j=>[D.str ANS,.int a,.int b,.int c,.int d,.int f,.tup []][j]?)=some (.tup []) from rfl,yP B (n+3) h (show (0:Int)<=d by lia) (show (d:Int)<=1000001 by lia),yP B (n+3) h (show (0:Int)<=f by lia) (show (f:Int)<=1000200 by lia),qD4,s0]
  refine⟨[],?_⟩;rw[List.append_nil];show Fy.fin (qB (qA fns B (n+5)) B vA [some (.tup [.str ANS,.int a,.int b,.int c,.int d,.int f,.tup []]),none] h)=_;simp! only [vA,isi_tup,tyt,show (((7:Nat):Int) == 0)=false from rfl,gU,show ((ixN 7 0).bind fun j=>[D.str ANS,.int a,.int b,.int c,.int d,.int f,.tup []][j]?)=some (.str ANS) from rfl,isi_str,tys,gW,w7,dL,w8,rM,w9,qDy,w10,s]
end
def laW:La->List Tx
 | .no=>[]
 | .sg y=>[txN y.length++[58]++y]
 | .sp=>[[45]]
def wds(p:Pce):List Tx:=p.k::(p.ns.map txN++laW p.la)
def bod(p:Pce):Tx:=qZ [32] (wds p)
def kQ(v:Int):Tx:=List.replicate (4-(txN v.toNat).length) 48++txN v.toNat
def wr(p:Pce):Tx:=bod p++[32]++kQ (chk 7 (bod p))
theorem qDE(x:Tx):∀ v:Int,0<=v->v<9973->0<=chk v x/\chk v x<9973:=by
 induction x with
 |nil=>intro v h1 h2;exact⟨h1,h2⟩
 |cons c x ih=>intro v _ _;exact ih _ (Int.emod_nonneg _ (by lia)) (Int.emod_lt_of_pos _ (by lia))
theorem qB7(c:Nat):∀ ws:List Tx,(qZ [c] ws).length<=(ws.map fun w=>w.length+1).sum
 | []=>Nat.le_refl _
 | [x]=>by show x.length<=x.length+1+0;lia
 |x::y::r=>by
  have:=qB7 c (y::r)
  show (x++[c]++qZ [c] (y::r)).length<=x.length+1+((y::r).map fun w=>w.length+1).sum;rw[List.length_append,List.length_append];simp only[List.length_cons,List.length_nil] at *
  lia
theorem uH(h:m<=1000000000):(txN m).length<=10:=eQ 9 (by have:(10:Nat) ^ (9+1)=10000000000:=(by decide);lia)
theorem aO{α:Type}(f:α->Nat)(b:Nat):∀ l:List α,(∀ x∈l,f x<=b)->(l.map f).sum<=b*l.length
 | [],_=>by simp
 |x::l,h=>by
  have h1:=h x (List.mem_cons_self ..);have h2:=aO f b l fun y hy=>h y (List.mem_cons_of_mem _ hy);rw[List.map_cons,List.sum_cons,List.length_cons,Nat.mul_succ]
  lia
theorem qBs(h:okP p):∀ w∈laW p.la,w.length<=200:=by
 intro w hw;cases h.1 with
 |hello a b _=>cases hw
 |fin a b c d _ _ _ _=>cases hw
 |data a b c d y _ _ _ _ h1 h2=>
  have hw:w∈[txN y.length++[58]++y]:=hw;rw[List.mem_singleton.mp hw,List.length_append,List.length_append]
  have:=uH (m:=y.length) (by lia)
  simp only[List.length_cons,List.length_nil]
  lia
 |ans a b c d f _ _ _ _ _=>
  have hw:w∈[[45]]:=hw;rw[List.mem_singleton.mp hw];show 1<=200
  lia
theorem kl(h:Shp p):p.k.length<=6:=by
 cases h with
 |hello=>exact (by decide:HELLO.length<=6)
 |data=>exact (by decide:DATA.length<=6)
 |fin=>exact (by decide:ENDW.length<=6)
 |ans=>exact (by decide:ANS.length<=6)
theorem qDY(h:okP p):(bod p).length<=400:=by
 have h1:=qB7 32 (wds p);have h2:=qBs h;unfold bod
 have h3:((wds p).map fun w=>w.length+1).sum=p.k.length+1+(((p.ns.map txN).map fun w=>w.length+1).sum+((laW p.la).map fun w=>w.length+1).sum):=by
  unfold wds;rw[List.map_cons,List.sum_cons,List.map_append,List.sum_append]
 have h4:((p.ns.map txN).map fun w=>w.length+1).sum<=11*p.ns.length:=by
  rw[List.map_map];exact aO _ 11 p.ns fun x hx=>by have:=uH (h.2 x hx);show (txN x).length+1<=11;lia
 have h5:((laW p.la).map fun w=>w.length+1).sum<=201*(laW p.la).length:=aO _ 201 _ fun x hx=>by have:=h2 x hx;lia
 have h6:p.k.length<=6/\p.ns.length<=5/\(laW p.la).length<=1:=by
  refine⟨kl h.1,?_⟩;cases h.1 <;> exact⟨by simp,by simp[laW]⟩
 lia
theorem qBS(f:D->M (Option D))(r:D->D)(i:Nat)(xs:List D)(H:∀ x∈xs,∀ h,getL h i=some xs->∃ g,f x h=.ok (some (r x)) (h++g)):∀ (n k:Nat) (h:AH),getL h i=some xs->n+k=xs.length+1->k<=xs.length->∃ g,zR f i n k h=.ok ((xs.drop k).map r) (h++g)
 |0,k,h,hg,hn,hk=>by lia
 |n+1,k,h,hg,hn,hkl=>by
  unfold zR;rw[hg];simp only
  by_cases hk:k<xs.length
  ·have e:xs[k]?=some xs[k]:=by simp[hk]
   rw[e];obtain ⟨g1,e1⟩:=H _ (List.getElem_mem hk) h hg;obtain ⟨g2,e2⟩:=qBS f r i xs H n (k+1) (h++g1) (jO g1 hg) (by lia) hk;refine⟨g1++g2,?_⟩;simp only[M.bind_eq,e1,R.bind_ok,e2,M.ret_eq];rw[List.drop_eq_getElem_cons hk,List.append_assoc];rfl
  ·have e:xs[k]?=none:=by simp;lia
   rw[e,List.drop_eq_nil_of_le (by lia)]
   exact⟨[],by rw[List.append_nil];rfl⟩
theorem qBT(f:D->M (Option D))(r:D->D)(i:Nat)(xs:List D)(h:AH)(hg:getL h i=some xs)(hl:xs.length<=1000000)(H:∀ x∈xs,∀ h,getL h i=some xs->∃ g,f x h=.ok (some (r x)) (h++g)):∃ g,zR f i (zS h i) 0 h=.ok (xs.map r) (h++g)/\zS h i<16777216:=by
 have e:zS h i=xs.length+1:=by unfold zS;rw[hg];rfl
 obtain ⟨g,q⟩:=qBS f r i xs H (xs.length+1) 0 h hg rfl (Nat.zero_le _);rw[List.drop_zero] at q
 exact⟨g,by rw[e];exact q,by lia⟩
theorem qAK:∀ ws:List Tx,zU (ws.map D.str)=some ws
 | []=>rfl
 |w::ws=>by
  show (zU (ws.map D.str)).map (w::·)=_;rw[qAK ws];rfl
theorem qKr(c b:Nat)(ws:List Tx)(h:∀ w∈ws,w.length<=b):jS [c] ws<=(b+1)*ws.length:=by
 unfold jS
 have:=aO List.length b ws h
 rw[Nat.add_mul];simp only[List.length_cons,List.length_nil]
 lia
theorem lO(B n m:Nat)(hm:m<=1000000000000)(h:AH):qA fns B (n+1) qCb [.int (m:Int)] h=.ok (.str (txN m)) h:=by
 have:=qJ7 B n (m:Int) (by lia) (by lia) h
 rw[qFE] at this;exact this
theorem bO(B n:Nat)(ns:List Nat)(hn:∀ x∈ns,x<=1000000000)(hl:ns.length<=10)(h:AH):qA fns B (n+2) qLL [.tup (nsD ns)] h=.ok (.ref h.length) (h++[.lst ((ns.map txN).map D.str)]):=by
 rw[qOQ]
 have hm:zG (jH (den (qA fns B (n+1)) cZ) [some (.tup (nsD ns))]) (nsD ns) h=.ok ((ns.map txN).map D.str) h:=by
  have:=uY (jH (den (qA fns B (n+1)) cZ) [some (.tup (nsD ns))]) (fun d=>match d with | .int i=>.str (txN i.toNat) | _=>.non) h (nsD ns) (fun x hx=>by
   obtain ⟨m,hm,rfl⟩:=List.mem_map.mp hx
   have:=lO B n m (by have:=hn m hm;lia) h
   simp! only [yE,cZ,this]
   rfl)
  rw[this];unfold nsD;rw[List.map_map,List.map_map];rfl
 have l1:(nsD ns).length<16777216:=by unfold nsD;rw[List.length_map];lia
 have l2:((ns.map txN).map D.str).length<=16777216:=by rw[List.length_map,List.length_map];lia
 simp! only [pT,if_pos l1,hm,if_pos l2]
theorem qJq(B n:Nat)(y:Tx)(hy:y.length<=40)(h:AH):qA fns B (n+2) qLI [.str y] h=.ok (.str (txN y.length++[58]++y)) h:=by
 rw[qOM];have e:=lO B n y.length (by lia) h;have a:=uH (m:=y.length) (by lia);simp! only [pP,if_pos (show y.length<=16777216 by lia),e,if_pos (show (txN y.length).length+1<=16777216 by lia),List.length_append,if_pos (show (txN y.length).length+1+y.length<=16777216 by lia),show (txN y.length).length<=16777215 by lia]
theorem cU(B n:Nat)(k:Tx)(ws:List Tx)(x0:D)(h:AH)(g:AH)(i:Nat)(hg:(h++g)[i]?=some (.lst (ws.map D.str)))(hk:k.length<=10)(hl:ws.length<=20)(hb:∀ w∈ws,w.length<=300):∃ g',qB (qA fns B n) B sC [some x0,some (.str k),some (.ref i)] (h++g)=.rt (.str (qZ [32] (k::ws))) (h++g'):=by
 have hg1:=List.getElem?_append_left (l₂:=[O.lst [D.str k]]) (List.getElem?_eq_some_iff.mp hg).1;rw[hg] at hg1;have lb:(h++g++[O.lst [D.str k]])[(h++g).length]?=some (O.lst [D.str k]):=by rw[zY];rfl
 have gl:getL (h++g++[O.lst [D.str k]]++[O.lst (D.str k::ws.map D.str)]) (h++g++[O.lst [D.str k]]).length=some (D.str k::ws.map D.str):=by rw[jG];rfl
 have st:zU (D.str k::ws.map D.str)=some (k::ws):=qAK (k::ws)
 have j1:jS [32] (k::ws)<=16777216:=by
  have:=qKr 32 300 (k::ws) (fun w hw=>by
   rcases List.mem_cons.mp hw with rfl | hw
   ·lia
   ·exact hb w hw)
  rw[List.length_cons] at this
  lia
 refine⟨g++[O.lst [D.str k]]++[O.lst (D.str k::ws.map D.str)],?_⟩;rw[<- List.append_assoc,<- List.append_assoc];generalize h++g=G at *;simp! only [sC,lb,hg1,List.length_map,if_pos (show ws.length+1<=16777216 by lia),show ws.length<=16777215 by lia,gl,Option.bind_some,st,if_pos j1]
theorem qKE(B n:Nat)(hp:okP p)(h:AH):∃ g,qA fns B (n+4) qLd [toD p] h=.ok (.str (bod p)) (h++g):=by
 rw[qOo];obtain ⟨sh,bd⟩:=hp;have hp:okP p:=⟨sh,bd⟩
 have tx:∀ w∈p.ns.map txN,w.length<=300:=fun w hw=>by
  obtain ⟨z,hz,rfl⟩:=List.mem_map.mp hw
  have:=uH (bd z hz)
  lia
 have lw:=qBs hp;cases sh with
 |hello a b _=>have e:=bO B (n+1) [a,b] bd (by simp) h;have e:qA fns B (n+3) 26 [.tup [.int a,.int b]] h=.ok (.ref h.length) (h++[.lst (([a,b].map txN).map D.str)]):=e;have cx:qN [D.str HELLO,.int a,.int b] (some 1) none=[.int a,.int b]:=rfl;have ix:((ixN 3 0).bind fun j=>[D.str HELLO,.int a,.int b][j]?)=some (.str HELLO):=rfl;obtain ⟨g',e2⟩:=cU B (n+3) HELLO ([a,b].map txN) (.tup [.str HELLO,.int a,.int b]) h [.lst (([a,b].map txN).map D.str)] h.length (by rw[zY];rfl) (by decide) (by simp) tx;refine⟨g',?_⟩;show _=R.ok (D.str (qZ [32] (HELLO::[a,b].map txN))) _;show Fy.fin (qB (qA fns B (n+3)) B vB [some (.tup [.str HELLO,.int a,.int b]),none,none] h)=_;generalize [a,b].map txN=ws at *;simp! only [vB,ix,show (HELLO == [100,97,116,97])=false from rfl,show (HELLO == [97,110,115,119,101,114])=false from rfl,dO,sD,cx,e,e2]
 |fin a b c d _ _ _ _=>have e:=bO B (n+1) [a,b,c,d] bd (by simp) h;have e:qA fns B (n+3) 26 [.tup [.int a,.int b,.int c,.int d]] h=.ok (.ref h.length) (h++[.lst (([a,b,c,d].map txN).map D.str)]):=e;have cx:qN [D.str ENDW,.int a,.int b,.int c,.int d] (some 1) none=[.int a,.int b,.int c,.int d]:=rfl;have ix:((ixN 5 0).bind fun j=>[D.str ENDW,.int a,.int b,.int c,.int d][j]?)=some (.str ENDW):=rfl;obtain ⟨g',e2⟩:=cU B (n+3) ENDW ([a,b,c,d].map txN) (.tup [.str ENDW,.int a,.int b,.int c,.int d]) h [.lst (([a,b,c,d].map txN).map D.str)] h.length (by rw[zY];rfl) (by decide) (by simp) tx;refine⟨g',?_⟩;show _=R.ok (D.str (qZ [32] (ENDW::[a,b,c,d].map txN))) _;show Fy.fin (qB (qA fns B (n+3)) B vB [some (.tup [.str ENDW,.int a,.int b,.int c,.int d]),none,none] h)=_;generalize [a,b,c,d].map txN=ws at *;simp! only [vB,ix,show (ENDW == [100,97,116,97])=false from rfl,show (ENDW == [97,110,115,119,101,114])=false from rfl,dO,sD,cx,e,e2]
 |data a b c d y _ _ _ _ h1 h2=>
  have e:=bO B (n+1) [a,b,c,d] bd (by simp) h;have e:qA fns B (n+3) 26 [.tup [.int a,.int b,.int c,.int d]] h=.ok (.ref h.length) (h++[.lst (([a,b,c,d].map txN).map D.str)]):=e;have e3:=qJq B (n+1) y h2 (h++[.lst (([a,b,c,d].map txN).map D.str)]);have cx:qN [D.str DATA,.int a,.int b,.int c,.int d,.str y] (some 1) (some 5)=[.int a,.int b,.int c,.int d]:=rfl;have ix:((ixN 6 0).bind fun j=>[D.str DATA,.int a,.int b,.int c,.int d,.str y][j]?)=some (.str DATA):=rfl;have ix5:((ixN 6 5).bind fun j=>[D.str DATA,.int a,.int b,.int c,.int d,.str y][j]?)=some (.str y):=rfl;have g1:∀ l:AH,(h++O.lst (([a,b,c,d].map txN).map D.str)::l)[h.length]?=some (O.lst (([a,b,c,d].map txN).map D.str)):=fun l=>by rw[zY];rfl
  have g2:(h++[O.lst (([a,b,c,d].map txN).map D.str),O.lst [D.str (txN y.length++[58]++y)]])[h.length+1]?=some (O.lst [D.str (txN y.length++[58]++y)]):=by rw[jT];rfl
  have ws:([a,b,c,d].map txN).map D.str++[D.str (txN y.length++[58]++y)]=([a,b,c,d].map txN++[txN y.length++[58]++y]).map D.str:=rfl;have lw':=lw (txN y.length++[58]++y) (List.mem_singleton.mpr rfl)
  obtain ⟨g',e2⟩:=cU B (n+3) DATA ([a,b,c,d].map txN++[txN y.length++[58]++y]) (.tup [.str DATA,.int a,.int b,.int c,.int d,.str y]) h [O.lst (([a,b,c,d].map txN).map D.str),O.lst [D.str (txN y.length++[58]++y)],O.lst (([a,b,c,d].map txN++[txN y.length++[58]++y]).map D.str)] (h.length+2) (by rw[jT];rfl) (by decide) (by simp) (fun w hw=>by
   rcases List.mem_append.mp hw with hw | hw
   ·exact tx w hw
   ·rw[List.mem_singleton.mp hw];lia)
  refine⟨g',?_⟩;show Fy.fin (qB (qA fns B (n+3)) B vB [some (.tup [.str DATA,.int a,.int b,.int c,.int d,.str y]),none,none] h)=_
  have l2:(([a,b,c,d].map txN++[txN y.length++[58]++y]).map D.str).length<=16777216:=by
   have:(([a,b,c,d].map txN++[txN y.length++[58]++y]).map D.str).length=5:=rfl
   lia
  show _=R.ok (D.str (qZ [32] (DATA::([a,b,c,d].map txN++[txN y.length++[58]++y])))) _;generalize [a,b,c,d].map txN++[txN y.length++[58]++y]=vs at *;generalize ([a,b,c,d].map txN).map D.str=us at *;generalize txN y.length++[58]++y=w at *;simp! only [vB,ix,show (DATA == [100,97,116,97])=true from rfl,qEB,cx,e,ix5,e3,List.append_assoc,List.length_append,g1,g2,ws,if_pos l2,e2]
 |ans a b c d f _ _ _ _ _=>
  have e:=bO B (n+1) [a,b,c,d,f] bd (by simp) h;have e:qA fns B (n+3) 26 [.tup [.int a,.int b,.int c,.int d,.int f]] h=.ok (.ref h.length) (h++[.lst (([a,b,c,d,f].map txN).map D.str)]):=e;have e3:qA fns B (n+3) 28 [.tup []] (h++[.lst (([a,b,c,d,f].map txN).map D.str)])=.ok (.str [45]) (h++[.lst (([a,b,c,d,f].map txN).map D.str)]):=rfl;have cx:qN [D.str ANS,.int a,.int b,.int c,.int d,.int f,.tup []] (some 1) (some 6)=[.int a,.int b,.int c,.int d,.int f]:=rfl;have ix:((ixN 7 0).bind fun j=>[D.str ANS,.int a,.int b,.int c,.int d,.int f,.tup []][j]?)=some (.str ANS):=rfl;have ix5:((ixN 7 6).bind fun j=>[D.str ANS,.int a,.int b,.int c,.int d,.int f,.tup []][j]?)=some (.tup []):=rfl;have g1:∀ l:AH,(h++O.lst (([a,b,c,d,f].map txN).map D.str)::l)[h.length]?=some (O.lst (([a,b,c,d,f].map txN).map D.str)):=fun l=>by rw[zY];rfl
  have g2:(h++[O.lst (([a,b,c,d,f].map txN).map D.str),O.lst [D.str [45]]])[h.length+1]?=some (O.lst [D.str [45]]):=by rw[jT];rfl
  have ws:([a,b,c,d,f].map txN).map D.str++[D.str [45]]=([a,b,c,d,f].map txN++[[45]]).map D.str:=rfl
  obtain ⟨g',e2⟩:=cU B (n+3) ANS ([a,b,c,d,f].map txN++[[45]]) (.tup [.str ANS,.int a,.int b,.int c,.int d,.int f,.tup []]) h [O.lst (([a,b,c,d,f].map txN).map D.str),O.lst [D.str [45]],O.lst (([a,b,c,d,f].map txN++[[45]]).map D.str)] (h.length+2) (by rw[jT];rfl) (by decide) (by simp) (fun w hw=>by
   rcases List.mem_append.mp hw with hw | hw
   ·exact tx w hw
   ·rw[List.mem_singleton.mp hw];simp)
  refine⟨g',?_⟩;show Fy.fin (qB (qA fns B (n+3)) B vB [some (.tup [.str ANS,.int a,.int b,.int c,.int d,.int f,.tup []]),none,none] h)=_
  have l2:(([a,b,c,d,f].map txN++[[45]]).map D.str).length<=16777216:=by
   have:(([a,b,c,d,f].map txN++[[45]]).map D.str).length=6:=rfl
   lia
  show _=R.ok (D.str (qZ [32] (ANS::([a,b,c,d,f].map txN++[[45]])))) _;generalize [a,b,c,d,f].map txN++[[45]]=vs at *;generalize ([a,b,c,d,f].map txN).map D.str=us at *;simp! only [vB,ix,w8,w10,dO,qEA,cx,e,ix5,e3,List.append_assoc,List.length_append,g1,g2,ws,if_pos l2,e2]
theorem qCp(v:Int)(h0:0<=v)(h1:v<9973):(kQ v).length=4:=by
 have:=eQ (m:=v.toNat) 3 (by have:(10:Nat) ^ (3+1)=10000:=(by decide);lia)
 unfold kQ;rw[List.length_append,List.length_replicate]
 lia
theorem qBX(B n:Nat)(hp:okP p)(h:AH):∃ g,qA fns B (n+7) qCX [toD p] h=.ok (.str (wr p)) (h++g):=by
 rw[qOK];obtain ⟨g1,e1⟩:=qBf B n h hp;obtain ⟨g2,e2⟩:=qKE B (n+2) hp (h++g1);have e3:=qKB B (n+5) (bod p) (h++g1++g2);obtain ⟨c0,c1⟩:=qDE (bod p) 7 (by lia) (by lia);have e4:=lO B (n+5) (chk 7 (bod p)).toNat (by lia) (h++g1++g2);rw[show (((chk 7 (bod p)).toNat:Nat):Int)=chk 7 (bod p) by lia] at e4;have tl:(txN (chk 7 (bod p)).toNat).length<=10:=uH (by lia);have z:(0:Int)<=4/\(4:Int)<=1000/\jN (txN (chk 7 (bod p)).toNat)=true/\(txN (chk 7 (bod p)).toNat).length<=1000:=⟨by lia,by lia,eR _,by lia⟩;have bl:=qDY hp;have f4:List.replicate ((4:Int).toNat-(txN (chk 7 (bod p)).toNat).length) 48++txN (chk 7 (bod p)).toNat=kQ (chk 7 (bod p)):=rfl;have fl:=qCp (chk 7 (bod p)) c0 c1;refine⟨g1++g2,?_⟩;rw[<- List.append_assoc];unfold wr;generalize kQ (chk 7 (bod p))=q at *;generalize chk 7 (bod p)=v at *;generalize txN v.toNat=t at *;simp! only [pN,e1,qDi,e2,e3,e4,if_pos z.2.2,f4,if_pos (show (bod p).length+1<=16777216 by lia),List.length_append,fl,if_pos (show (bod p).length+1+4<=16777216 by lia),show (bod p).length<=16777215 by lia,show (bod p).length<=16777211 by lia]
def spl(c:Nat):Tx->Nat->Tx->List Tx
 | [],_,cur=>[cur]
 |x::r,0,cur=>[cur++x::r]
 |x::r,n+1,cur=>if x=c then cur::spl c r n [] else spl c r (n+1) (cur++[x])
def qA6(a:Tx)(s:Nat)(cuts:List Nat):List Tx:=((s::cuts.map (·+1)).zip (cuts++[a.length])).map fun p=>(a.drop p.1).take (p.2-p.1)
theorem fT(a:Tx)(c:Nat):∀ (r:Tx) (k s n:Nat),a.drop k=r->s<=k->k<=a.length->qA6 a s ((qR c k r).take n)=spl c r n ((a.drop s).take (k-s))
 | [],k,s,n,hr,hs,hk=>by
  have e:k=a.length:=by
   have:=congrArg List.length hr
   rw[List.length_drop] at this;simp at this
   lia
  subst e;show qA6 a s (List.take n [])=_;rw[List.take_nil];rfl
 |x::r,k,s,0,hr,hs,hk=>by
  show [(a.drop s).take (a.length-s)]=[(a.drop s).take (k-s)++x::r];rw[<- hr,List.take_of_length_le (show (a.drop s).length<=a.length-s by rw[List.length_drop];lia)];congr 1
  have:=List.take_append_drop (k-s) (a.drop s)
  rw[List.drop_drop,show s+(k-s)=k by lia] at this;exact this.symm
 |x::r,k,s,n+1,hr,hs,hk=>by
  have hkl:k<a.length:=by
   have:=congrArg List.length hr
   rw[List.length_drop,List.length_cons] at this
   lia
  have hr':a.drop (k+1)=r:=by rw[<- List.drop_drop,hr];rfl
  unfold qR spl
  by_cases e:x=c
  ·rw[if_pos e,if_pos e,List.take_succ_cons];have ih:=fT a c r (k+1) (k+1) n hr' (Nat.le_refl _) hkl;rw[Nat.sub_self,List.take_zero] at ih;rw[<- ih];rfl
  ·rw[if_neg e,if_neg e,fT a c r (k+1) s (n+1) hr' (by lia) hkl];congr 1
   have hx:a[k]?=some x:=by
    have:=List.getElem?_drop (xs:=a) (i:=k) (j:=0)
    rw[hr] at this;simpa using this.symm
   rw[show k+1-s=(k-s)+1 by lia,List.take_succ,List.getElem?_drop,show s+(k-s)=k by lia,hx];rfl
theorem qA4(a:Tx)(c n:Nat):jA a ((qR c 0 a).take n)=spl c a n []:=by
 have:=fT a c a 0 0 n rfl (Nat.le_refl _) (Nat.zero_le _)
 rw[Nat.sub_zero,List.take_zero] at this;exact this
theorem qA0(c:Nat):∀ (k:Nat) (a:Tx),(qR c k a).length<=a.length
 |_,[]=>Nat.le_refl _
 |k,x::r=>by
  have:=qA0 c (k+1) r
  unfold qR;split
  ·simp only[List.length_cons];lia
  ·simp only[List.length_cons];lia
def jZ(c:Nat)(a:Tx):List Tx:=spl c a a.length []
theorem qHQ(a:Tx)(c:Nat):jA a (qR c 0 a)=jZ c a:=by
 have:=qA4 a c a.length
 rw[List.take_of_length_le (qA0 c 0 a)] at this;exact this
theorem uN(c:Nat):∀ (r:Tx) (n:Nat) (cur:Tx),spl c r n cur≠[]
 | [],_,_=>by simp[spl]
 |x::r,0,cur=>by simp[spl]
 |x::r,n+1,cur=>by
  unfold spl;split
  ·simp
  ·exact uN c r _ _
theorem aS(c:Nat):∀ (r:Tx) (n:Nat) (cur:Tx),∀ w∈spl c r n cur,w.length<=cur.length+r.length
 | [],_,cur,w,hw=>by
  have hw:w∈[cur]:=hw;rw[List.mem_singleton.mp hw];simp
 |x::r,0,cur,w,hw=>by
  have hw:w∈[cur++x::r]:=hw;rw[List.mem_singleton.mp hw,List.length_append];exact Nat.le_refl _
 |x::r,n+1,cur,w,hw=>by
  unfold spl at hw;rw[List.length_cons];split at hw
  ·rcases List.mem_cons.mp hw with rfl | hw
   ·lia
   ·have:=aS c r n [] w hw
    simp only[List.length_nil] at this
    lia
  ·have:=aS c r (n+1) (cur++[x]) w hw
   rw[List.length_append] at this;simp only[List.length_cons,List.length_nil] at this
   lia
theorem aT(c:Nat):∀ (r:Tx) (n:Nat) (cur:Tx),(spl c r n cur).length<=r.length+1
 | [],_,_=>by simp[spl]
 |x::r,0,cur=>by simp[spl]
 |x::r,n+1,cur=>by
  unfold spl;split
  ·have:=aT c r n []
   simp only[List.length_cons]
   lia
  ·have:=aT c r (n+1) (cur++[x])
   simp only[List.length_cons]
   lia
theorem qBb(B n:Nat)(ws:List Tx)(i:Nat)(h:AH)(hg:getL h i=some (ws.map D.str))(hw:∀ w∈ws,w.length<=1000)(hl:ws.length<=2000):∃ g,qA fns B (n+3) qLK [.ref i] h=.ok (.tup (ws.map zQ)) (h++g):=by
 rw[qOP]
 obtain ⟨g,e1,e2⟩:=qBT (jH (den (qA fns B (n+2)) pR) [some (.ref i)]) (fun d=>match d with | .str w=>zQ w | _=>.non) i (ws.map D.str) h hg (by rw[List.length_map];lia) (fun x hx h hg=>by
  obtain ⟨w,hw',rfl⟩:=List.mem_map.mp hx;obtain ⟨g,e⟩:=qJy B n w h (hw w hw')
  exact⟨g,by simp! only [yE,pR,e]⟩)
 have e3:(ws.map D.str).map (fun d=>match d with | .str w=>zQ w | _=>.non)=ws.map zQ:=by rw[List.map_map];rfl
 rw[e3] at e1;have l2:(ws.map zQ).length<=16777216:=by rw[List.length_map];lia
 have gl:getL (h++g++[O.lst (ws.map zQ)]) (h++g).length=some (ws.map zQ):=by rw[jG];rfl
 refine⟨g++[.lst (ws.map zQ)],?_⟩;rw[<- List.append_assoc];simp! only [pS,hg,if_pos e2,e1,if_pos l2,gl]
def kO(ws:List Tx):Tx:=ws.getLastD []
theorem qC2{α:Type}(k:α)(r:List α):qN (k::r) (some 1) (some (-1))=r.dropLast:=by
 unfold qN qY;simp only[show ¬ (1:Int)<0 by lia,if_false,show (-1:Int)<0 by lia,if_true,List.length_cons];rw[List.dropLast_eq_take];have h1:min (1:Int).toNat (r.length+1)=1:=by show min 1 (r.length+1)=1;lia
 have h2:(-1+((r.length+1:Nat):Int)).toNat=r.length:=by lia
 rw[h1,h2];rfl
theorem qNh{α:Type}(k:α)(r:List α):qN (k::r) (some 1) none=r:=by
 have:=qNk (k::r) 1
 exact this
theorem qB8(k:Tx)(r:List Tx):((ixN ((k::r).map D.str).length (-1)).bind fun j=>((k::r).map D.str)[j]?)=some (.str (kO (k::r))):=by
 have e:ixN ((k::r).map D.str).length (-1)=some r.length:=by
  rw[List.length_map,List.length_cons];unfold ixN;rw[if_neg (by lia),if_pos (by lia)];congr 1
  lia
 rw[e,Option.bind_some,List.getElem?_map]
 have:(k::r)[r.length]?=some (kO (k::r)):=by
  unfold kO;rw[List.getLastD_eq_getLast?,List.getLast?_eq_getElem?,List.length_cons,Nat.add_sub_cancel,List.getElem?_eq_getElem (by simp),Option.getD_some]
 rw[this];rfl
theorem qKS(k:Tx)(r:List Tx):kO (k::r)∈k::r:=by
 unfold kO;rw[List.getLastD_eq_getLast?,List.getLast?_eq_some_getLast (by simp),Option.getD_some];exact List.getLast_mem _
def aft(w:Tx):Tx:=match qR 58 0 w with
 |i::_=>w.drop (i+1)
 | []=>[]
theorem qKv(w:Tx):((ixN ((kB w 58).map D.str).length 2).bind fun j=>((kB w 58).map D.str)[j]?)=some (.str (aft w)):=by
 unfold kB aft;cases qR 58 0 w <;> rfl
def wP(b:Tx):D:=match jZ 32 b with
 | []=>.non
 |k::r=>if k=DATA then (match spl 32 b 5 [] with
   | []=>.non
   |k5::r5=>.tup (.str k::(r5.dropLast.map zQ++[.str (aft (kO (k5::r5)))])))
  else .tup (.str k::r.map zQ)
theorem qJw(B n:Nat)(b:Tx)(hb:b.length<=900)(h:AH)(hk:∀ k r,jZ 32 b=k::r->k≠ANS):∃ g,qA fns B (n+5) qLJ [.str b] h=.ok (wP b) (h++g):=by
 rw[qOO];have pa:=qHQ b 32;have hl:=aT 32 b b.length [];have hm:=aS 32 b b.length [];unfold wP;cases q:jZ 32 b with
 |nil=>exact absurd q (uN 32 b b.length [])
 |cons k r=>
  have hl:(k::r).length<=901:=by rw[<- q];unfold jZ;lia
  have hm:∀ w∈k::r,w.length<=900:=fun w hw=>by
   have:=hm w (by unfold jZ at q;rw[q];exact hw)
   simp only[List.length_nil] at this
   lia
  rw[q] at pa;have pa:(jA b (qR 32 0 b)).map D.str=(k::r).map D.str:=by rw[pa]
  have l0:((k::r).map D.str).length<=16777216:=by rw[List.length_map];lia
  have gl0:∀ m:AH,getL (h++O.lst ((k::r).map D.str)::m) h.length=some ((k::r).map D.str):=fun m=>by rw[jG];rfl
  have ix0:((ixN ((k::r).map D.str).length 0).bind fun j=>((k::r).map D.str)[j]?)=some (.str k):=by
   have:=qKu (ds:=(k::r).map D.str) (k:=0) (d:=.str k) rfl
   exact this
  have ixl:=qB8 k r;have s256:32<256/\b.length<=1000000:=by lia
  have cm:qN ((k::r).map D.str) (some 1) (some (-1))=r.dropLast.map D.str:=by
   rw[List.map_cons,qC2,List.map_dropLast]
  have ct:qN ((k::r).map D.str) (some 1) none=r.map D.str:=by rw[List.map_cons,qNh]
  have dl:r.dropLast.length<=900:=by rw[List.length_dropLast];simp only[List.length_cons] at hl;lia
  have rl:r.length<=900:=by simp only[List.length_cons] at hl;lia
  by_cases e1:k=DATA
  ·simp only[if_pos e1];have eb:(k == ([100,97,116,97]:Tx))=true:=by rw[e1];rfl
   have p5:=qA4 b 32 5;cases q5:spl 32 b 5 [] with
   |nil=>exact absurd q5 (uN 32 b 5 [])
   |cons k5 r5=>
    have hl5:=aT 32 b 5 [];have hm5:=aS 32 b 5 [];rw[q5] at p5 hl5 hm5;have p5:(jA b ((qR 32 0 b).take 5)).map D.str=(k5::r5).map D.str:=by rw[p5]
    have l5:((k5::r5).map D.str).length<=16777216:=by rw[List.length_map];lia
    have cm5:qN ((k5::r5).map D.str) (some 1) (some (-1))=r5.dropLast.map D.str:=by
     rw[List.map_cons,qC2,List.map_dropLast]
    have ixl5:=qB8 k5 r5;have dl5:r5.dropLast.length<=900:=by rw[List.length_dropLast];simp only[List.length_cons] at hl5;lia
    have l6:(r5.dropLast.map D.str).length<=16777216:=by rw[List.length_map];lia
    have ia:=qKv (kO (k5::r5))
    have la:(kO (k5::r5)).length<=1000000:=by
     have:=hm5 _ (qKS k5 r5)
     simp only[List.length_nil] at this
     lia
    generalize hG:h++[O.lst ((k::r).map D.str),O.lst ((k5::r5).map D.str),O.lst (r5.dropLast.map D.str)]=G;have gG:getL G (h.length+2)=some (r5.dropLast.map D.str):=by rw[<- hG,vH];rfl
    obtain ⟨g,e⟩:=qBb B (n+1) r5.dropLast (h.length+2) G gG (fun w hw=>by
     have:=hm5 w (List.mem_cons_of_mem _ (List.dropLast_subset _ hw))
     simp only[List.length_nil] at this
     lia) (by lia)
    have g5:getL (G++g) (h.length+1)=some ((k5::r5).map D.str):=jO g (by rw[<- hG,vH];rfl);have gl5:∀ m:AH,getL (h++O.lst ((k::r).map D.str)::O.lst ((k5::r5).map D.str)::m) (h.length+1)=some ((k5::r5).map D.str):=fun m=>by rw[vH];rfl
    refine⟨[O.lst ((k::r).map D.str),O.lst ((k5::r5).map D.str),O.lst (r5.dropLast.map D.str)]++g,?_⟩;rw[<- List.append_assoc,hG];show _=R.ok (D.tup (D.str k::(r5.dropLast.map zQ++[D.str (aft (kO (k5::r5)))]))) _;have n1:(r5.dropLast.map zQ).length<=900:=by rw[List.length_map];exact dl5
    generalize r5.dropLast.map zQ=ds at *;generalize kO (k5::r5)=lw at *;generalize (k::r).map D.str=W at *;generalize (k5::r5).map D.str=W5 at *;generalize r5.dropLast.map D.str=W6 at *;simp! only [cY,if_pos s256,s256.2,pa,if_pos l0,gl0,Option.bind_some,ix0,eb,qDn,if_pos (show ((32<256/\b.length<=1000000)/\(0:Int)<=5/\(5:Int)<=1000000) by lia),show (5:Int).toNat=5 from rfl,p5,if_pos l5,List.append_assoc,List.length_append,gl5,cm5,if_pos l6,hG,e,g5,ixl5,la,ia,if_pos (show 1+ds.length<=16777216 by lia),if_pos (show ds.length+1+1<=16777216 by lia),show ds.length<=16777214 by lia]
  ·simp only[if_neg e1];have eb:(k == ([100,97,116,97]:Tx))=false:=beq_eq_false_iff_ne.mpr e1;have e2:=hk k r q;have eb2:(k == ([97,110,115,119,101,114]:Tx))=false:=beq_eq_false_iff_ne.mpr e2;have l6:(r.map D.str).length<=16777216:=by rw[List.length_map];lia
   generalize hG:h++[O.lst ((k::r).map D.str),O.lst (r.map D.str)]=G;have gG:getL G (h.length+1)=some (r.map D.str):=by rw[<- hG,vH];rfl
   obtain ⟨g,e⟩:=qBb B (n+1) r (h.length+1) G gG (fun w hw=>by
    have:=hm w (List.mem_cons_of_mem _ hw)
    lia) (by lia)
   refine⟨[O.lst ((k::r).map D.str),O.lst (r.map D.str)]++g,?_⟩;rw[<- List.append_assoc,hG];have n1:(r.map zQ).length<=900:=by rw[List.length_map];exact rl
   generalize r.map zQ=ds at *;generalize (k::r).map D.str=W at *;generalize r.map D.str=W6 at *;simp! only [cY,if_pos s256,s256.2,pa,if_pos l0,gl0,Option.bind_some,ix0,eb,qDl,eb2,qDm,List.append_assoc,List.length_append,ct,if_pos l6,hG,e,if_pos (show 1+ds.length<=16777216 by lia),show ds.length<=16777215 by lia]
def rb(x:Tx):Tx:=match jC 32 0 x with
 |some i=>x.take i
 |none=>[]
theorem qKs(x:Tx):((ixN ((kA x 32).map D.str).length 0).bind fun j=>((kA x 32).map D.str)[j]?)=some (.str (rb x)):=by
 unfold kA rb;cases jC 32 0 x <;> rfl
theorem qG3(x:Tx):(rb x).length<=x.length:=by
 unfold rb;split
 ·rw[List.length_take];lia
 ·simp
theorem aR:∀ (w cur:Tx),c∉w->spl c (w++c::r) (n+1) cur=(cur++w)::spl c r n []
 | [],cur,_=>by
  show spl c (c::r) (n+1) cur=_;rw[spl,if_pos rfl,List.append_nil]
 |x::w,cur,h=>by
  have h1:x≠c:=fun e=>h (by rw[e];exact List.mem_cons_self ..);have ih:=aR (r:=r) (n:=n) w (cur++[x]) (fun z=>h (List.mem_cons_of_mem _ z));show spl c (x::(w++c::r)) (n+1) cur=_;rw[spl,if_neg h1,ih];simp
theorem qAQ:∀ (w:Tx) (n:Nat) (cur:Tx),c∉w->spl c w n cur=[cur++w]
 | [],n,cur,_=>by show [cur]=_;rw[List.append_nil]
 |x::w,0,cur,_=>rfl
 |x::w,n+1,cur,h=>by
  have h1:x≠c:=fun e=>h (by rw[e];exact List.mem_cons_self ..);rw[spl,if_neg h1,qAQ w (n+1) (cur++[x]) (fun z=>h (List.mem_cons_of_mem _ z))];simp
theorem gB(c:Nat)(w:Tx):∀ ws:List Tx,ws≠[]->qZ [c] (w::ws)=w++c::qZ [c] ws
 | [],h=>absurd rfl h
 |v::r,_=>by
  show w++[c]++qZ [c] (v::r)=_;rw[List.append_assoc];rfl
theorem qAP:∀ (ws:List Tx) (w:Tx) (n:Nat),(∀ v∈w::ws,c∉v)->ws.length<=n->spl c (qZ [c] (w::ws)) n []=w::ws
 | [],w,n,h,_=>by
  show spl c w n []=_;rw[qAQ w n [] (h w (List.mem_cons_self ..))];rfl
 |v::r,w,0,h,hn=>by simp at hn
 |v::r,w,n+1,h,hn=>by
  rw[gB c w (v::r) (by simp),aR w [] (h w (List.mem_cons_self ..)),qAP r v n (fun u hu=>h u (List.mem_cons_of_mem _ hu)) (by simpa using hn)];rfl
theorem qAO(l:Tx):∀ ws:List Tx,(∀ v∈ws,c∉v)->spl c (qZ [c] (ws++[l])) ws.length []=ws++[l]
 | [],_=>by
  show spl c l 0 []=[l];cases l <;> rfl
 |w::ws,h=>by
  rw[List.cons_append,gB c w (ws++[l]) (by simp),List.length_cons,aR w [] (h w (List.mem_cons_self ..)),qAO l ws fun v hv=>h v (List.mem_cons_of_mem _ hv)];rfl
theorem qB4(c:Nat):∀ (ws:List Tx) (w:Tx),ws.length+w.length<=(qZ [c] (w::ws)).length
 | [],w=>by show 0+w.length<=w.length;lia
 |v::r,w=>by
  have:=qB4 c r v
  rw[gB c w (v::r) (by simp),List.length_append,List.length_cons,List.length_cons]
  lia
theorem qAR(w:Tx)(ws:List Tx)(h:∀ v∈w::ws,c∉v):jZ c (qZ [c] (w::ws))=w::ws:=qAP ws w _ h (by have:=qB4 c ws w;lia)
theorem qBP:∀ ws:List Tx,x∈qZ [c] ws->x=c\/∃ w∈ws,x∈w
 | [],h=>by cases h
 | [w],h=>.inr ⟨w,List.mem_cons_self ..,h⟩
 |w::v::r,h=>by
  rw[gB c w (v::r) (by simp),List.mem_append,List.mem_cons] at h;rcases h with h | h | h
  ·exact .inr ⟨w,List.mem_cons_self ..,h⟩
  ·exact .inl h
  ·rcases qBP (v::r) h with h | ⟨u,hu,h⟩
   ·exact .inl h
   ·exact .inr ⟨u,List.mem_cons_of_mem _ hu,h⟩
theorem uF(h:x∈txN m):48<=x/\x<=57:=by
 have:=eR m
 unfold jN at this;rw[List.all_eq_true] at this;exact of_decide_eq_true (this x h)
theorem qBq:∀ (r:Tx) (k:Nat),c∉r->jC c k r=none
 | [],_,_=>rfl
 |x::r,k,h=>by
  have h1:x≠c:=fun e=>h (by rw[e];exact List.mem_cons_self ..);rw[jC,qBq r (k+1) (fun z=>h (List.mem_cons_of_mem _ z))];simp only;rw[if_neg h1]
theorem qBr(hr:c∉r):∀ (w:Tx) (k:Nat),jC c k (w++c::r)=some (k+w.length)
 | [],k=>by
  show jC c k (c::r)=_;rw[jC,qBq r (k+1) hr];simp
 |x::w,k=>by
  show jC c k (x::(w++c::r))=_;rw[jC,qBr hr w (k+1)];simp only[List.length_cons];congr 1
  lia
theorem qCo(h:x∈kQ v):48<=x/\x<=57:=by
 unfold kQ at h;rcases List.mem_append.mp h with h | h
 ·rw[(List.mem_replicate.mp h).2];lia
 ·exact uF h
theorem fM(p:Pce):rb (wr p)=bod p:=by
 unfold rb wr;rw[List.append_assoc];show (match jC 32 0 (bod p++32::kQ (chk 7 (bod p))) with | some i=>(bod p++32::kQ (chk 7 (bod p))).take i | none=>[])=bod p;rw[qBr (fun z=>by have:=qCo z;lia)];simp only;rw[Nat.zero_add,List.take_left]
theorem fW(ns:List Nat):∀ w∈ns.map txN,(32:Nat)∉w:=fun w hw=>by
 obtain ⟨z,_,rfl⟩:=List.mem_map.mp hw;exact fun z=>by have:=uF z;lia
theorem fU(h:48<=x/\x<=57):okC x=true:=by
 unfold okC;simp only[Bool.and_eq_true,decide_eq_true_eq,Bool.not_eq_true',decide_eq_false_iff_not]
 lia
theorem qEj(hp:okP p):(wr p).length=(bod p).length+5/\(wr p).length<=405:=by
 obtain ⟨c0,c1⟩:=qDE (bod p) 7 (by lia) (by lia)
 have:=qCp _ c0 c1
 have:=qDY hp
 unfold wr;rw[List.length_append,List.length_append];simp only[List.length_cons,List.length_nil]
 lia
theorem qAy:∀ (w:Tx) (k:Nat),c∉w->∃ t,qR c k (w++c::r)=(k+w.length)::t
 | [],k,_=>⟨qR c (k+1) r,by show qR c k (c::r)=_;rw[qR,if_pos rfl];rfl⟩
 |x::w,k,h=>by
  have h1:x≠c:=fun e=>h (by rw[e];exact List.mem_cons_self ..);obtain ⟨t,ht⟩:=qAy (r:=r) w (k+1) (fun z=>h (List.mem_cons_of_mem _ z));refine⟨t,?_⟩;show qR c k (x::(w++c::r))=_;rw[qR,if_neg h1,ht,List.length_cons];congr 1
  lia
theorem qQ7(m:Nat)(y:Tx):aft (txN m++[58]++y)=y:=by
 obtain ⟨t,ht⟩:=qAy (c:=58) (r:=y) (txN m) 0 (fun z=>by have:=uF z;lia);unfold aft;rw[List.append_assoc];show (match qR 58 0 (txN m++58::y) with | i::_=>(txN m++58::y).drop (i+1) | []=>[])=y;rw[ht];simp only;rw[Nat.zero_add,<- List.drop_drop,List.drop_left];rfl
theorem qA8(hp:okP p)(hh:p.k≠ANS):wP (bod p)=toD p:=by
 obtain ⟨sh,bd⟩:=hp;have nf:∀ n∈p.ns,zQ (txN n)=.int n:=fun n hn=>qIK n (by have:=bd n hn;lia)
 have nsm:(p.ns.map txN).map zQ=nsD p.ns:=by
  unfold nsD;rw[List.map_map];apply List.map_congr_left;intro n hn;exact nf n hn
 cases sh with
 |hello a b _=>
  have e:jZ 32 (bod ⟨HELLO,[a,b],.no⟩)=HELLO::[a,b].map txN:=qAR HELLO ([a,b].map txN) fun v hv=>by
   rcases List.mem_cons.mp hv with rfl | hv
   ·decide
   ·exact fW _ v hv
  unfold wP toD;rw[e];simp only;rw[if_neg (by decide),nsm];rfl
 |fin a b c d _ _ _ _=>
  have e:jZ 32 (bod ⟨ENDW,[a,b,c,d],.no⟩)=ENDW::[a,b,c,d].map txN:=qAR ENDW ([a,b,c,d].map txN) fun v hv=>by
   rcases List.mem_cons.mp hv with rfl | hv
   ·decide
   ·exact fW _ v hv
  unfold wP toD;rw[e];simp only;rw[if_neg (by decide),nsm];rfl
 |data a b c d y _ _ _ _ h1 h2=>
  have e5:spl 32 (bod ⟨DATA,[a,b,c,d],.sg y⟩) 5 []=DATA::([a,b,c,d].map txN++[txN y.length++[58]++y]):=qAO (txN y.length++[58]++y) (DATA::[a,b,c,d].map txN) fun v hv=>by
   rcases List.mem_cons.mp hv with rfl | hv
   ·decide
   ·exact fW _ v hv
  obtain ⟨r,e⟩:∃ r,jZ 32 (bod ⟨DATA,[a,b,c,d],.sg y⟩)=DATA::r:=by
   have e0:bod ⟨DATA,[a,b,c,d],.sg y⟩=DATA++32::qZ [32] ([a,b,c,d].map txN++[txN y.length++[58]++y]):=gB 32 DATA _ (by simp);unfold jZ;rw[e0,List.length_append,List.length_cons]
   exact⟨_,aR DATA [] (by decide)⟩
  unfold wP toD;rw[e];simp only;rw[if_pos trivial,e5];simp only;have d1:([a,b,c,d].map txN++[txN y.length++[58]++y]).dropLast=[a,b,c,d].map txN:=List.dropLast_concat;have d2:kO (DATA::([a,b,c,d].map txN++[txN y.length++[58]++y]))=txN y.length++[58]++y:=rfl;rw[d1,d2,qQ7,nsm];rfl
 |ans a b c d f=>exact absurd rfl hh
theorem qPB(hp:okP p):∀ x∈bod p,okC x=true:=by
 intro x hx;rcases qBP _ hx with rfl | ⟨w,hw,hx2⟩
 ·decide
 ·clear hx
  have hx:=hx2
  clear hx2
  unfold wds at hw;rcases List.mem_cons.mp hw with rfl | hw
  ·have:∀ k,(k=HELLO\/k=DATA\/k=ENDW\/k=ANS)->∀ z∈k,okC z=true:=by
    rintro k (rfl | rfl | rfl | rfl) <;> decide
   refine this p.k ?_ x hx;cases hp.1 with
   |hello=>exact .inl rfl
   |data=>exact .inr (.inl rfl)
   |fin=>exact .inr (.inr (.inl rfl))
   |ans=>exact .inr (.inr (.inr rfl))
  ·rcases List.mem_append.mp hw with hw | hw
   ·obtain ⟨z,_,rfl⟩:=List.mem_map.mp hw;exact fU (uF hx)
   ·cases hp.1 with
    |hello a b _=>cases hw
    |fin a b c d _ _ _ _=>cases hw
    |data a b c d y _ _ _ _ h1 h2=>
     have hw:w∈[txN y.length++[58]++y]:=hw;rw[List.mem_singleton.mp hw,List.mem_append,List.mem_append] at hx;rcases hx with (hx | hx) | hx
     ·exact fU (uF hx)
     ·rw[List.mem_singleton.mp hx];decide
     ·exact List.all_eq_true.mp h1 x hx
    |ans a b c d f _ _ _ _ _=>have hw:w∈[[45]]:=hw;rw[List.mem_singleton.mp hw] at hx;rw[List.mem_singleton.mp hx];decide
theorem qEi(hp:okP p):(wr p).all okC=true:=by
 rw[List.all_eq_true];intro x hx;unfold wr at hx;rw[List.mem_append,List.mem_append] at hx;rcases hx with (hx | hx) | hx
 ·exact qPB hp x hx
 ·rw[List.mem_singleton.mp hx];decide
 ·exact fU (qCo hx)
theorem qJv(B n:Nat)(hp:okP p)(hh:p.k≠ANS)(h:AH):∃ g,qA fns B (n+8) qCY [.str (wr p)] h=.ok (toD p) (h++g):=by
 rw[qON];have hl:=(qEj hp).2;have e1:=qBe B (n+5) (wr p) h (by lia);rw[qEi hp] at e1;generalize hH:h++[.lst ((wr p).map fun c=>.bl (okC c))]=H at e1;have ir:=qKs (wr p);have rl:=qG3 (wr p)
 have fst:∃ r,jZ 32 (rb (wr p))=p.k::r:=by
  rw[fM];have ps:=qA8 hp hh;unfold wP toD at ps;cases q:jZ 32 (bod p) with
  |nil=>exact absurd q (uN 32 _ _ [])
  |cons k r=>
   rw[q] at ps;simp only at ps;refine⟨r,?_⟩
   by_cases c:k=DATA
   ·rw[if_pos c] at ps;cases q5:spl 32 (bod p) 5 [] with
    |nil=>exact absurd q5 (uN 32 _ _ [])
    |cons k5 r5=>rw[q5] at ps;injection ps with ps;injection ps with p1 p2;injection p1 with p1;rw[p1]
   ·rw[if_neg c] at ps;injection ps with ps;injection ps with p1 p2;injection p1 with p1;rw[p1]
 obtain ⟨g2,e2⟩:=qJw B (n+2) (rb (wr p)) (by lia) H (fun k r' z=>by
  obtain ⟨r,q⟩:=fst;rw[q] at z;cases z
  exact hh)
 rw[fM,qA8 hp hh,<- fM] at e2;obtain ⟨g3,e3⟩:=qBf B (n+1) (H++g2) hp;obtain ⟨g4,e4⟩:=qBX B n hp (H++g2++g3);refine⟨[.lst ((wr p).map fun c=>.bl (okC c))]++g2++g3++g4,?_⟩;rw[<- List.append_assoc,<- List.append_assoc,<- List.append_assoc,hH];generalize wr p=wp at *;generalize toD p=d at *;generalize rb wp=r at *;simp! only [pQ,e1,qDj,if_pos (show wp.length<=1000000 by lia),ir,e2,e3,e4,qDk]
def jK(d:D):Prop:=∃ p,toD p=d/\okP p
def wrT(d:D):Tx:=@dite _ (jK d) (Classical.propDecidable _) (fun h=>wr h.choose) fun _=>[]
def wrD(d:D):D:=.str (wrT d)
theorem tN(hd:jK d):wrD d=.str (wr hd.choose):=by unfold wrD wrT;rw[dif_pos hd]
theorem bN(B n:Nat)(hd:jK d)(h:AH):∃ g,qA fns B (n+7) qCX [d] h=.ok (wrD d) (h++g):=by
 have s:=hd.choose_spec
 have:=qBX B n s.2 h
 rw[s.1] at this;rw[tN hd];exact this
theorem qCm(h:k≠ANS)(r r':List D):D.tup (.str k::r)≠.tup (.str ANS::r'):=fun z=>h (by injection z with z;injection z with z _;injection z)
theorem qBZ(B n:Nat)(hd:jK d)(hk:∀ r,d≠.tup (.str ANS::r))(h:AH):∃ g,qA fns B (n+8) qCY [wrD d] h=.ok d (h++g):=by
 have s:=hd.choose_spec;have key:∀ p,toD p=d->p.k≠ANS:=fun p e z=>hk (nsD p.ns++laD p.la) (by rw[<- e,<- z];rfl)
 have:=qJv B n s.2 (key _ s.1) h
 rw[s.1] at this;rw[tN hd];exact this
theorem fS(a b:Nat)(ha:1<=a)(ha2:a<=1000)(hb:0<=b)(hb2:b<=1000):jK (.tup [.str HELLO,.int a,.int b]):=
 ⟨⟨HELLO,[a,b],.no⟩,rfl,.hello a b ha,fun n hn=>by simp only[List.mem_cons,List.not_mem_nil,or_false] at hn;lia⟩
def nsK(a b k:Nat):Prop:=(1<=a/\a<=1000)/\(1<=b/\b<=1000)/\k<50
theorem qBJ(ha:1<=a)(ha2:a<=1000)(hb:1<=b)(hb2:b<=1000)(hk:0<=k)(hk2:k<50):nsK a b k:=⟨⟨ha,ha2⟩,⟨hb,hb2⟩,hk2⟩
theorem qHO(hn:nsK a b k)(at':Nat)(y:Tx)(hy:y.all okC=true)(hl:y.length<=40)(ha:at'<=100):jK (.tup [.str DATA,.int a,.int b,.int k,.int at',.str y]):=by
 obtain ⟨⟨a1,a2⟩,⟨b1,b2⟩,k2⟩:=hn
 exact⟨⟨DATA,[a,b,k,at'],.sg y⟩,rfl,.data a b k at' y a1 b1 k2 ha hy hl,fun n hn=>by simp only[List.mem_cons,List.not_mem_nil,or_false] at hn;lia⟩
theorem qA2(hn:nsK a b k):jK (.tup [.str ENDW,.int a,.int b,.int k,.int 60]):=by
 obtain ⟨⟨a1,a2⟩,⟨b1,b2⟩,k2⟩:=hn
 exact⟨⟨ENDW,[a,b,k,60],.no⟩,rfl,.fin a b k 60 a1 b1 k2 (by lia),fun n hn=>by simp only[List.mem_cons,List.not_mem_nil,or_false] at hn;lia⟩
theorem qHP(hn:nsK a b k)(c l:Nat)(hc:0<=c)(hc2:c<=1000)(hl:0<=l)(hl2:l<=1000):jK (.tup [.str ANS,.int a,.int b,.int k,.int c,.int l,.tup []]):=by
 obtain ⟨⟨a1,a2⟩,⟨b1,b2⟩,k2⟩:=hn
 exact⟨⟨ANS,[a,b,k,c,l],.sp⟩,rfl,.ans a b k c l a1 b1 k2 hc2 hl2,fun n hn=>by simp only[List.mem_cons,List.not_mem_nil,or_false] at hn;lia⟩
theorem jX(e:x.1=k):qH (x::r) k=some x.2:=by
 unfold qH;rw[List.find?_cons_of_pos (by simpa using e)];rfl
theorem jY(e:¬ x.1=k):qH (x::r) k=qH r k:=by
 unfold qH;rw[List.find?_cons_of_neg (by simpa using e)]
theorem qK{i:Nat}(g:AH)(e:h[i]?=some o):(h++g)[i]?=some o:=by
 rw[List.getElem?_append_left (List.getElem?_eq_some_iff.mp e).1,e]
theorem zD{h:AH}(e:h[i]?=some o)(x:O):(h.set i x)[i]?=some x:=List.getElem?_set_self (List.getElem?_eq_some_iff.mp e).1
theorem vP{h:AH}(e:h[i]?=some o):h.set i o=h:=by
 apply List.ext_getElem?;intro j
 by_cases c:i=j
 ·subst c;rw[zD e,e]
 ·rw[List.getElem?_set_ne c]
theorem jU(e:h[i]?=some (.dct kvs)):getL h i=none:=by unfold getL;rw[e]
def fl(t:Tx)(sp:List D)(d:Nat):List (Nat × D):=[(vY,.str t),(gA,.tup sp),(bU,.ref d)]
section
variable (t:Tx)(sp:List D)(d:Nat)
theorem gH:qL vY (fl t sp d)=some (.str t):=rfl
theorem yY:qL gA (fl t sp d)=some (.tup sp):=rfl
theorem qCv:qL bU (fl t sp d)=some (.ref d):=rfl
theorem qHR(v:Tx):zP vY (.str v) (fl t sp d)=fl v sp d:=rfl
theorem qBB(v:List D):zP gA (.tup v) (fl t sp d)=fl t v d:=rfl
theorem qJG:qL 28273260611201390 (fl t sp d)=none:=rfl
theorem qBN:qL 7370100 (fl t sp d)=none:=rfl
theorem qCu:(fl t sp d).length=3:=rfl
end
theorem cn1:([358300611685,362411681138]:List Nat).contains zH=true:=by decide
theorem cn2:([358300611685]:List Nat).contains zH=true:=by decide
theorem cn3:([358300611685,362411681138]:List Nat).contains qP=true:=by decide
theorem cn4:([362411681138]:List Nat).contains qP=true:=by decide
theorem cn5:([362411681138,1215263604]:List Nat).contains qP=true:=by decide
section
variable {B n:Nat}{h:AH}
theorem qKC(hB:1<=B)(v w:Int):qA fns B (n+1) qLb [.tup [],.int v,.int w] h=.ok (.int 0) h:=by
 obtain ⟨k,rfl⟩:∃ k,B=k+1:=⟨B-1,by lia⟩;rw[qOk];simp! only [rY,qD7,yG,List.length_nil,qD8,show decide ((0:Int)<((0:Nat):Int))=false from rfl]
theorem qKH(hB:1<=B)(hv:0<=v)(hw:v<w):qA fns B (n+3) qLf [.tup [],.int v,.int w] h=.ok (.tup [.tup [.int v,.int w]]) h:=by
 rw[qOr]
 have e1:qA fns B (n+1) 2 [.int v] h=.ok .non h:=by
  rw[qOn];simp! only [sB,show decide (v<0)=false from decide_eq_false (by lia)]
 have e2:qA fns B (n+2) 3 [.int v,.int w] h=.ok .non h:=by
  rw[qOl];simp! only [rZ,e1,show decide (w<v)=false from decide_eq_false (by lia)]
 have e3:∀ v w:Int,qA fns B (n+2) 1 [.tup [],.int v,.int w] h=.ok (.int 0) h:=fun v w=>qKC (n:=n+1) hB v w;have d1:(v == w)=false:=by simpa using Int.ne_of_lt hw
 have c1:qN ([]:List D) none (some 0)=[]:=rfl;have c2:qN ([]:List D) (some 0) none=[]:=rfl;simp! only [sJ,e2,d1,qEF,e3,show decide ((0:Int)<0)=false from rfl,qEG,c1,c2,if_pos (show 1<=16777216 by lia)] <;> rfl
end
def nv(a:Nat)(z:Tx)(l:List Nat):List (Ky × D):=l.map fun i:Nat=>(Ky.int ((a+i:Nat):Int),D.str [z.getD i 0])
theorem bI(a:Nat)(z:Tx)(x:Nat):∀ {l:List Nat},x∉l->qH (nv a z l) (.int ((a+x:Nat):Int))=none/\((nv a z l).any fun kv=>decide (kv.1=.int ((a+x:Nat):Int)))=false/\wA (nv a z l) (.int ((a+x:Nat):Int))=nv a z l
 | [],_=>⟨rfl,rfl,rfl⟩
 |y::l,h=>by
  obtain ⟨h1,h2,h3⟩:=bI a z x (l:=l) (fun q=>h (List.mem_cons_of_mem _ q));have ne:¬ (Ky.int ((a+y:Nat):Int)=.int ((a+x:Nat):Int)):=fun e=>h (by injection e with e;rw[show x=y by lia];exact List.mem_cons_self ..);refine⟨?_,?_,?_⟩
  ·show qH (_::nv a z l) _=none;rw[jY ne];exact h1
  ·show (decide _ || _)=false;rw[decide_eq_false ne];exact h2
  ·unfold wA at h3 ⊢;show (_::nv a z l).filter _=_::nv a z l;rw[List.filter_cons_of_pos (by simpa using ne),h3]
theorem qIH(h:x∉l):zE (nv a z l) (.int ((a+x:Nat):Int)) (.str [z.getD x 0])=nv a z (l++[x]):=by
 unfold zE;rw[(bI a z x h).2.1];unfold nv;rw[List.map_append];rfl
theorem qII(h:x∉l):qH (nv a z (x::l)) (.int ((a+x:Nat):Int))=some (.str [z.getD x 0])/\wA (nv a z (x::l)) (.int ((a+x:Nat):Int))=nv a z l:=by
 refine⟨jX (x:=(Ky.int ((a+x:Nat):Int),D.str [z.getD x 0])) rfl,?_⟩
 have:=(bI a z x h).2.2
 unfold wA at this ⊢;show (_::nv a z l).filter _=_;rw[List.filter_cons_of_neg (by simp)];exact this
theorem qFB{y:Tx}{k:Nat}(e:y[k]?=some c):((ixN y.length (k:Int)).bind fun j=>y[j]?)=some c:=by
 rw[iT (List.getElem?_eq_some_iff.mp e).1,Option.bind_some,e]
def Fq(M:List Nat)(G G':AH):Prop:=G.length<=G'.length/\∀ (i:Nat) (x:O),i∉M->G[i]?=some x->G'[i]?=some x
theorem Fq.refl(M:List Nat)(G:AH):Fq M G G:=⟨Nat.le_refl _,fun _ _ _ e=>e⟩
theorem Fq.trans{M:List Nat}(x:Fq M a b)(y:Fq M b c):Fq M a c:=⟨Nat.le_trans x.1 y.1,fun i o n e=>y.2 i o n (x.2 i o n e)⟩
theorem Fq.app(M:List Nat)(h g:AH):Fq M h (h++g):=⟨by rw[List.length_append];lia,fun _ _ _ e=>qK g e⟩
theorem Fq.set{M:List Nat}(hi:i∈M)(h:AH)(o:O):Fq M h (h.set i o):=⟨by rw[List.length_set];exact Nat.le_refl _,fun j x n e=>by
 rw[List.getElem?_set_ne (fun z=>n (by rw[<- z];exact hi)),e]⟩
theorem Fq.mono{M:List Nat}(x:Fq M a b)(h:∀ i∈M,i∈N):Fq N a b:=⟨x.1,fun i o n e=>x.2 i o (fun z=>n (h i z)) e⟩
section
variable {F:Nat->List D->M D}{B n:Nat}{h:AH}{s d:Nat}{x z y:Tx}
theorem qGE(hd:h[d]?=some (.dct []))(hs:h[s]?=some (.ins zH (fl x [] d)))(a at' m:Nat)(hz:z=y.drop (a-at'))(hat:at'<=a)(hm:m=z.length)(hl:y.length<=100)(x4 x5:Option D) :
  ∃ x5',jP (zT (TG.nm 5) (qB F B dU)) (jD a m) [some (.ref s),some (.int (at':Nat)),some (.str y),some (.int (a:Nat)),x4,x5] h=.nx [some (.ref s),some (.int (at':Nat)),some (.str y),some (.int (a:Nat)),x4,x5'] (h.set d (.dct (nv a z (List.range m)))):=by
 have ne:s≠d:=fun e=>by rw[e,hd] at hs;cases hs
 obtain ⟨U',h',e,l,e1,e2⟩:=cG (fun k U g=>∃ (l:Option D),U=[some (.ref s),some (.int (at':Nat)),some (.str y),some (.int (a:Nat)),x4,l]/\g=h.set d (.dct (nv a z (List.range k))))
  (zT (TG.nm 5) (qB F B dU)) (jD a m) 0 [some (.ref s),some (.int (at':Nat)),some (.str y),some (.int (a:Nat)),x4,x5] h ⟨x5,rfl,(vP hd).symm⟩
  (fun k w U g hk ⟨l,e1,e2⟩=>by
   obtain ⟨hkn,rfl⟩:=qAs hk;subst e1;subst e2;rw[Nat.zero_add];have g1:=zD hd (.dct (nv a z (List.range k)));have g2:(h.set d (.dct (nv a z (List.range k))))[s]?=some (.ins zH (fl x [] d)):=by rw[List.getElem?_set_ne ne.symm];exact hs
   have zk:z[k]?=some (z.getD k 0):=by rw[List.getD_eq_getElem?_getD,List.getElem?_eq_getElem (by lia),Option.getD_some]
   have ix:((ixN y.length ((a:Int)+k-(at':Nat))).bind fun j=>y[j]?)=some (z.getD k 0):=by
    rw[show ((a:Int)+k-(at':Nat))=((a-at'+k:Nat):Int) by lia];refine qFB ?_;rw[hz,List.getElem?_drop] at zk;rw[zk,hz]
   have nk:k∉List.range k:=by simp
   have sk:aV d (.int ((a:Int)+k)) (.str [z.getD k 0]) (h.set d (.dct (nv a z (List.range k))))=.ok (.str [z.getD k 0]) (h.set d (.dct (nv a z (List.range (k+1))))):=by
    unfold aV;rw[g1];have c1:=(bI a z k nk).1;rw[show ((a:Int)+k)=((a+k:Nat):Int) by lia];simp only[c1]
    have lz:(nv a z (List.range k)).length<16777216:=by
     have:z.length<=y.length:=by rw[hz,List.length_drop];lia
     unfold nv;rw[List.length_map,List.length_range]
     lia
    rw[if_pos lz,qIH nk,List.range_succ,List.set_set]
   refine⟨_,_,?_,some (.int ((a:Int)+k)),rfl,rfl⟩;rw[uI]
   simp! only [dU,g2,qCv,g1,if_pos (show y.length<=16777216 by lia),ix,sk])
 rw[qAq,Nat.zero_add] at e2;subst e1;subst e2
 exact⟨l,e⟩
end
section
variable {F:Nat->List D->M D}{B n:Nat}{h:AH}{s d:Nat}{x z y:Tx}
theorem qGY(hs:h[s]?=some (.ins zH (fl x [.tup [.int (a:Nat),.int (b:Nat)]] d)))(hd:h[d]?=some (.dct (nv a z (List.range m))))(hm:m<=100)(x1 x3:Option D) :
  ∃ x3',jP (zT (TG.nm 3) (qB F B dX)) (jD a m) [some (.ref s),x1,some (.ref h.length),x3] (h++[.lst [.str x]])=.nx [some (.ref s),x1,some (.ref h.length),x3'] (h.set d (.dct [])++[.lst (.str x::(List.range m).map fun j=>.str [z.getD j 0])]):=by
 have ne:s≠d:=fun e=>by rw[e,hd] at hs;cases hs
 have ld:d<h.length:=(List.getElem?_eq_some_iff.mp hd).1
 obtain ⟨U',h',e,l,e1,e2⟩:=cG (fun k U g=>∃ (l:Option D),U=[some (.ref s),x1,some (.ref h.length),l]/\g=h.set d (.dct (nv a z (List.range' k (m-k))))++[.lst (.str x::(List.range k).map fun j=>.str [z.getD j 0])])
  (zT (TG.nm 3) (qB F B dX)) (jD a m) 0 [some (.ref s),x1,some (.ref h.length),x3] (h++[.lst [.str x]])
  ⟨x3,rfl,by rw[show List.range' 0 (m-0)=List.range m from (List.range_eq_range' ..).symm,vP hd];rfl⟩
  (fun k w U g hk ⟨l,e1,e2⟩=>by
   obtain ⟨hkn,rfl⟩:=qAs hk;subst e1;subst e2;rw[Nat.zero_add]
   have hr:List.range' k (m-k)=k::List.range' (k+1) (m-(k+1)):=by
    rw[show m-k=(m-(k+1))+1 by lia,List.range'_succ]
   have nk:k∉List.range' (k+1) (m-(k+1)):=fun q=>by have:=List.mem_range'_1.mp q;lia
   rw[hr];obtain ⟨v1,v2⟩:=qII (a:=a) (z:=z) nk;generalize hK:h.set d (.dct (nv a z (k::List.range' (k+1) (m-(k+1)))))=K;have lK:K.length=h.length:=by rw[<- hK,List.length_set]
   have g1:∀ g:AH,(K++g)[d]?=some (.dct (nv a z (k::List.range' (k+1) (m-(k+1))))):=fun g=>by rw[<- hK];exact qK g (zD hd _)
   have g2:∀ g:AH,(K++g)[s]?=some (.ins zH (fl x [.tup [.int (a:Nat),.int (b:Nat)]] d)):=fun g=>by rw[<- hK];exact qK g (by rw[List.getElem?_set_ne ne.symm];exact hs)
   have pk:∀ g:AH,bC d (.int ((a:Int)+k)) (K++g)=.ok (.str [z.getD k 0]) (h.set d (.dct (nv a z (List.range' (k+1) (m-(k+1)))))++g):=fun g=>by
    unfold bC;rw[g1,show ((a:Int)+k)=((a+k:Nat):Int) by lia];simp only[v1,v2];rw[List.set_append_left _ _ (by lia),<- hK,List.set_set]
   generalize hJ:h.set d (.dct (nv a z (List.range' (k+1) (m-(k+1)))))=J at pk;have lJ:J.length=h.length:=by rw[<- hJ,List.length_set]
   have fin:D.str x::((List.range k).map fun j=>D.str [z.getD j 0])++[.str [z.getD k 0]]=D.str x::(List.range (k+1)).map fun j=>D.str [z.getD j 0]:=by
    rw[List.range_succ,List.map_append];rfl
   have ln:(D.str x::(List.range k).map fun j=>D.str [z.getD j 0]).length<16777216:=by rw[List.length_cons,List.length_map,List.length_range];lia
   rw[<- fin];generalize (D.str x::(List.range k).map fun j=>D.str [z.getD j 0])=T at *;have gl:∀ T:List D,getL (K++[.lst T]) h.length=some T:=fun T=>by rw[<- lK,jG];rfl
   have gj:∀ T:List D,(J++[O.lst T])[h.length]?=some (.lst T):=fun T=>by rw[<- lJ,zY];rfl
   have sj:∀ (T:List D) (o:O),(J++[O.lst T]).set h.length o=J++[o]:=fun T o=>by rw[<- lJ,wN];rfl
   refine⟨_,_,?_,some (.int ((a:Int)+k)),rfl,rfl⟩;rw[uI]
   simp! only [dX,gl,g2,qCv,g1,pk,gj,if_pos ln,sj])
 rw[qAq,Nat.zero_add,Nat.sub_self] at e2;subst e1;subst e2
 exact⟨l,e⟩
end
section
variable {F:Nat->List D->M D}{B n:Nat}{h:AH}{s d:Nat}{x z y:Tx}
theorem qF1(t:Tx)(f:Nat->Nat)(n:Nat):zU (.str t::(List.range n).map fun j=>.str [f j])=some (t::(List.range n).map fun j=>[f j]):=by
 show (zU ((List.range n).map fun j=>.str [f j])).map (t::·)=_
 have:∀ l:List Nat,zU (l.map fun j=>.str [f j])=some (l.map fun j=>[f j]):=fun l=>by
  induction l with
  |nil=>rfl
  |cons x l ih=>show (zU (l.map fun j=>.str [f j])).map ([f x]::·)=_;rw[ih];rfl
 rw[this];rfl
theorem qB6(x:Tx):∀ r:List Tx,qZ [] (x::r)=x++qZ [] r
 | []=>by show x=x++[];rw[List.append_nil]
 |y::r=>by show x++[]++qZ [] (y::r)=_;rw[List.append_nil]
theorem qB5(f:Nat->Nat):∀ l:List Nat,qZ [] (l.map fun j=>[f j])=l.map f
 | []=>rfl
 |x::l=>by rw[List.map_cons,qB6,qB5 f l];rfl
theorem qEa(z:Tx):(List.range z.length).map (fun j=>z.getD j 0)=z:=by
 apply List.ext_getElem?;intro i
 by_cases c:i<z.length
 ·rw[List.getElem?_map,List.getElem?_range c];show some (z.getD i 0)=z[i]?;rw[List.getD_eq_getElem?_getD,List.getElem?_eq_getElem c];rfl
 ·rw[List.getElem?_eq_none (by simpa using c),List.getElem?_eq_none (by simpa using c)]
theorem qJr(hB:1<=B)(hs:h[s]?=some (.ins zH (fl x [] d)))(hd:h[d]?=some (.dct []))(at':Nat)(y:Tx)(hat:at'<=x.length)(hx:x.length<=100)(hl:y.length<=100) :
  ∃ h',qA fns B (n+4) qLl [.ref s,.int (at':Nat),.str y] h=.ok .non h'/\h'[s]?=some (.ins zH (fl (x++y.drop (x.length-at')) [] d))/\h'[d]?=some (.dct [])/\Fq [s,d] h h':=by
 rw[qOy];have ne:s≠d:=fun e=>by rw[e,hd] at hs;cases hs
 have n0:decide (((at':Nat):Int)<0)=false:=decide_eq_false (by lia);have mx:(if (x.length:Int) > (at':Nat) then (x.length:Int) else (at':Nat))=(x.length:Int):=by split <;> lia
 by_cases q:at'+y.length<=x.length
 ·have qd:decide (((at':Nat):Int)+y.length<=(x.length:Int))=true:=decide_eq_true (by lia);have e:y.drop (x.length-at')=[]:=List.drop_eq_nil_of_le (by lia);refine⟨h,?_,by rw[e,List.append_nil];exact hs,hd,Fq.refl _ _⟩;simp! only [dW,n0,sM,hs,gH,if_pos (show x.length<=16777216 by lia),mx,if_pos (show y.length<=16777216 by lia),qd]
 ·have qd:decide (((at':Nat):Int)+y.length<=(x.length:Int))=false:=decide_eq_false (by lia);generalize hz:y.drop (x.length-at')=z;have zl:z.length=y.length-(x.length-at'):=by rw[<- hz,List.length_drop]
  have en:((at':Nat):Int)+y.length=((x.length+z.length:Nat):Int):=by lia
  obtain ⟨x5,L1⟩:=qGE (F:=qA fns B (n+3)) (B:=B) hd hs x.length at' z.length hz.symm hat rfl hl (some (.int ((at':Nat)+y.length))) none;generalize hG:h.set d (.dct (nv x.length z (List.range z.length)))=G at L1;have gd:G[d]?=some (.dct (nv x.length z (List.range z.length))):=by rw[<- hG];exact zD hd _
  have gs:G[s]?=some (.ins zH (fl x [] d)):=by rw[<- hG,List.getElem?_set_ne ne.symm];exact hs
  have c1:qA fns B (n+3) 4 [.tup [],.int (x.length:Nat),.int ((at':Nat)+y.length)] G=.ok (.tup [.tup [.int (x.length:Nat),.int ((at':Nat)+y.length)]]) G:=qKH hB (by lia) (by lia);generalize hK:G.set s (.ins zH (fl x [.tup [.int (x.length:Nat),.int ((x.length+z.length:Nat):Int)]] d))=K;have ks:K[s]?=some (.ins zH (fl x [.tup [.int (x.length:Nat),.int ((x.length+z.length:Nat):Int)]] d)):=by rw[<- hK];exact zD gs _
  have kd:K[d]?=some (.dct (nv x.length z (List.range z.length))):=by rw[<- hK,List.getElem?_set_ne ne];exact gd
  obtain ⟨x3,L2⟩:=qGY (F:=qA fns B (n+2)) (B:=B) (a:=x.length) (b:=x.length+z.length) ks kd (by lia) (some (.tup [.int (x.length:Nat),.int ((x.length+z.length:Nat):Int)])) none;generalize hJ:K.set d (.dct [])=J at L2;have lJ:J.length=K.length:=by rw[<- hJ,List.length_set]
  have js:J[s]?=some (.ins zH (fl x [.tup [.int (x.length:Nat),.int ((x.length+z.length:Nat):Int)]] d)):=by rw[<- hJ,List.getElem?_set_ne ne.symm];exact ks
  have jd:J[d]?=some (.dct []):=by rw[<- hJ];exact zD kd _
  have sl:s<J.length:=(List.getElem?_eq_some_iff.mp js).1;have rg:(((x.length+z.length:Nat):Int)-(x.length:Nat)).toNat=z.length:=by lia
  have sm:jJ (x.length:Int)/\jJ ((x.length+z.length:Nat):Int):=by unfold jJ;lia
  have jn:jS [] (x::(List.range z.length).map fun j=>[z.getD j 0])<=16777216:=by
   unfold jS;rw[List.map_cons,List.map_map,show (List.length ∘ fun (j:Nat)=>[z.getD j 0])=fun _=>1 from rfl,List.map_const',List.sum_cons,List.sum_replicate_nat,List.length_range,List.length_nil]
   lia
  have jt:qZ [] (x::(List.range z.length).map fun j=>[z.getD j 0])=x++z:=by rw[qB6,qB5,qEa]
  generalize hT:(D.str x::(List.range z.length).map fun j=>D.str [z.getD j 0])=T at L2;have st:zU T=some (x::(List.range z.length).map fun j=>[z.getD j 0]):=by rw[<- hT];exact qF1 x _ _
  have gl:getL (J++[.lst T]) K.length=some T:=by rw[<- lJ,jG];rfl
  have jas:∀ g:AH,(J++g)[s]?=some (.ins zH (fl x [.tup [.int (x.length:Nat),.int ((x.length+z.length:Nat):Int)]] d)):=fun g=>qK g js;have ix0:∀ u v:D,((ixN 2 0).bind fun j=>[u,v][j]?)=some u:=fun _ _=>rfl;have ix1:∀ u v:D,((ixN 2 1).bind fun j=>[u,v][j]?)=some v:=fun _ _=>rfl;have ix:∀ u:D,((ixN 1 0).bind fun j=>[u][j]?)=some u:=fun _=>rfl;have cx:∀ u:D,qN [u] (some 1) none=[]:=fun _=>rfl;have eb:(((x.length:Nat):Int) == (x.length:Int))=true:=beq_self_eq_true _;have s1:((J++[O.lst T]).set s (.ins zH (fl (x++z) [.tup [.int (x.length:Nat),.int ((x.length+z.length:Nat):Int)]] d)))[s]?=some (.ins zH (fl (x++z) [.tup [.int (x.length:Nat),.int ((x.length+z.length:Nat):Int)]] d)):=zD (jas _) _
  have dr:qA fns B (n+3) 37 [.ref s] K=.ok .non ((J++[O.lst T]).set s (.ins zH (fl (x++z) [] d))):=by
   rw[qO0];simp! only [sO,ks,yY,gH,ix,ix0,if_pos (show x.length<=16777216 by lia),eb,qEM,ix1,if_pos sm,rg,L2,qEN,gl,Option.bind_some,st,if_pos jn,jt,jas,qHR,qCu,cn1,cn2,s1,cx,qBB,List.set_set]
  refine⟨(J++[O.lst T]).set s (.ins zH (fl (x++z) [] d)),?_,zD (jas _) _,?_,?_⟩
  ·have rg':(((at':Nat):Int)+y.length-(x.length:Nat)).toNat=z.length:=by lia
   have sm':jJ (x.length:Int)/\jJ (((at':Nat):Int)+y.length):=by unfold jJ;lia
   rw[en] at qd rg' sm' c1 L1;simp! only [dW,n0,sM,hs,gH,if_pos (show x.length<=16777216 by lia),mx,if_pos (show y.length<=16777216 by lia),en,qd,qEK,if_pos sm',rg',L1,qEL,gs,yY,c1,qBB,qCu,cn2,hK,ks,qJG,dr]
  ·rw[List.getElem?_set_ne ne];exact qK _ jd
  ·have hs':s∈[s,d]:=by simp
   have hd':d∈[s,d]:=by simp
   have f1:Fq [s,d] h G:=by rw[<- hG];exact Fq.set hd' _ _
   have f2:Fq [s,d] G K:=by rw[<- hK];exact Fq.set hs' _ _
   have f3:Fq [s,d] K J:=by rw[<- hJ];exact Fq.set hd' _ _
   exact (((f1.trans f2).trans f3).trans (Fq.app _ _ _)).trans (Fq.set hs' _ _)
end
def tk(r:Int)(p:Nat)(e:D)(t:Tx)(rd li:Int)(dn:Bool):List (Nat × D):=[(bT,.int r),(qBx,.ref p),(iL,e),(vY,.str t),(iN,.int rd),(iP,.int li),(qB1,.bl dn)]
section
variable (r:Int)(p:Nat)(e:D)(t:Tx)(rd li:Int)(dn:Bool)
theorem qFS:qL bT (tk r p e t rd li dn)=some (.int r):=rfl
theorem yI:qL qBx (tk r p e t rd li dn)=some (.ref p):=rfl
theorem vC:qL iL (tk r p e t rd li dn)=some e:=rfl
theorem yH:qL vY (tk r p e t rd li dn)=some (.str t):=rfl
theorem eV:qL iN (tk r p e t rd li dn)=some (.int rd):=rfl
theorem uJ:qL iP (tk r p e t rd li dn)=some (.int li):=rfl
theorem qFM(v:D):zP iL v (tk r p e t rd li dn)=tk r p v t rd li dn:=rfl
theorem tZ(v:Tx):zP vY (.str v) (tk r p e t rd li dn)=tk r p e v rd li dn:=rfl
theorem qFK(v:Int):zP iN (.int v) (tk r p e t rd li dn)=tk r p e t v li dn:=rfl
theorem qFL(v:Int):zP iP (.int v) (tk r p e t rd li dn)=tk r p e t rd v dn:=rfl
theorem qAA(v:Bool):zP qB1 (.bl v) (tk r p e t rd li dn)=tk r p e t rd li v:=rfl
theorem qFP:qL 7370100 (tk r p e t rd li dn)=none:=rfl
theorem qFQ:qL 1701733491 (tk r p e t rd li dn)=none:=rfl
theorem qFO:qL 491327153000 (tk r p e t rd li dn)=none:=rfl
theorem qAB:qL 1952541541 (tk r p e t rd li dn)=none:=rfl
theorem qAC:qL 8315163747390811749 (tk r p e t rd li dn)=none:=rfl
theorem qFR:qL 107127011501426 (tk r p e t rd li dn)=none:=rfl
theorem yJ:(tk r p e t rd li dn).length=7:=rfl
end
def teD:Bool->D
 |false=>.non
 |true=>.int 60
structure Tk where
 (t sl bd:Nat) (x:Tx) (rd:Nat) (to:Bool)
structure TkOk (h:AH) (room:Nat) (k:Tk):Prop where
 ht:h[k.t]?=some (.ins qP (tk room k.sl (teD k.to) k.x k.rd ((k.rd+room:Nat):Int) (k.to&&((k.rd:Int) == 60))))
 hs:h[k.sl]?=some (.ins zH (fl k.x [] k.bd))
 hb:h[k.bd]?=some (.dct [])
 lx:k.x.length<=60
 lr:k.rd<=k.x.length
section
variable {B n:Nat}{h:AH}{room:Nat}{k:Tk}
theorem TkOk.n1(o:TkOk h room k):k.t≠k.sl:=fun e=>by have:=o.ht;rw[e,o.hs] at this;cases this
theorem TkOk.n2(o:TkOk h room k):k.t≠k.bd:=fun e=>by have:=o.ht;rw[e,o.hb] at this;cases this
theorem qJk(B n:Nat)(h:AH)(room:Int):qA fns B (n+2) qLi [.ref h.length,.int room] (h++[.ins qP []])=.ok .non (h++[.ins qP (tk room (h.length+1) .non [] 0 room false),.ins zH (fl [] [] (h.length+2)),.dct []]):=by
 rw[qOv]
 have i1:qA fns B (n+1) qLm [.ref (h.length+1)] (h++[.ins qP [(1919905645,.int room)],.ins zH []])=.ok .non (h++[.ins qP [(1919905645,.int room)],.ins zH (fl [] [] (h.length+2)),.dct []]):=by
  rw[qOz];have z0:(([]:List Ky).length=([]:List D).length/\([]:List Ky).length<=15):=⟨rfl,by decide⟩;simp! only [sN,jT,uP,cn1,cn2,List.length_append,if_pos (show (0:Nat)<1000 by lia),if_pos (show (1:Nat)<1000 by lia),if_pos (show (2:Nat)<1000 by lia),vJ,List.append_assoc,if_pos z0,zI,List.zip_nil_left,List.foldl_nil,fl,if_neg (show ¬ (vY == gA)=true by decide),if_neg (show ¬ (vY == bU)=true by decide),if_neg (show ¬ (gA == bU)=true by decide)]
 have l1:(h++[O.ins qP [(1919905645,.int room)]]).length=h.length+1:=by simp
 have a1:(h++[O.ins qP [(1919905645,.int room)]])++[O.ins zH []]=h++[.ins qP [(1919905645,.int room)],.ins zH []]:=by simp
 simp! only [sL,zY,wN,cn3,cn4,cn5,if_pos (show (0:Nat)<1000 by lia),l1,a1,i1] <;> rfl
theorem qBY(ht:h[k.t]?=some (.ins qP (tk room k.sl (teD k.to) k.x k.rd ((k.rd+room:Nat):Int) b))):qA fns B (n+1) qLg [.ref k.t] h=.ok .non (h.set k.t (.ins qP (tk room k.sl (teD k.to) k.x k.rd ((k.rd+room:Nat):Int) (k.to&&((k.rd:Int) == 60))))):=by
 rw[qOs];cases q:k.to with
 |false=>rw[q] at ht;have ht:h[k.t]?=some (.ins qP (tk room k.sl .non k.x k.rd ((k.rd+room:Nat):Int) b)):=ht;simp! only [dP,ht,eV,vC,cn4,yJ,show (7:Nat)<1000 by lia,qAA] <;> rfl
 |true=>rw[q] at ht;have ht:h[k.t]?=some (.ins qP (tk room k.sl (.int 60) k.x k.rd ((k.rd+room:Nat):Int) b)):=ht;simp! only [dP,ht,eV,vC,cn4,yJ,show (7:Nat)<1000 by lia,qAA] <;> rfl
theorem qJi(hB:1<=B)(o:TkOk h room k)(hr:60<=room)(at':Nat)(y:Tx)(hat:at'<=k.x.length)(hy:at'+y.length<=60) :
  ∃ h',qA fns B (n+5) qLh [.ref k.t,.int (at':Nat),.str y] h=.ok .non h'/\TkOk h' room { k with x:=k.x++y.drop (k.x.length-at') }/\Fq [k.t,k.sl,k.bd] h h':=by
 have lx:=o.lx;have lr:=o.lr;obtain ⟨h1,e1,s1,d1,f1⟩:=qJr (n:=n) hB o.hs o.hb at' y hat (by lia) (by lia);have t1:=f1.2 _ _ (show k.t∉[k.sl,k.bd] by simp only[List.mem_cons,List.not_mem_nil,or_false,not_or];exact⟨o.n1,o.n2⟩) o.ht
 have ct:∀ c:Nat,60<=c->qN y none (some ((c:Int)-(at':Nat)))=y:=fun c hc=>by
  rw[show (c:Int)-(at':Nat)=((c-at':Nat):Int) by lia,qC6,List.take_of_length_le (by lia)]
 have mx:∀ c:Nat,60<=c->(if (0:Int) > (c:Int)-(at':Nat) then (0:Int) else (c:Int)-(at':Nat))=(c:Int)-(at':Nat):=fun c hc=>if_neg (by lia);refine⟨h1.set k.t (.ins qP (tk room k.sl (teD k.to) (k.x++y.drop (k.x.length-at')) k.rd ((k.rd+room:Nat):Int) (k.to&&((k.rd:Int) == 60)))),?_,⟨zD t1 _,?_,?_,?_,?_⟩,?_⟩
 ·rw[qOu];have ht:=o.ht;cases q:k.to with
  |false=>rw[q] at ht t1;have ht:h[k.t]?=some (.ins qP (tk room k.sl .non k.x k.rd ((k.rd+room:Nat):Int) false)):=ht;have t1:h1[k.t]?=some (.ins qP (tk room k.sl .non k.x k.rd ((k.rd+room:Nat):Int) false)):=t1;have m1:=mx (k.rd+room) (by lia);have c1:=ct (k.rd+room) (by lia);generalize ((k.rd+room:Nat):Int)=lim at *;simp! only [dQ,ht,vC,uJ,m1,if_pos (show y.length<=16777216 by lia),c1,yI,o.hs,qBN,e1,t1,s1,gH,cn3,yJ,show (7:Nat)<1000 by lia,tZ] <;> rfl
  |true=>
   rw[q] at ht t1;have ht:h[k.t]?=some (.ins qP (tk room k.sl (.int 60) k.x k.rd ((k.rd+room:Nat):Int) (true&&((k.rd:Int) == 60)))):=ht;have t1:h1[k.t]?=some (.ins qP (tk room k.sl (.int 60) k.x k.rd ((k.rd+room:Nat):Int) (true&&((k.rd:Int) == 60)))):=t1;have m0:(if (60:Int)<((k.rd+room:Nat):Int) then (60:Int) else ((k.rd+room:Nat):Int))=60:=by split <;> lia
   have m1:(if (0:Int) > 60-(at':Nat) then (0:Int) else 60-(at':Nat))=60-(at':Nat):=mx 60 (by lia);have c1:qN y none (some ((60:Int)-(at':Nat)))=y:=ct 60 (by lia);generalize ((k.rd+room:Nat):Int)=lim at *;simp! only [dQ,ht,vC,uJ,m0,m1,if_pos (show y.length<=16777216 by lia),c1,yI,o.hs,qBN,e1,t1,s1,gH,cn3,yJ,show (7:Nat)<1000 by lia,tZ] <;> rfl
 ·show (h1.set k.t _)[k.sl]?=_;rw[List.getElem?_set_ne o.n1];exact s1
 ·show (h1.set k.t _)[k.bd]?=_;rw[List.getElem?_set_ne o.n2];exact d1
 ·show (k.x++y.drop (k.x.length-at')).length<=60;rw[List.length_append,List.length_drop];lia
 ·show k.rd<=(k.x++y.drop (k.x.length-at')).length;rw[List.length_append];lia
 ·exact (f1.mono (fun i hi=>List.mem_cons_of_mem _ hi)).trans (Fq.set (by simp) _ _)
theorem qJl(o:TkOk h room k):∃ h',qA fns B (n+2) qLj [.ref k.t,.int 60] h=.ok .non h'/\TkOk h' room { k with to:=true }/\Fq [k.t,k.sl,k.bd] h h':=by
 have lx:=o.lx;rw[qOw];have ht:=o.ht;cases q:k.to with
 |true=>rw[q] at ht;have ht:h[k.t]?=some (.ins qP (tk room k.sl (.int 60) k.x k.rd ((k.rd+room:Nat):Int) (true&&((k.rd:Int) == 60)))):=ht;refine⟨h,?_,⟨ht,o.hs,o.hb,o.lx,o.lr⟩,Fq.refl _ _⟩;simp! only [dR,ht,vC]
 |false=>
  rw[q] at ht;have ht:h[k.t]?=some (.ins qP (tk room k.sl .non k.x k.rd ((k.rd+room:Nat):Int) false)):=ht
  have rc:qA fns B (n+1) 42 [.ref k.t] h=.ok (.int k.x.length) h:=by
   rw[qOt];simp! only [sK,ht,yI,o.hs,yY,List.length_nil,show decide ((0:Int)<((0:Nat):Int))=false from rfl,yH,if_pos (show k.x.length<=16777216 by lia)]
  have d1:decide ((60:Int)<(k.x.length:Int))=false:=decide_eq_false (by lia);have h1:(h.set k.t (.ins qP (tk room k.sl (.int 60) k.x k.rd ((k.rd+room:Nat):Int) false)))[k.t]?=some (.ins qP (tk room k.sl (.int 60) k.x k.rd ((k.rd+room:Nat):Int) false)):=zD ht _;have sd:=qBY (B:=B) (n:=n) (k:={ k with to:=true }) h1
  have sd:qA fns B (n+1) 44 [.ref k.t] (h.set k.t (.ins qP (tk room k.sl (.int 60) k.x k.rd ((k.rd+room:Nat):Int) false)))=.ok .non (h.set k.t (.ins qP (tk room k.sl (.int 60) k.x k.rd ((k.rd+room:Nat):Int) (true&&((k.rd:Int) == 60))))):=by
   rw[List.set_set] at sd;exact sd
  refine⟨h.set k.t (.ins qP (tk room k.sl (.int 60) k.x k.rd ((k.rd+room:Nat):Int) (true&&((k.rd:Int) == 60)))),?_,⟨zD ht _,?_,?_,o.lx,o.lr⟩,Fq.set (by simp) _ _⟩
  ·simp! only [dR,ht,vC,qFO,rc,d1,qEI,cn4,yJ,show (7:Nat)<1000 by lia,qFM,h1,qAC,sd]
  ·show (h.set k.t _)[k.sl]?=_;rw[List.getElem?_set_ne o.n1];exact o.hs
  ·show (h.set k.t _)[k.bd]?=_;rw[List.getElem?_set_ne o.n2];exact o.hb
theorem qJm(o:TkOk h room k):∃ c:Nat,c<=61/\qA fns B (n+1) qLk [.ref k.t] h=.ok (.tup [.int c,.int ((k.rd+room:Nat):Int),.tup []]) h:=by
 have lx:=o.lx;rw[qOx];have ht:=o.ht;have cx:qN ([]:List D) none (some 8)=[]:=rfl;cases q:k.to with
 |false=>rw[q] at ht;have ht:h[k.t]?=some (.ins qP (tk room k.sl .non k.x k.rd ((k.rd+room:Nat):Int) false)):=ht;refine⟨k.x.length,by lia,?_⟩;simp! only [gY,ht,yH,if_pos (show k.x.length<=16777216 by lia),vC,dS,uJ,yI,o.hs,yY,cx,if_pos (show 3<=16777216 by lia)]
 |true=>
  rw[q] at ht;have ht:h[k.t]?=some (.ins qP (tk room k.sl (.int 60) k.x k.rd ((k.rd+room:Nat):Int) (true&&((k.rd:Int) == 60)))):=ht;rcases Bool.eq_false_or_eq_true ((k.x.length:Int) == 60) with z | z
  ·refine⟨k.x.length+1,by lia,?_⟩;simp! only [gY,ht,yH,if_pos (show k.x.length<=16777216 by lia),vC,z,qEJ,dS,uJ,yI,o.hs,yY,cx,if_pos (show 3<=16777216 by lia)] <;> rfl
  ·refine⟨k.x.length,by lia,?_⟩;simp! only [gY,ht,yH,if_pos (show k.x.length<=16777216 by lia),vC,z,dS,uJ,yI,o.hs,yY,cx,if_pos (show 3<=16777216 by lia)]
theorem pH(x:Tx)(r c:Nat)(hr:r<=x.length):qN x (some (r:Int)) (some ((r:Int)+(c:Nat)))=(x.drop r).take c:=by
 unfold qN qY;simp only[if_neg (show ¬ (r:Int)<0 by lia),if_neg (show ¬ (r:Int)+(c:Nat)<0 by lia),Int.toNat_natCast,Nat.min_eq_left hr];rw[show ((r:Int)+(c:Nat)).toNat=r+c by lia]
 by_cases q:r+c<=x.length
 ·rw[Nat.min_eq_left q,Nat.add_sub_cancel_left]
 ·rw[Nat.min_eq_right (by lia),List.take_of_length_le (by rw[List.length_drop];exact Nat.le_refl _),List.take_of_length_le (by rw[List.length_drop];lia)]
theorem qJh(o:TkOk h room k)(c:Nat)(hc:1<=c)(hc2:c<=200):∃ h',qA fns B (n+2) qCc [.ref k.t,.int (c:Nat)] h=.ok (.str ((k.x.drop k.rd).take c)) h'/\TkOk h' room { k with rd:=k.rd+((k.x.drop k.rd).take c).length }/\Fq [k.t,k.sl,k.bd] h h':=by
 have lx:=o.lx;have lr:=o.lr;rw[qDM];have ht:=o.ht;have d1:decide ((1:Int)<=(c:Nat))=true:=decide_eq_true (by lia);have d2:decide (((c:Nat):Int)<=200)=true:=decide_eq_true (by lia);have cx:=pH k.x k.rd c lr;have ll:((k.x.drop k.rd).take c).length<=k.x.length-k.rd:=by rw[List.length_take,List.length_drop];lia
 generalize hy:(k.x.drop k.rd).take c=y at *;have r1:(k.rd:Int)+(y.length:Int)=((k.rd+y.length:Nat):Int):=by lia
 have r2:(k.rd:Int)+(y.length:Int)+(room:Int)=((k.rd+y.length+room:Nat):Int):=by lia
 have h3:(h.set k.t (.ins qP (tk room k.sl (teD k.to) k.x ((k.rd+y.length:Nat):Int) ((k.rd+y.length+room:Nat):Int) (k.to&&((k.rd:Int) == 60)))))[k.t]?=some (.ins qP (tk room k.sl (teD k.to) k.x ((k.rd+y.length:Nat):Int) ((k.rd+y.length+room:Nat):Int) (k.to&&((k.rd:Int) == 60)))):=zD ht _;have sd:=qBY (B:=B) (n:=n) (k:={ k with rd:=k.rd+y.length }) h3;rw[List.set_set] at sd;refine⟨_,?_,⟨zD ht (.ins qP (tk room k.sl (teD k.to) k.x ((k.rd+y.length:Nat):Int) ((k.rd+y.length+room:Nat):Int) (k.to&&(((k.rd+y.length:Nat):Int) == 60)))),?_,?_,o.lx,?_⟩,Fq.set (by simp) _ _⟩
 ·generalize (k.to&&((k.rd:Int) == 60))=b0 at *;generalize teD k.to=te at *;have g1:∀ (a b:Int),(h.set k.t (.ins qP (tk room k.sl te k.x a b b0)))[k.t]?=some (.ins qP (tk room k.sl te k.x a b b0)):=fun a b=>zD ht _;simp! only [gX,d1,d2,qEH,ht,yH,eV,if_pos (show k.x.length<=16777216 by lia),cx,if_pos (show y.length<=16777216 by lia),r1,cn4,yJ,show (7:Nat)<1000 by lia,qFK,g1,qFS,List.set_set,qFL,show ((k.rd+y.length:Nat):Int)+(room:Int)=((k.rd+y.length+room:Nat):Int) by lia,qAC,sd]
 ·show (h.set k.t _)[k.sl]?=_;rw[List.getElem?_set_ne o.n1];exact o.hs
 ·show (h.set k.t _)[k.bd]?=_;rw[List.getElem?_set_ne o.n2];exact o.hb
 ·show k.rd+y.length<=k.x.length
  lia
theorem qJj(c:Nat)(hc:¬ (1<=c/\c<=200))(t:Nat):qA fns B (n+1) qCc [.ref t,.int (c:Nat)] h=.exc zZ h:=by
 rw[qDM]
 by_cases q:1<=c
 ·simp! only [gX,decide_eq_true (show (1:Int)<=(c:Nat) by lia),decide_eq_false (show ¬ ((c:Nat):Int)<=200 by lia)]
 ·simp! only [gX,decide_eq_false (show ¬ (1:Int)<=(c:Nat) by lia)]
end
def hst(room life q gd td:Nat):List (Nat × D):=[(bT,.int room),(qKn,.int 9),(qKo,.int 3),(iQ,.int life),(iO,.ref q),(iR,.ref gd),(iM,.ref td),(qBy,.non)]
def mtg(mine yours:Nat)(met:Bool):List (Nat × D):=[(qBz,.int mine),(iK,.int yours),(qB0,.bl met)]
section
variable (room life q gd td:Nat)
theorem qMC:qL bT (hst room life q gd td)=some (.int room):=rfl
theorem lF:qL iQ (hst room life q gd td)=some (.int life):=rfl
theorem cD:qL iO (hst room life q gd td)=some (.ref q):=rfl
theorem qME:qL iR (hst room life q gd td)=some (.ref gd):=rfl
theorem yA:qL iM (hst room life q gd td)=some (.ref td):=rfl
theorem qL0(v:Nat):zP iQ (.int ((v:Nat):Int)) (hst room life q gd td)=hst room v q gd td:=rfl
theorem qLz(v:Nat):zP iO (.ref v) (hst room life q gd td)=hst room life v gd td:=rfl
theorem qCg(v:Nat):zP iR (.ref v) (hst room life q gd td)=hst room life q v td:=rfl
theorem qCf(v:Nat):zP iM (.ref v) (hst room life q gd td)=hst room life q gd v:=rfl
theorem qL1:zP qBy .non (hst room life q gd td)=hst room life q gd td:=rfl
theorem lG:(hst room life q gd td).length=8:=rfl
theorem qL6:qL 464662488081084476647013 (hst room life q gd td)=none:=rfl
theorem qCi:qL 1952541541 (hst room life q gd td)=none:=rfl
theorem gF:qL 499850634610 (hst room life q gd td)=none:=rfl
theorem qL4:qL 122545758368371 (hst room life q gd td)=none:=rfl
theorem qL5:qL 1717660780 (hst room life q gd td)=none:=rfl
theorem lB:qL 1751474546 (hst room life q gd td)=none:=rfl
theorem qCl:qL 7799763779075547922881686105459 (hst room life q gd td)=none:=rfl
theorem qCh:qL 8386102064528189806 (hst room life q gd td)=none:=rfl
theorem qCj:qL 2073057138977531850085 (hst room life q gd td)=none:=rfl
theorem qCk:qL 549591584905317559919717 (hst room life q gd td)=none:=rfl
theorem qL3:qL 8100116882379468646 (hst room life q gd td)=none:=rfl
variable (met:Bool)
theorem uU:qL qBz (mtg life q met)=some (.int life):=rfl
theorem uT:qL iK (mtg life q met)=some (.int q):=rfl
theorem qAu(v:Nat):zP iK (.int ((v:Nat):Int)) (mtg life q met)=mtg life v met:=rfl
theorem fN(v:Bool):zP qB0 (.bl v) (mtg life q met)=mtg life q v:=rfl
theorem fP:(mtg life q met).length=3:=rfl
theorem fO:qL 448377483876 (mtg life q met)=none:=rfl
theorem qAv:qL 491328138361 (mtg life q met)=none:=rfl
end
theorem ch1:([362411681138,1215263604]:List Nat).contains qW=true:=by decide
theorem ch2:([1215263604]:List Nat).contains qW=true:=by decide
theorem cm1:([21785059625889383]:List Nat).contains zC=true:=by decide
def tvD:Option Tk->D
 |none=>.non
 |some k=>.ref k.t
abbrev TS:=List (Nat × Option Tk)
def kvT(ts:TS):List (Ky × D):=ts.map fun p:Nat × Option Tk=>(Ky.int (p.1:Int),tvD p.2)
def lkT(ts:TS)(k:Nat):Option (Option Tk):=(ts.find? fun p=>p.1 == k).map (·.2)
theorem iI(ts:TS):(kvT ts).length=ts.length:=by unfold kvT;simp
theorem yS(k:Nat):∀ ts:TS,qH (kvT ts) (.int (k:Int))=(lkT ts k).map tvD
 | []=>rfl
 |p::r=>by
  show qH ((Ky.int (p.1:Int),tvD p.2)::kvT r) _=_;unfold lkT
  by_cases e:p.1=k
  ·rw[jX (x:=(Ky.int (p.1:Int),tvD p.2)) (by rw[e]),List.find?_cons_of_pos (by simpa using e)];rfl
  ·rw[jY (x:=(Ky.int (p.1:Int),tvD p.2)) (fun z=>e (by injection z with z;lia)),List.find?_cons_of_neg (by simpa using e)];exact yS k r
theorem jR(h:lkT ts k=some v):(k,v)∈ts:=by
 unfold lkT at h;cases q:ts.find? (fun p=>p.1 == k) with
 |none=>rw[q] at h;cases h
 |some p=>rw[q] at h;have h1:=List.mem_of_find?_eq_some q;have h2:=List.find?_some q;have e:p=(k,v):=Prod.ext (by simpa using h2) (Option.some.inj h);rw[<- e];exact h1
theorem qKK:lkT ts k=none↔k∉ts.map (·.1):=by
 unfold lkT;rw[Option.map_eq_none_iff,List.find?_eq_none];constructor
 ·intro h q;obtain ⟨p,hp,e⟩:=List.mem_map.mp q;exact h p hp (by simpa using e)
 ·intro h p hp e;exact h (List.mem_map.mpr ⟨p,hp,by simpa using e⟩)
theorem yQ(nd:(ts.map (·.1)).Nodup)(h:(k,v)∈ts):lkT ts k=some v:=by
 induction ts with
 |nil=>cases h
 |cons p r ih=>
  rw[List.map_cons,List.nodup_cons] at nd;unfold lkT;rcases List.mem_cons.mp h with e | e
  ·rw[<- e,List.find?_cons_of_pos (by simp)];rfl
  ·have ne:p.1≠k:=fun z=>nd.1 (List.mem_map.mpr ⟨_,e,z.symm⟩);rw[List.find?_cons_of_neg (by simpa using ne)];exact ih nd.2 e
def jB:Option Tk->List Nat
 |none=>[]
 |some k=>[k.t,k.sl,k.bd]
def wR:TS->List Nat
 | []=>[]
 |p::r=>jB p.2++wR r
theorem wQ(h:(k,v)∈ts)(hi:i∈jB v):i∈wR ts:=by
 induction ts with
 |nil=>cases h
 |cons p r ih=>
  rcases List.mem_cons.mp h with e | e
  ·subst e;exact List.mem_append_left _ hi
  ·exact List.mem_append_right _ (ih e)
theorem bE(h:i∈wR ts):∃ k v,(k,some v)∈ts/\i∈jB (some v):=by
 induction ts with
 |nil=>cases h
 |cons p r ih=>
  rcases List.mem_append.mp h with e | e
  ·obtain ⟨k,v⟩:=p;cases v with
   |none=>cases e
   |some v=>exact⟨k,v,List.mem_cons_self ..,e⟩
  ·obtain ⟨k,v,h1,h2⟩:=ih e
   exact⟨k,v,List.mem_cons_of_mem _ h1,h2⟩
structure HR where
 (p q gd td room life yours:Nat) (met:Bool) (ts:TS)
def Own(H:HR):List Nat:=H.p::H.q::H.gd::H.td::wR H.ts
structure Hs (h:AH) (H:HR):Prop where
 hp:h[H.p]?=some (.ins qW (hst H.room H.life H.q H.gd H.td))
 hq:h[H.q]?=some (.ins zC (mtg H.life H.yours H.met))
 hg:h[H.gd]?=some (.dct [])
 ht:h[H.td]?=some (.dct (kvT H.ts))
 tk:∀ k t,(k,some t)∈H.ts->TkOk h H.room t
 n4:[H.p,H.q,H.gd,H.td].Nodup
 dh:∀ k t,(k,some t)∈H.ts->∀ i∈jB (some t),i∉[H.p,H.q,H.gd,H.td]
 dj:∀ k t k' t',(k,some t)∈H.ts->(k',some t')∈H.ts->k≠k'->∀ i∈jB (some t),i∉jB (some t')
 kn:(H.ts.map (·.1)).Nodup
 kb:∀ p∈H.ts,p.1<50
 r1:60<=H.room
 r2:H.room<=200
def Nx(h:AH)(H:HR)(h':AH)(H':HR):Prop:=Fq (Own H) h h'/\∀ i∈Own H',i∈Own H\/h.length<=i
theorem Nx.app(H:HR)(g:AH):Nx h H (h++g) H:=⟨Fq.app _ _ _,fun _ h=>.inl h⟩
theorem Nx.trans(a:Nx h H h1 H1)(b:Nx h1 H1 h2 H2):Nx h H h2 H2:=by
 refine⟨⟨Nat.le_trans a.1.1 b.1.1,fun i o ni e=>?_⟩,fun i hi=>?_⟩
 ·have lt:=(List.getElem?_eq_some_iff.mp e).1;refine b.1.2 i o (fun z=>?_) (a.1.2 i o ni e);rcases a.2 i z with q | q
  ·exact ni q
  ·lia
 ·rcases b.2 i hi with q | q
  ·exact a.2 i q
  ·exact .inr (Nat.le_trans a.1.1 q)
section
variable {h h':AH}{H:HR}
theorem TkOk.keep{M:List Nat}(o:TkOk h room k)(f:Fq M h h')(n:∀ i∈jB (some k),i∉M):TkOk h' room k:=
 ⟨f.2 _ _ (n _ (by simp[jB])) o.ht,f.2 _ _ (n _ (by simp[jB])) o.hs,f.2 _ _ (n _ (by simp[jB])) o.hb,o.lx,o.lr⟩
theorem Hs.app(o:Hs h H)(g:AH):Hs (h++g) H:=⟨qK g o.hp,qK g o.hq,qK g o.hg,qK g o.ht,fun k t m=>(o.tk k t m).keep (Fq.app [] h g) (by simp),o.n4,o.dh,o.dj,o.kn,o.kb,o.r1,o.r2⟩
theorem Hs.lt(o:Hs h H)(hi:i∈Own H):i<h.length:=by
 unfold Own at hi;simp only[List.mem_cons] at hi;rcases hi with rfl | rfl | rfl | rfl | hi
 ·exact (List.getElem?_eq_some_iff.mp o.hp).1
 ·exact (List.getElem?_eq_some_iff.mp o.hq).1
 ·exact (List.getElem?_eq_some_iff.mp o.hg).1
 ·exact (List.getElem?_eq_some_iff.mp o.ht).1
 ·obtain ⟨k,v,h1,h2⟩:=bE hi;have t:=o.tk k v h1;simp only[jB,List.mem_cons,List.not_mem_nil,or_false] at h2;rcases h2 with rfl | rfl | rfl
  ·exact (List.getElem?_eq_some_iff.mp t.ht).1
  ·exact (List.getElem?_eq_some_iff.mp t.hs).1
  ·exact (List.getElem?_eq_some_iff.mp t.hb).1
end
section
variable {B n:Nat}{h:AH}{H:HR}
theorem qKF(life room q gd td:Nat)(hp:h[p]?=some (.ins qW (hst room life q gd td))):qA fns B (n+2) qLt [.ref p] h=.ok .non (h.set p (.ins qW (hst room life h.length (h.length+1) (h.length+2)))++[.ins zC (mtg life 0 false),.dct [],.dct []]):=by
 rw[qDS];have lp:p<h.length:=(List.getElem?_eq_some_iff.mp hp).1
 have i1:qA fns B (n+1) 5 [.ref h.length,.int life] (h++[.ins zC []])=.ok .non (h++[.ins zC (mtg life 0 false)]):=by
  rw[qDN];simp! only [dY,zY,wN,cm1,if_pos (show (0:Nat)<1000 by lia)] <;> rfl
 have g1:∀ (a b c:Nat) (g:AH),(h.set p (.ins qW (hst room life a b c))++g)[p]?=some (.ins qW (hst room life a b c)):=fun a b c g=>qK g (zD hp _);have g2:∀ g:AH,(h++g)[p]?=some (.ins qW (hst room life q gd td)):=fun g=>qK g hp;have s1:∀ (g:AH) (o:O),(h++g).set p o=h.set p o++g:=fun g o=>List.set_append_left _ _ lp;have s2:∀ (g:AH) (o o':O),(h.set p o'++g).set p o=h.set p o++g:=fun g o o'=>by rw[List.set_append_left _ _ (by rw[List.length_set];exact lp),List.set_set]
 have l1:∀ (g:AH) (o:O),(h.set p o++g).length=h.length+g.length:=fun g o=>by rw[List.length_append,List.length_set]
 have gl:∀ (g:AH) (o:O) (k:Nat),(h.set p o++g)[h.length+k]?=g[k]?:=fun g o k=>by
  rw[List.getElem?_append_right (by rw[List.length_set];lia),List.length_set,Nat.add_sub_cancel_left]
 have sl:∀ (g:AH) (o x:O) (k:Nat),(h.set p o++g).set (h.length+k) x=h.set p o++g.set k x:=fun g o x k=>by
  rw[List.set_append_right _ _ (by rw[List.length_set];lia),List.length_set,Nat.add_sub_cancel_left]
 have z0:(([]:List Ky).length=([]:List D).length/\([]:List Ky).length<=15):=⟨rfl,by decide⟩;simp! only [eJ,hp,lF,i1,g2,ch2,lG,show (8:Nat)<1000 by lia,s1,qLz,l1,vJ,List.append_assoc,gl,if_pos z0,zI,List.zip_nil_left,List.foldl_nil,sl,g1,s2,qCg,qCf,qL1] <;> rfl
theorem qJ2(h:AH)(room:Nat):qA fns B (n+3) qLq [.ref h.length,.int room,.int 9,.int 3] (h++[.ins qW []])=.ok .non (h++[.ins qW (hst room 1 (h.length+1) (h.length+2) (h.length+3)),.ins zC (mtg 1 0 false),.dct [],.dct []]):=by
 rw[qO6]
 have i1:∀ fs,qA fns B (n+1) 5 [.ref (h.length+1),.int 1] (h++[.ins qW fs,.ins zC []])=.ok .non (h++[.ins qW fs,.ins zC (mtg 1 0 false)]):=fun fs=>by
  rw[qDN];simp! only [dY,jT,uP,cm1,if_pos (show (0:Nat)<1000 by lia)] <;> rfl
 have z0:(([]:List Ky).length=([]:List D).length/\([]:List Ky).length<=15):=⟨rfl,by decide⟩
 have e:qA fns B (n+2) 50 [.ref h.length] (h++[.ins qW [(1919905645,.int room),(1836020596,.int 9),(108256335193460,.int 3),(1818846821,.int 1)]])=.ok .non (h++[.ins qW (hst room 1 (h.length+1) (h.length+2) (h.length+3)),.ins zC (mtg 1 0 false),.dct [],.dct []]):=by
  rw[qDS];simp! only [eJ,zY,wN,jT,uP,ch2,List.length_append,List.append_assoc,i1,vJ,if_pos z0,zI,List.zip_nil_left,List.foldl_nil] <;> rfl
 have mn:(if (40:Int)<9 then (40:Int) else 9)=9:=rfl;simp! only [sZ,zY,wN,ch1,ch2,e] <;> rfl
theorem qJ8(o:Hs h H)(hl:H.life<40):∃ h',qA fns B (n+3) qLr [.ref H.p] h=.ok .non h'/\Hs h' ⟨H.p,h.length,h.length+1,h.length+2,H.room,H.life+1,0,false,[]⟩/\Nx h H h' ⟨H.p,h.length,h.length+1,h.length+2,H.room,H.life+1,0,false,[]⟩:=by
 rw[qO7];have lp:=(List.getElem?_eq_some_iff.mp o.hp).1
 have d1:(((H.life:Nat):Int) == 40)=false:=by
  rw[beq_eq_false_iff_ne];lia
 have r1:((H.life:Nat):Int)+1=((H.life+1:Nat):Int):=by lia
 have h1:(h.set H.p (.ins qW (hst H.room (H.life+1) H.q H.gd H.td)))[H.p]?=some (.ins qW (hst H.room (H.life+1) H.q H.gd H.td)):=zD o.hp _;have e:=qKF (B:=B) (n:=n) (H.life+1) H.room H.q H.gd H.td h1;rw[List.set_set,List.length_set] at e;refine⟨h.set H.p (.ins qW (hst H.room (H.life+1) h.length (h.length+1) (h.length+2)))++[.ins zC (mtg (H.life+1) 0 false),.dct [],.dct []],?_,⟨qK _ (zD o.hp _),?_,?_,?_,(fun k t m=>by cases m),?_,(fun k t m=>by cases m),(fun k t k' t' m=>by cases m),.nil,(fun p hp=>by cases hp),o.r1,o.r2⟩,?_,fun i hi=>?_⟩
 rotate_left
 ·show (h.set H.p _++_)[h.length]?=_;rw[List.getElem?_append_right (by rw[List.length_set];exact Nat.le_refl _),List.length_set,Nat.sub_self];rfl
 ·show (h.set H.p _++_)[h.length+1]?=_;rw[List.getElem?_append_right (by rw[List.length_set];lia),List.length_set,Nat.add_sub_cancel_left];rfl
 ·show (h.set H.p _++_)[h.length+2]?=_;rw[List.getElem?_append_right (by rw[List.length_set];lia),List.length_set,Nat.add_sub_cancel_left];rfl
 ·show [H.p,h.length,h.length+1,h.length+2].Nodup;simp only[List.nodup_cons,List.mem_cons,List.not_mem_nil,or_false,not_or,not_false_eq_true,List.nodup_nil,and_true]
  lia
 ·exact (Fq.set (by unfold Own;simp) _ _).trans (Fq.app _ _ _)
 ·unfold Own at hi;simp only[wR,List.mem_cons,List.not_mem_nil,or_false] at hi;rcases hi with rfl | rfl | rfl | rfl
  ·exact .inl (by unfold Own;simp)
  ·exact .inr (Nat.le_refl _)
  ·exact .inr (by lia)
  ·exact .inr (by lia)
 ·simp! only [tJ,o.hp,lF,d1,qET,r1,ch2,lG,show (8:Nat)<1000 by lia,qL0,h1,qL6,e]
end
theorem tbh(k:Nat):tbN [(1215263604,k)] qW=some k:=rfl
theorem tbq(k:Nat):tbN [(21785059625889383,k)] zC=some k:=rfl
section
variable {B n:Nat}{h:AH}{q life yours:Nat}{met:Bool}
theorem qJ4(hq:h[q]?=some (.ins zC (mtg life yours met)))(k:D)(y m:Nat)(hy:yours<y)(hm:m<=life):qA fns B (n+1) qCd [.ref q,.tup [k,.int y,.int m]] h=.ok (.tup [.bl true,.bl ((m:Int) == (life:Int))]) (h.set q (.ins zC (mtg life y ((m:Int) == (life:Int))))):=by
 rw[qDO];have i1:((ixN 3 1).bind fun j=>[k,.int y,.int m][j]?)=some (.int y):=rfl;have i2:((ixN 3 2).bind fun j=>[k,.int y,.int m][j]?)=some (.int m):=rfl;have d1:decide ((y:Int)<(yours:Int))=false:=decide_eq_false (by lia);have d2:decide ((life:Int)<(m:Int))=false:=decide_eq_false (by lia);have d3:decide ((yours:Int)<(y:Int))=true:=decide_eq_true (by lia);have g1:∀ (a b:Nat) (c:Bool),(h.set q (.ins zC (mtg a b c)))[q]?=some (.ins zC (mtg a b c)):=fun _ _ _=>zD hq _;cases z:((m:Int) == (life:Int)) with
 |true=>simp! only [gZ,i1,i2,hq,uT,uU,d1,d2,dZ,d3,sR,cm1,fP,show (3:Nat)<1000 by lia,qAu,g1,fN,List.set_set,eA,z,sQ,eB,if_pos (show 2<=16777216 by lia)]
 |false=>simp! only [gZ,i1,i2,hq,uT,uU,d1,d2,dZ,d3,sR,cm1,fP,show (3:Nat)<1000 by lia,qAu,g1,fN,List.set_set,eA,z,eB,if_pos (show 2<=16777216 by lia)]
theorem qJ3(hq:h[q]?=some (.ins zC (mtg life yours met)))(ds:List D)(i1:((ixN ds.length 1).bind fun j=>ds[j]?)=some (.int yours))(i2:((ixN ds.length 2).bind fun j=>ds[j]?)=some (.int life)):qA fns B (n+1) qCd [.ref q,.tup ds] h=.ok (.tup [.bl false,.bl true]) (h.set q (.ins zC (mtg life yours true))):=by
 rw[qDO];have d1:decide ((yours:Int)<(yours:Int))=false:=decide_eq_false (by lia);have d2:decide ((life:Int)<(life:Int))=false:=decide_eq_false (by lia);have z:((life:Int) == (life:Int))=true:=beq_self_eq_true _;simp! only [gZ,i1,i2,hq,uT,uU,d1,d2,dZ,eA,z,sQ,cm1,fP,show (3:Nat)<1000 by lia,fN,eB,if_pos (show 2<=16777216 by lia)]
theorem qJu(hq:h[q]?=some (.ins zC (mtg life yours met))):qA fns B (n+1) qLn [.ref q] h=.ok (.tup [.str HELLO,.int life,.int yours]) h:=by
 rw[qO1];simp! only [sP,hq,uU,uT,if_pos (show 3<=16777216 by lia)] <;> rfl
end
def brk(ts:TS):TS:=ts.map fun p=>(p.1,none)
theorem qDV(ts:TS):(brk ts).map (·.1)=ts.map (·.1):=by unfold brk;rw[List.map_map];rfl
theorem qDU:∀ ts:TS,wR (brk ts)=[]
 | []=>rfl
 |p::r=>qDU r
theorem qBt{k:Nat}(h:k∉ts.map (·.1))(v:Option Tk):zE (kvT ts) (.int (k:Int)) (tvD v)=kvT (ts++[(k,v)]):=by
 have:((kvT ts).any fun kv=>decide (kv.1=.int (k:Int)))=false:=by
  rw[List.any_eq_false];intro x hx;unfold kvT at hx;obtain ⟨p,hp,rfl⟩:=List.mem_map.mp hx
  have:¬ (Ky.int (p.1:Int)=.int (k:Int)):=fun e=>h (List.mem_map.mpr ⟨p,hp,by injection e with e;lia⟩)
  simpa using this
 unfold zE;rw[this];unfold kvT;rw[List.map_append];rfl
section
variable {B n:Nat}{h:AH}
theorem qBk(ht:h[td]?=some (.dct (kvT ts)))(kn:(ts.map (·.1)).Nodup)(hl:ts.length<=1000):qA fns B (n+1) qLe [.ref td] h=.ok (.ref h.length) (h++[.dct (kvT (brk ts))]):=by
 rw[qOq];have lt:=(List.getElem?_eq_some_iff.mp ht).1;have z0:(([]:List Ky).length=([]:List D).length/\([]:List Ky).length<=15):=⟨rfl,by decide⟩;have keys:jE (kvT ts)=ts.map fun p:Nat × Option Tk=>D.int p.1:=by unfold jE kvT;rw[List.map_map];rfl
 have s1:(h++[O.dct []]).set td (.rod (kvT ts))=h.set td (.rod (kvT ts))++[.dct []]:=List.set_append_left _ _ lt
 obtain ⟨U',h',L,l,e1,e2⟩:=cG (fun j U g=>∃ l,U=[some (.ref td),some (.ref h.length),l]/\g=h.set td (.rod (kvT ts))++[.dct (kvT (brk (ts.take j)))])
  (zT (TG.nm 2) (qB (qA fns B n) B sG)) (ts.map fun p:Nat × Option Tk=>D.int p.1) 0 [some (.ref td),some (.ref h.length),none] (h.set td (.rod (kvT ts))++[.dct []]) ⟨none,rfl,rfl⟩
  (fun j x U g hj ⟨l,e1,e2⟩=>by
   rw[List.getElem?_map] at hj;cases q:ts[j]? with
   |none=>rw[q] at hj;cases hj
   |some p=>
    rw[q] at hj;cases hj;subst e1;subst e2;rw[Nat.zero_add];have tk1:ts.take (j+1)=ts.take j++[p]:=by rw[List.take_succ,q];rfl
    have nk:p.1∉(brk (ts.take j)).map (·.1):=by
     rw[qDV,List.map_take];intro m;have kn':=kn;rw[<- List.take_append_drop j (ts.map (·.1))] at kn'
     have hd:p.1∈(ts.map (·.1)).drop j:=by
      rw[List.mem_iff_getElem?]
      exact⟨0,by rw[List.getElem?_drop,Nat.add_zero,List.getElem?_map,q];rfl⟩
     exact (List.nodup_append.mp kn').2.2 _ m _ hd rfl
    have pk:∀ g:AH,kN .non h.length (.int (p.1:Int)) (h.set td (.rod (kvT ts))++[.dct (kvT (brk (ts.take j)))])=.ok () (h.set td (.rod (kvT ts))++[.dct (kvT (brk (ts.take (j+1))))]):=fun g=>by
     unfold kN;have g1:(h.set td (.rod (kvT ts))++[O.dct (kvT (brk (ts.take j)))])[h.length]?=some (.dct (kvT (brk (ts.take j)))):=by rw[List.getElem?_append_right (by rw[List.length_set];exact Nat.le_refl _),List.length_set,Nat.sub_self];rfl
     rw[g1];have l1:(kvT (brk (ts.take j))).length<16777216:=by rw[iI];unfold brk;rw[List.length_map,List.length_take];lia
     have s2:∀ o:O,(h.set td (.rod (kvT ts))++[O.dct (kvT (brk (ts.take j)))]).set h.length o=h.set td (.rod (kvT ts))++[o]:=fun o=>by
      rw[List.set_append_right _ _ (by rw[List.length_set];exact Nat.le_refl _),List.length_set,Nat.sub_self];rfl
     have e3:zE (kvT (brk (ts.take j))) (.int (p.1:Int)) .non=kvT (brk (ts.take (j+1))):=by
      have:=qBt nk none
      rw[show tvD none=D.non from rfl] at this;rw[this,tk1];unfold brk;rw[List.map_append];rfl
     simp only[if_pos l1,s2,e3]
    have g1:(h.set td (.rod (kvT ts))++[O.dct (kvT (brk (ts.take j)))])[h.length]?=some (.dct (kvT (brk (ts.take j)))):=by rw[List.getElem?_append_right (by rw[List.length_set];exact Nat.le_refl _),List.length_set,Nat.sub_self];rfl
    refine⟨_,_,?_,some (.int p.1),rfl,rfl⟩;rw[uI]
    simp! only [sG,g1,pk []])
 rw[List.length_map,Nat.zero_add,List.take_length] at e2;subst e1;subst e2;have g2:(h++[O.dct []])[td]?=some (.dct (kvT ts)):=qK _ ht;have g3:(h.set td (.rod (kvT ts))++[O.dct (kvT (brk ts))])[td]?=some (.rod (kvT ts)):=qK _ (zD ht _)
 have s3:(h.set td (.rod (kvT ts))++[O.dct (kvT (brk ts))]).set td (.dct (kvT ts))=h++[.dct (kvT (brk ts))]:=by
  rw[List.set_append_left _ _ (by rw[List.length_set];exact lt),List.set_set,vP ht]
 have g4:(h++[O.dct []])[h.length]?=some (.dct []):=by rw[zY];rfl
 have s4:(h++[O.dct []]).set h.length (.dct [])=h++[.dct []]:=by rw[wN];rfl
 simp! only [sI,vJ,g4,if_pos z0,zI,List.zip_nil_left,List.foldl_nil,s4,qCs,g2,keys,s1,L,SR.thaw,g3,s3,qEE]
theorem qKD(o:Hs h H)(hl:H.ts.length<=1000):∃ h',qA fns B (n+2) qLs [.ref H.p] h=.ok .non h'/\Hs h' { H with gd:=h.length,td:=h.length+1,ts:=brk H.ts }/\Nx h H h' { H with gd:=h.length,td:=h.length+1,ts:=brk H.ts }:=by
 rw[qO8];have lp:=(List.getElem?_eq_some_iff.mp o.hp).1;have np:H.p∉[H.q,H.gd,H.td]:=(List.nodup_cons.mp o.n4).1;simp only[List.mem_cons,List.not_mem_nil,or_false,not_or] at np;have e1:qA fns B (n+1) 48 [.ref H.gd] h=.ok (.ref h.length) (h++[.dct []]):=qBk (ts:=[]) (n:=n) o.hg .nil (Nat.zero_le _);have g1:=qK [O.dct []] o.hp
 have g2:((h++[O.dct []]).set H.p (.ins qW (hst H.room H.life H.q h.length H.td)))[H.td]?=some (.dct (kvT H.ts)):=by
  rw[List.getElem?_set_ne np.2.2];exact qK _ o.ht
 have e2:=qBk (B:=B) (n:=n) g2 o.kn hl;rw[List.length_set,List.length_append] at e2;have g3:=zD g1 (.ins qW (hst H.room H.life H.q h.length H.td));have g4:=qK [O.dct (kvT (brk H.ts))] g3;have lk:H.p<(h++[O.dct []]).length:=by rw[List.length_append];lia
 have s1:((h++[O.dct []]).set H.p (.ins qW (hst H.room H.life H.q h.length H.td))++[O.dct (kvT (brk H.ts))]).set H.p (.ins qW (hst H.room H.life H.q h.length (h.length+1)))=(h.set H.p (.ins qW (hst H.room H.life H.q h.length (h.length+1))))++[.dct [],.dct (kvT (brk H.ts))]:=by
  rw[List.set_append_left _ _ (by rw[List.length_set];exact lk),List.set_set,List.set_append_left _ _ lp,List.append_assoc];rfl
 have f:Fq (Own H) h (h.set H.p (.ins qW (hst H.room H.life H.q h.length (h.length+1)))++[.dct [],.dct (kvT (brk H.ts))]):=(Fq.set (by unfold Own;simp) _ _).trans (Fq.app _ _ _);have lq:=(List.getElem?_eq_some_iff.mp o.hq).1
 have nb:∀ {k:Nat} {t:Tk},(k,some t)∈brk H.ts->False:=fun m=>by
  unfold brk at m;obtain ⟨p,_,e⟩:=List.mem_map.mp m;cases e
 refine⟨_,?_,⟨qK _ (zD o.hp (.ins qW (hst H.room H.life H.q h.length (h.length+1)))),?_,?_,?_,fun k t m=>?_,?_,(fun k t m=>(nb m).elim),(fun k t k' t' m=>(nb m).elim),?_,fun p hp=>?_,o.r1,o.r2⟩,f,fun i hi=>?_⟩
 ·simp! only [tK,o.hp,qME,e1,g1,ch2,lG,show (8:Nat)<1000 by lia,qCg,g3,yA,e2,g4,qCf,s1]
 ·exact qK _ (by rw[List.getElem?_set_ne np.1];exact o.hq)
 ·show (h.set H.p _++_)[h.length]?=_;rw[List.getElem?_append_right (by rw[List.length_set];exact Nat.le_refl _),List.length_set,Nat.sub_self];rfl
 ·show (h.set H.p _++_)[h.length+1]?=_;rw[List.getElem?_append_right (by rw[List.length_set];lia),List.length_set,Nat.add_sub_cancel_left];rfl
 ·exact (nb m).elim
 ·show [H.p,H.q,h.length,h.length+1].Nodup;simp only[List.nodup_cons,List.mem_cons,List.not_mem_nil,or_false,not_or,not_false_eq_true,List.nodup_nil,and_true]
  exact⟨⟨np.1,by lia,by lia⟩,⟨by lia,by lia⟩,by lia⟩
 ·show ((brk H.ts).map (·.1)).Nodup;rw[qDV];exact o.kn
 ·have hp:p∈brk H.ts:=hp;unfold brk at hp;obtain ⟨q,hq,rfl⟩:=List.mem_map.mp hp;exact o.kb q hq
 ·unfold Own at hi;rw[show wR ({ H with gd:=h.length,td:=h.length+1,ts:=brk H.ts }:HR).ts=[] from qDU H.ts] at hi;simp only[List.mem_cons,List.not_mem_nil,or_false] at hi;rcases hi with rfl | rfl | rfl | rfl
  ·exact .inl (by unfold Own;simp)
  ·exact .inl (by unfold Own;simp)
  ·exact .inr (Nat.le_refl _)
  ·exact .inr (by lia)
theorem Hs.meet(o:Hs h H)(y:Nat)(v:Bool):Hs (h.set H.q (.ins zC (mtg H.life y v))) { H with yours:=y,met:=v }/\Nx h H (h.set H.q (.ins zC (mtg H.life y v))) { H with yours:=y,met:=v }:=by
 have n4:=o.n4;obtain ⟨n1,n2⟩:=List.nodup_cons.mp n4;obtain ⟨n3,_⟩:=List.nodup_cons.mp n2;have nq:H.p≠H.q:=fun e=>n1 (by rw[e];simp);have f:Fq [H.q] h (h.set H.q (.ins zC (mtg H.life y v))):=Fq.set (by simp) _ _;have k:∀ i,i∈[H.gd,H.td]->i∉[H.q]:=fun i hi e=>n3 (by rw[List.mem_singleton] at e;rw[<- e];exact hi);refine⟨⟨f.2 _ _ (by simpa using nq) o.hp,zD o.hq _,f.2 _ _ (k _ (by simp)) o.hg,f.2 _ _ (k _ (by simp)) o.ht,fun a t m=>(o.tk a t m).keep f fun i hi e=>o.dh a t m i hi (by rw[List.mem_singleton] at e;rw[e];simp),o.n4,o.dh,o.dj,o.kn,o.kb,o.r1,o.r2⟩,f.mono (fun i hi=>by rw[List.mem_singleton] at hi;rw[hi];unfold Own;simp),fun _ h=>.inl h⟩
end
section
variable {B n:Nat}{h:AH}{H:HR}
theorem lD(j:Nat)(xs:List D)(hg:getL h j=some xs)(hl:xs.length<=10)(hpc:∀ d∈xs,jK d)(x0 x1 x2 x3 x4 x5:Option D) :
  ∃ g i,qB (qA fns B (n+8)) B tE [x0,x1,x2,x3,x4,x5,some (.ref j)] h=.rt (.ref i) (h++g):=by
 obtain ⟨g,e3,lv⟩:=qBT (jH (den (qA fns B (n+8)) tF) [x0,x1,x2,x3,x4,x5,some (.ref j)]) wrD j xs h hg (by lia) (fun x hx G _=>by
  obtain ⟨g,e⟩:=bN B (n+1) (hpc x hx) G;refine⟨g,?_⟩;rw[yE]
  simp! only [tF,e])
 refine⟨g++[.lst (xs.map wrD)],(h++g).length,?_⟩;simp! only [tE,hg,if_pos lv,e3,newL,wJ,wF,List.length_map,if_pos (show xs.length<=16777216 by lia),List.append_assoc]
theorem qJ5(o:Hs h H)(hl:H.ts.length<=1000)(y m:Nat)(hy:H.yours<y)(hy2:y<=1000)(hm:m<=H.life)(hl1:1<=H.life)(hl2:H.life<=1000):∃ j h' H',qA fns B (n+9) qCe [.ref H.p,wrD (.tup [.str HELLO,.int y,.int m])] h=.ok (.ref j) h'/\Hs h' H'/\Nx h H h' H' /\
  H'.p=H.p/\H'.room=H.room/\H'.life=H.life/\H'.yours=y/\H'.ts=brk H.ts:=by
 rw[qDR];obtain ⟨g0,e0⟩:=qBZ B n (fS y m (by lia) (by lia) (by lia) (by lia)) (qCm (by decide) _) h;have H0:=o.app g0;have e1:qA fns B (n+8) 6 [.ref H.q,.tup [.str HELLO,.int y,.int m]] (h++g0)=.ok (.tup [.bl true,.bl ((m:Int) == (H.life:Int))]) ((h++g0).set H.q (.ins zC (mtg H.life y ((m:Int) == (H.life:Int))))):=qJ4 (n:=n+7) H0.hq (.str HELLO) y m hy hm;obtain ⟨H1,x1⟩:=H0.meet y ((m:Int) == (H.life:Int));generalize hG:(h++g0).set H.q (.ins zC (mtg H.life y ((m:Int) == (H.life:Int))))=G at e1 H1 x1;obtain ⟨h2,e2,H2,x2⟩:=qKD (B:=B) (n:=n+6) H1 hl;have xx:Nx h H h2 _:=((Nx.app H g0).trans x1).trans x2;generalize hH2:({ H with gd:=G.length,td:=G.length+1,yours:=y,met:=((m:Int) == (H.life:Int)),ts:=brk H.ts }:HR)=K;have H2:Hs h2 K:=by rw[<- hH2];exact H2
 have xx:Nx h H h2 K:=by rw[<- hH2];exact xx
 have kq:K.q=H.q:=by rw[<- hH2]
 have kp:K.p=H.p:=by rw[<- hH2]
 have kl:K.life=H.life:=by rw[<- hH2]
 have ky:K.yours=y:=by rw[<- hH2]
 have H3:=H2.app [.lst []]
 have e3:qA fns B (n+8) 8 [.ref H.q] (h2++[.lst []])=.ok (.tup [.str HELLO,.int H.life,.int y]) (h2++[.lst []]):=by
  have:=qJu (B:=B) (n:=n+7) H3.hq
  rw[kq,kl,ky] at this;exact this
 have hp3:=H3.hp;have hq3:=H3.hq;rw[kp] at hp3;rw[kq] at hp3 hq3;have hp1:=H1.hp
 have hpc:∀ d∈[D.tup [.str HELLO,.int H.life,.int y]],jK d:=fun d hd=>by
  rw[List.mem_singleton.mp hd];exact fS H.life y (by lia) (by lia) (by lia) (by lia)
 have i0:∀ u v:D,((ixN 2 0).bind fun j=>[u,v][j]?)=some u:=fun _ _=>rfl;have i1:∀ u v:D,((ixN 2 1).bind fun j=>[u,v][j]?)=some v:=fun _ _=>rfl;have ga:∀ xs:List D,getL (h2++[.lst xs]) h2.length=some xs:=fun xs=>by rw[jG];rfl
 have gb:∀ xs:List D,(h2++[O.lst xs])[h2.length]?=some (.lst xs):=fun xs=>by rw[zY];rfl
 have sb:∀ (xs:List D) (x:O),(h2++[O.lst xs]).set h2.length x=h2++[x]:=fun xs x=>by rw[wN];rfl
 cases z:((m:Int) == (H.life:Int)) with
 |false=>rw[z] at e1;obtain ⟨g4,i,e4⟩:=lD (B:=B) (n:=n) h2.length [D.tup [.str HELLO,.int H.life,.int y]] (ga _) (by simp) hpc (some (.ref H.p)) (some (wrD (.tup [.str HELLO,.int y,.int m]))) (some (.tup [.str HELLO,.int y,.int m])) (some (.tup [.bl true,.bl false])) (some (.bl true)) (some (.bl false));refine⟨i,h2++[.lst [D.tup [.str HELLO,.int H.life,.int y]]]++g4,K,?_,(H2.app _).app g4,(xx.trans (Nx.app K _)).trans (Nx.app K _),kp,by rw[<- hH2],kl,ky,by rw[<- hH2]⟩;generalize wrD (.tup [.str HELLO,.int y,.int m])=WX at *;generalize D.tup [.str HELLO,.int y,.int m]=X at *;generalize D.tup [.str HELLO,.int H.life,.int y]=Yy at *;simp! only [aE,eI,e0,eG,H0.hp,cD,H0.hq,fO,tbq,e1,eH,i0,i1,tI,hp1,qCl,tbh,e2,eE,tH,ga,hp3,hq3,qAv,e3,gb,sb,eF,e4]
 |true=>
  rw[z] at e1
  have e5:qA fns B (n+8) 67 [.ref H.p,.tup [.str HELLO,.int y,.int m]] (h2++[.lst [D.tup [.str HELLO,.int H.life,.int y]]])=.ok (.ref (h2.length+1)) (h2++[.lst [D.tup [.str HELLO,.int H.life,.int y]]]++[.lst []]):=by
   rw[qDP];have i0:((ixN 3 0).bind fun j=>[D.str HELLO,.int y,.int m][j]?)=some (.str HELLO):=rfl;have w1:(HELLO == [100,97,116,97])=false:=by decide
   have w2:(HELLO == [101,110,100])=false:=by decide
   have w3:(HELLO == [97,110,115,119,101,114])=false:=by decide
   have ln:(h2++[O.lst [D.tup [.str HELLO,.int H.life,.int y]]]).length=h2.length+1:=by simp
   generalize hh:h2++[O.lst [D.tup [.str HELLO,.int H.life,.int y]]]=W at *;simp! only [aB,i0,w1,w2,qEP,w3,qEQ,ln]
  have gc:∀ xs:List D,(h2++[O.lst xs]++[O.lst []])[h2.length]?=some (.lst xs):=fun xs=>qK _ (gb xs);have gd:∀ xs:List D,(h2++[O.lst xs]++[O.lst []])[h2.length+1]?=some (.lst []):=fun xs=>by rw[List.append_assoc,jT];rfl
  have sc:∀ (xs:List D),(h2++[O.lst xs]++[O.lst []]).set h2.length (.lst xs)=h2++[O.lst xs]++[O.lst []]:=fun xs=>vP (gc xs);obtain ⟨g4,i,e4⟩:=lD (B:=B) (n:=n) (h:=h2++[.lst [D.tup [.str HELLO,.int H.life,.int y]]]++[.lst []]) h2.length [D.tup [.str HELLO,.int H.life,.int y]] (jO _ (ga _)) (by simp) hpc (some (.ref H.p)) (some (wrD (.tup [.str HELLO,.int y,.int m]))) (some (.tup [.str HELLO,.int y,.int m])) (some (.tup [.bl true,.bl true])) (some (.bl true)) (some (.bl true));refine⟨i,h2++[.lst [D.tup [.str HELLO,.int H.life,.int y]]]++[.lst []]++g4,K,?_,((H2.app _).app _).app g4,((xx.trans (Nx.app K _)).trans (Nx.app K _)).trans (Nx.app K _),kp,by rw[<- hH2],kl,ky,by rw[<- hH2]⟩;have hp4:=(H2.app [.lst [D.tup [.str HELLO,.int H.life,.int y]]]).hp;rw[kp,kq] at hp4;generalize wrD (.tup [.str HELLO,.int y,.int m])=WX at *;generalize D.tup [.str HELLO,.int y,.int m]=X at *;generalize D.tup [.str HELLO,.int H.life,.int y]=Yy at *;simp! only [aE,eI,e0,eG,H0.hp,cD,H0.hq,fO,tbq,e1,eH,i0,i1,tI,hp1,qCl,tbh,e2,eE,tH,ga,hp3,hq3,qAv,e3,gb,sb,eF,tG,hp4,qCh,e5,gc,gd,List.append_nil,sc,e4]
end
def qQ(ts:TS)(k:Nat)(v:Option Tk):TS:=if k∈ts.map (·.1) then ts.map (fun p=>if p.1=k then (k,v) else p) else ts++[(k,v)]
theorem qKV(ts:TS)(k:Nat):((kvT ts).any fun kv=>decide (kv.1=.int (k:Int)))=decide (k∈ts.map (·.1)):=by
 rw[Bool.eq_iff_iff,decide_eq_true_eq,List.any_eq_true];unfold kvT;constructor
 ·rintro ⟨x,hx,e⟩
  obtain ⟨p,hp,rfl⟩:=List.mem_map.mp hx;rw[decide_eq_true_eq] at e;exact List.mem_map.mpr ⟨p,hp,by injection e with e;lia⟩
 ·intro h;obtain ⟨p,hp,e⟩:=List.mem_map.mp h
  exact⟨_,List.mem_map.mpr ⟨p,hp,rfl⟩,by rw[decide_eq_true_eq,e]⟩
theorem qKT(ts:TS)(k:Nat)(v:Option Tk):zE (kvT ts) (.int (k:Int)) (tvD v)=kvT (qQ ts k v):=by
 unfold qQ
 by_cases c:k∈ts.map (·.1)
 ·rw[if_pos c];unfold zE;rw[qKV,decide_eq_true c,if_pos rfl];unfold kvT;rw[List.map_map,List.map_map];refine List.map_congr_left fun p _=>?_;show (if Ky.int (p.1:Int)=.int (k:Int) then (Ky.int (p.1:Int),tvD v) else (Ky.int (p.1:Int),tvD p.2))=(Ky.int (((if p.1=k then (k,v) else p):Nat × Option Tk).1:Int),tvD ((if p.1=k then (k,v) else p):Nat × Option Tk).2)
  by_cases e:p.1=k
  ·rw[if_pos (by rw[e]),if_pos e,e]
  ·rw[if_neg (fun z=>e (by injection z with z;lia)),if_neg e]
 ·rw[if_neg c,qBt c]
theorem jQ(h:(j,w)∈qQ ts k v):(j=k/\w=v)\/((j,w)∈ts/\j≠k):=by
 unfold qQ at h;split at h
 ·obtain ⟨p,hp,e⟩:=List.mem_map.mp h
  by_cases c:p.1=k
  ·rw[if_pos c] at e;cases e;exact .inl ⟨rfl,rfl⟩
  ·rw[if_neg c] at e;subst e;exact .inr ⟨hp,c⟩
 ·rename_i c;rcases List.mem_append.mp h with h | h
  ·exact .inr ⟨h,fun e=>c (List.mem_map.mpr ⟨_,h,e⟩)⟩
  ·rw[List.mem_singleton] at h;cases h;exact .inl ⟨rfl,rfl⟩
theorem qAw(ts:TS)(k:Nat)(v:Option Tk):(qQ ts k v).map (·.1)=if k∈ts.map (·.1) then ts.map (·.1) else ts.map (·.1)++[k]:=by
 unfold qQ;split
 ·rw[List.map_map];refine List.map_congr_left fun p _=>?_;show ((if p.1=k then (k,v) else p):Nat × Option Tk).1=p.1;split
  ·rename_i e;exact e.symm
  ·rfl
 ·rw[List.map_append];rfl
theorem fR(k:Nat)(v:Option Tk)(h:(ts.map (·.1)).Nodup):((qQ ts k v).map (·.1)).Nodup:=by
 rw[qAw];split
 ·exact h
 ·rename_i c;exact List.nodup_append.mpr ⟨h,List.pairwise_singleton _ _,fun a ha b hb e=>by rw[List.mem_singleton] at hb;exact c (by rw[<- hb,<- e];exact ha)⟩
theorem qHH(ts:TS)(k:Nat)(v:Option Tk):(qQ ts k v).length<=ts.length+1:=by
 unfold qQ;split
 ·rw[List.length_map];lia
 ·rw[List.length_append];exact Nat.le_refl _
theorem wO(k:Nat)(v:Option Tk)(h:(ts.map (·.1)).Nodup)(j:Nat):lkT (qQ ts k v) j=if j=k then some v else lkT ts j:=by
 have nd:=fR k v h
 by_cases e:j=k
 ·rw[if_pos e];refine yQ nd ?_;subst e;unfold qQ;split
  ·rename_i c;obtain ⟨p,hp,e⟩:=List.mem_map.mp c;exact List.mem_map.mpr ⟨p,hp,if_pos e⟩
  ·simp
 ·rw[if_neg e];cases q:lkT ts j with
  |none=>
   rw[qKK] at q ⊢;rw[qAw];split
   ·exact q
   ·intro m;rcases List.mem_append.mp m with m | m
    ·exact q m
    ·exact e (List.mem_singleton.mp m)
  |some w=>
   refine yQ nd ?_;have m:=jR q;unfold qQ;split
   ·exact List.mem_map.mpr ⟨_,m,if_neg e⟩
   ·exact List.mem_append_left _ m
section
variable {B n:Nat}{h:AH}{H:HR}
theorem Hs.turn(o:Hs h H)(hk:lkT H.ts k=some (some t))(e1:t'.t=t.t)(e2:t'.sl=t.sl)(e3:t'.bd=t.bd)(f:Fq [t.t,t.sl,t.bd] h h')(ok:TkOk h' H.room t'):Hs h' { H with ts:=qQ H.ts k (some t') }/\Nx h H h' { H with ts:=qQ H.ts k (some t') }:=by
 have m:=jR hk;have eo:jB (some t')=jB (some t):=by show [t'.t,t'.sl,t'.bd]=[t.t,t.sl,t.bd];rw[e1,e2,e3]
 have f':Fq (jB (some t)) h h':=f;have nh:=o.dh k t m
 have kv:kvT (qQ H.ts k (some t'))=kvT H.ts:=by
  unfold qQ;rw[if_pos (List.mem_map.mpr ⟨_,m,rfl⟩)];unfold kvT;rw[List.map_map];refine List.map_congr_left fun p hp=>?_;show (Ky.int (((if p.1=k then (k,some t') else p):Nat × Option Tk).1:Int),tvD ((if p.1=k then (k,some t') else p):Nat × Option Tk).2)=_
  by_cases c:p.1=k
  ·rw[if_pos c]
   have:lkT H.ts p.1=some p.2:=yQ o.kn hp
   rw[c,hk] at this;rw[<- Option.some.inj this,c];show (Ky.int (k:Int),D.ref t'.t)=(Ky.int (k:Int),D.ref t.t);rw[e1]
  ·rw[if_neg c]
 refine⟨⟨f'.2 _ _ (fun z=>nh _ z (by simp)) o.hp,f'.2 _ _ (fun z=>nh _ z (by simp)) o.hq,f'.2 _ _ (fun z=>nh _ z (by simp)) o.hg,?_,fun j u mu=>?_,o.n4,fun j u mu=>?_,fun j u j' u' mu mu' ne i hi=>?_,fR _ _ o.kn,fun p hp=>?_,o.r1,o.r2⟩,f'.mono (fun i hi=>?_),fun i hi=>.inl ?_⟩
 ·show h'[H.td]?=some (.dct (kvT (qQ H.ts k (some t'))));rw[kv];exact f'.2 _ _ (fun z=>nh _ z (by simp)) o.ht
 ·rcases jQ mu with⟨_,z⟩ | ⟨z,z2⟩
  ·cases z;exact ok
  ·exact (o.tk j u z).keep f' fun i hi=>o.dj j u k t z m z2 i hi
 ·rcases jQ mu with⟨_,z⟩ | ⟨z,z2⟩
  ·cases z;rw[eo];exact nh
  ·exact o.dh j u z
 ·rcases jQ mu with⟨a,z⟩ | ⟨z,z2⟩
  ·cases z;rw[eo] at hi;rcases jQ mu' with⟨a',z'⟩ | ⟨z',z2'⟩
   ·exact absurd (a.trans a'.symm) ne
   ·exact o.dj k t j' u' m z' (fun e=>z2' e.symm) i hi
  ·rcases jQ mu' with⟨a',z'⟩ | ⟨z',z2'⟩
   ·cases z';rw[eo];exact o.dj j u k t z m z2 i hi
   ·exact o.dj j u j' u' z z' ne i hi
 ·obtain ⟨j,u⟩:=p;rcases jQ hp with⟨z,_⟩ | ⟨z,_⟩
  ·show j<50;rw[z];exact o.kb _ m
  ·exact o.kb _ z
 ·unfold Own;simp only[List.mem_cons];exact .inr (.inr (.inr (.inr (wQ m hi))))
 ·unfold Own at hi ⊢;simp only[List.mem_cons] at hi ⊢;rcases hi with z | z | z | z | z
  ·exact .inl z
  ·exact .inr (.inl z)
  ·exact .inr (.inr (.inl z))
  ·exact .inr (.inr (.inr (.inl z)))
  ·refine .inr (.inr (.inr (.inr ?_)));obtain ⟨j,u,mu,hu⟩:=bE z;rcases jQ mu with⟨_,z⟩ | ⟨z,z2⟩
   ·cases z;rw[eo] at hu;exact wQ m hu
   ·exact wQ z hu
theorem qBc(o:Hs h H)(k:Nat)(hk:k<50)(hl:H.ts.length<=1000):∃ h' H' t,qA fns B (n+3) qLo [.ref H.p,.int (k:Nat)] h=.ok (.ref t.t) h'/\Hs h' H'/\Nx h H h' H'/\H'={ H with ts:=H'.ts }/\lkT H'.ts k=some (some t)/\(∀ j,j≠k->lkT H'.ts j=lkT H.ts j)/\H'.ts.length<=H.ts.length+1 /\
  (lkT H.ts k=some (some t)\/(t.x=[]/\t.rd=0/\t.to=false/\∀ u,lkT H.ts k≠some (some u))):=by
 rw[qO2];have gn:=jU o.ht;have gk:yX H.td (.int (k:Nat)) h=.ok (((lkT H.ts k).map tvD).getD .non) h:=by unfold yX;rw[o.ht];simp only[yS]
 by_cases q:∃ t,lkT H.ts k=some (some t)
 ·obtain ⟨t,q⟩:=q;rw[q] at gk;have gk:yX H.td (.int (k:Nat)) h=.ok (.ref t.t) h:=gk;have ik:ixK H.td (.int (k:Nat)) h=.ok (.ref t.t) h:=by unfold ixK;rw[o.ht];simp only[yS,q];rfl
  refine⟨h,H,t,?_,o,⟨Fq.refl _ _,fun _ z=>.inl z⟩,rfl,q,fun _ _=>rfl,by lia,.inl q⟩;simp! only [eC,o.hp,yA,o.ht,gk,sU,gn,Option.bind_none,ik]
 ·have gk:yX H.td (.int (k:Nat)) h=.ok .non h:=by
   rw[gk];cases z:lkT H.ts k with
   |none=>rfl
   |some v=>
    cases v with
    |none=>rfl
    |some t=>exact absurd ⟨t,z⟩ q
  have mk:=qJk B n h H.room
  let t:Tk:=⟨h.length,h.length+1,h.length+2,[],0,false⟩
  generalize hG:h++[O.ins qP (tk H.room (h.length+1) .non [] 0 H.room false),.ins zH (fl [] [] (h.length+2)),.dct []]=G at mk;have gd:G[H.td]?=some (.dct (kvT H.ts)):=by rw[<- hG];exact qK _ o.ht
  have gp:G[H.p]?=some (.ins qW (hst H.room H.life H.q H.gd H.td)):=by rw[<- hG];exact qK _ o.hp
  have g0:∀ j,G[h.length+j]?=[O.ins qP (tk H.room (h.length+1) .non [] 0 H.room false),.ins zH (fl [] [] (h.length+2)),.dct []][j]?:=fun j=>by rw[<- hG,jT]
  have lt:∀ {i:Nat},i∈Own H->i<h.length:=fun hi=>o.lt hi
  have pk:kN (.ref h.length) H.td (.int (k:Nat)) G=.ok () (G.set H.td (.dct (kvT (qQ H.ts k (some t))))):=by
   unfold kN;rw[gd];simp only[iI,if_pos (show H.ts.length<16777216 by lia)];rw[show D.ref h.length=tvD (some t) from rfl,qKT]
  have g1:=zD gd (.dct (kvT (qQ H.ts k (some t))));have nd:=o.n4;have ntp:H.td≠H.p:=fun e=>(List.nodup_cons.mp nd).1 (by rw[<- e];simp);have gp1:(G.set H.td (.dct (kvT (qQ H.ts k (some t)))))[H.p]?=some (.ins qW (hst H.room H.life H.q H.gd H.td)):=by rw[List.getElem?_set_ne ntp];exact gp
  have gn1:=jU g1;have lk:=wO k (some t) o.kn
  have ik:ixK H.td (.int (k:Nat)) (G.set H.td (.dct (kvT (qQ H.ts k (some t)))))=.ok (.ref h.length) (G.set H.td (.dct (kvT (qQ H.ts k (some t))))):=by
   unfold ixK;rw[g1];simp only[yS,lk k,if_pos rfl];rfl
  have f:Fq [H.td] h (G.set H.td (.dct (kvT (qQ H.ts k (some t))))):=by
   rw[<- hG];exact (Fq.app _ _ _).trans (Fq.set (by simp) _ _)
  have tlt:H.td<h.length:=lt (by unfold Own;simp);have old:∀ {j:Nat} {u:Tk},(j,some u)∈H.ts->∀ i∈jB (some u),i<h.length:=fun m i hi=>lt (by unfold Own;simp only[List.mem_cons];exact .inr (.inr (.inr (.inr (wQ m hi)))))
  have new:∀ i∈jB (some t),h.length<=i:=fun i hi=>by
   simp only[jB,List.mem_cons,List.not_mem_nil,or_false] at hi;rcases hi with rfl | rfl | rfl
   ·exact Nat.le_refl _
   ·exact Nat.le_succ _
   ·exact Nat.le_add_right _ _
  have kQ:∀ i∈[H.p,H.q,H.gd,H.td],i<h.length:=fun i hi=>lt (by unfold Own;simp only[List.mem_cons,List.not_mem_nil,or_false] at hi ⊢;rcases hi with z | z | z | z <;> simp[z])
  have ntq:H.td≠H.q/\H.td≠H.gd:=by
   simp only[List.nodup_cons,List.mem_cons,List.not_mem_nil,or_false,not_or] at nd
   exact⟨fun e=>nd.2.1.2 e.symm,fun e=>nd.2.2.1 e.symm⟩
  refine⟨_,{ H with ts:=qQ H.ts k (some t) },t,?_,⟨gp1,?_,?_,g1,fun j u mu=>?_,o.n4,fun j u mu=>?_,fun j u j' u' mu mu' ne i hi=>?_,fR _ _ o.kn,fun p hp=>?_,o.r1,o.r2⟩,⟨f.mono (fun i hi=>by rw[List.mem_singleton] at hi;rw[hi];unfold Own;simp),fun i hi=>?_⟩,rfl,by rw[lk k,if_pos rfl],fun j hj=>by rw[lk j,if_neg hj],qHH _ _ _,.inr ⟨rfl,rfl,rfl,fun u z=>q ⟨u,z⟩⟩⟩
  ·simp! only [eC,o.hp,yA,o.ht,gk,qEO,qMC,mk,gp,gd,pk,sU,gp1,gn1,Option.bind_none,ik] <;> rfl
  ·exact f.2 _ _ (by simpa using ntq.1.symm) o.hq
  ·exact f.2 _ _ (by simpa using ntq.2.symm) o.hg
  ·rcases jQ mu with⟨_,z⟩ | ⟨z,z2⟩
   ·cases z;have g2:∀ j,(G.set H.td (.dct (kvT (qQ H.ts k (some t)))))[h.length+j]?=[O.ins qP (tk H.room (h.length+1) .non [] 0 H.room false),.ins zH (fl [] [] (h.length+2)),.dct []][j]?:=fun j=>by rw[List.getElem?_set_ne (by lia)];exact g0 j
    exact⟨by have:=g2 0;rw[Nat.add_zero] at this;rw[this];show some (O.ins qP (tk H.room (h.length+1) .non [] 0 H.room false))=some (O.ins qP (tk H.room (h.length+1) .non [] ((0:Nat):Int) ((0+H.room:Nat):Int) (false&&_)));rw[Nat.zero_add];rfl,g2 1,g2 2,Nat.zero_le _,Nat.zero_le _⟩
   ·exact (o.tk j u z).keep f fun i hi e=>o.dh j u z i hi (by rw[List.mem_singleton] at e;rw[e];simp)
  ·rcases jQ mu with⟨_,z⟩ | ⟨z,z2⟩
   ·cases z;intro i hi e
    have:=new i hi
    have:=kQ i e
    lia
   ·exact o.dh j u z
  ·rcases jQ mu with⟨a,z⟩ | ⟨z,z2⟩
   ·cases z;rcases jQ mu' with⟨a',z'⟩ | ⟨z',z2'⟩
    ·exact absurd (a.trans a'.symm) ne
    ·intro e
     have:=new i hi
     have:=old z' i e
     lia
   ·rcases jQ mu' with⟨a',z'⟩ | ⟨z',z2'⟩
    ·cases z';intro e
     have:=new i e
     have:=old z i hi
     lia
    ·exact o.dj j u j' u' z z' ne i hi
  ·obtain ⟨j,u⟩:=p;rcases jQ hp with⟨z,_⟩ | ⟨z,_⟩
   ·show j<50;rw[z];exact hk
   ·exact o.kb _ z
  ·unfold Own at hi ⊢;simp only[List.mem_cons] at hi ⊢;rcases hi with z | z | z | z | z
   ·exact .inl (.inl z)
   ·exact .inl (.inr (.inl z))
   ·exact .inl (.inr (.inr (.inl z)))
   ·exact .inl (.inr (.inr (.inr (.inl z))))
   ·obtain ⟨j,u,mu,hu⟩:=bE z;rcases jQ mu with⟨_,z⟩ | ⟨z,z2⟩
    ·cases z;exact .inr (new i hu)
    ·exact .inl (.inr (.inr (.inr (.inr (wQ z hu)))))
end
def cur(H:HR)(k:Nat):Tx × Nat × Bool:=match lkT H.ts k with
 |some (some t)=>(t.x,t.rd,t.to)
 |_=>([],0,false)
theorem gN(h:lkT H.ts k=some (some t)):cur H k=(t.x,t.rd,t.to):=by unfold cur;rw[h]
theorem qC7(h:∀ u,lkT H.ts k≠some (some u)):cur H k=([],0,false):=by
 unfold cur;split
 ·rename_i t e;exact absurd e (h t)
 ·rfl
theorem ne1:((358300611685:Nat) == qP)=false:=by decide
theorem tb1(k:Nat):tbN [(362411681138,k)] qP=some k:=rfl
structure Tn (H H':HR) (k:Nat) (c:Tx × Nat × Bool):Prop where
 e:H'={ H with met:=H'.met,ts:=H'.ts }
 t:∃ t,lkT H'.ts k=some (some t)
 c:cur H' k=c
 o:∀ j,j≠k->lkT H'.ts j=lkT H.ts j
 l:H'.ts.length<=H.ts.length+1
section
variable {B n:Nat}{h:AH}{H:HR}
theorem qBj(o:Hs h H)(hk:k<50)(ht:lkT H.ts k=some (some t))(hy:1<=H.yours)(hy2:H.yours<=1000)(hl:1<=H.life)(hl2:H.life<=1000)(x1:Option D) :
  ∃ d,jK d/\qB (qA fns B (n+2)) B aD [some (.ref H.p),x1,some (.int (k:Nat)),some (.ref t.t)] h=.rt (.ref h.length) (h++[.lst [d]]):=by
 have ok:=o.tk k t (jR ht);obtain ⟨c,hc,e⟩:=qJm (B:=B) (n:=n+1) ok;have lr:=ok.lr;have lx:=ok.lx;have r2:=o.r2
 have po:∀ a b c:D,qA fns B (n+2) 64 [.ref H.p,.int (k:Nat),.tup [.str ANS,a,b,c]] h=.ok (.tup [.str ANS,.int H.life,.int H.yours,.int (k:Nat),a,b,c]) h:=fun a b c=>by
  rw[qO4];have c1:qN [D.str ANS,a,b,c] none (some 1)=[.str ANS]:=rfl;have c2:qN [D.str ANS,a,b,c] (some 1) none=[a,b,c]:=rfl;simp! only [sV,c1,c2,o.hp,cD,o.hq,uU,uT,if_pos (show 4+3<=16777216 by lia)]
 refine⟨.tup [.str ANS,.int H.life,.int H.yours,.int (k:Nat),.int c,.int ((t.rd+H.room:Nat):Int),.tup []],qHP (qBJ (by lia) (by lia) (by lia) (by lia) (by lia) (by lia)) c _ (by lia) (by lia) (by lia) (by lia),?_⟩;have po:=po (.int c) (.int ((t.rd+H.room:Nat):Int)) (.tup []);have an:D.str [97,110,115,119,101,114]=.str ANS:=rfl;simp! only [aD,ok.ht,qFR,tb1,e,an,o.hp,qL3,tbh,po]
theorem qKA(hB:1<=B)(o:Hs h H)(hl:H.ts.length<=900)(hy:1<=H.yours)(hy2:H.yours<=1000)(hl1:1<=H.life)(hl2:H.life<=1000)(hk:k<50)(u v:D)(at':Nat)(y:Tx)(hat:at'<=(cur H k).1.length)(hya:at'+y.length<=60) :
  ∃ j h' H' d,qA fns B (n+6) lA [.ref H.p,.tup [.str DATA,u,v,.int (k:Nat),.int (at':Nat),.str y]] h=.ok (.ref j) h'/\h'[j]?=some (.lst [d])/\jK d/\h.length<=j/\Hs h' H'/\Nx h H h' H'/\Tn H H' k ((cur H k).1++y.drop ((cur H k).1.length-at'),(cur H k).2):=by
 rw[qDQ];obtain ⟨h1,H1,t,e1,o1,x1,q1,lk1,ot1,ln1,or1⟩:=qBc (B:=B) (n:=n+2) o k hk (by lia)
 have ct:cur H k=(t.x,t.rd,t.to):=by
  rcases or1 with z | ⟨z1,z2,z3,z4⟩
  ·exact gN z
  ·rw[qC7 z4,z1,z2,z3]
 have hp1:H1.p=H.p:=by rw[q1]
 have hy1:H1.yours=H.yours:=by rw[q1]
 have hf1:H1.life=H.life:=by rw[q1]
 have ok:=o1.tk k t (jR lk1);rw[ct] at hat;obtain ⟨h2,e2,ok2,f2⟩:=qJi (B:=B) (n:=n) hB ok o1.r1 at' y hat hya;obtain ⟨o2,x2⟩:=o1.turn (t':={ t with x:=t.x++y.drop (t.x.length-at') }) lk1 rfl rfl rfl f2 ok2;have lk2:lkT (qQ H1.ts k (some { t with x:=t.x++y.drop (t.x.length-at') })) k=some (some { t with x:=t.x++y.drop (t.x.length-at') }):=by rw[wO _ _ o1.kn,if_pos rfl]
 obtain ⟨d,pd,e3⟩:=qBj (B:=B) (n:=n+3) o2 hk lk2 (by show 1<=H1.yours;lia) (by show H1.yours<=1000;lia) (by show 1<=H1.life;lia) (by show H1.life<=1000;lia) (some (.tup [.str DATA,u,v,.int (k:Nat),.int (at':Nat),.str y]));have e3:qB (qA fns B (n+5)) B aD [some (.ref H1.p),some (.tup [.str DATA,u,v,.int (k:Nat),.int (at':Nat),.str y]),some (.int (k:Nat)),some (.ref t.t)] h2=.rt (.ref h2.length) (h2++[.lst [d]]):=e3;rw[hp1] at e3;have xx:=(x1.trans x2).trans (Nx.app _ [.lst [d]]);refine⟨h2.length,h2++[.lst [d]],{ H1 with ts:=qQ H1.ts k (some { t with x:=t.x++y.drop (t.x.length-at') }) },d,?_,by rw[zY];rfl,pd,Nat.le_trans x1.1.1 x2.1.1,o2.app _,xx,⟨by rw[q1],⟨_,lk2⟩,?_,fun j hj=>?_,?_⟩⟩
 ·have i3:((ixN 6 3).bind fun j=>[D.str DATA,u,v,.int (k:Nat),.int (at':Nat),.str y][j]?)=some (.int (k:Nat)):=rfl;have i0:((ixN 6 0).bind fun j=>[D.str DATA,u,v,.int (k:Nat),.int (at':Nat),.str y][j]?)=some (.str DATA):=rfl;have i4:((ixN 6 4).bind fun j=>[D.str DATA,u,v,.int (k:Nat),.int (at':Nat),.str y][j]?)=some (.int (at':Nat)):=rfl;have i5:((ixN 6 5).bind fun j=>[D.str DATA,u,v,.int (k:Nat),.int (at':Nat),.str y][j]?)=some (.str y):=rfl;have d1:decide ((50:Int)<=((k:Nat):Int))=false:=decide_eq_false (by lia);have w:(DATA == [100,97,116,97])=true:=by decide
  simp! only [eD,i3,d1,sW,o.hp,qCk,tbh,e1,i0,w,qES,ok.ht,qFP,ne1,i4,i5,e2,e3]
 ·rw[gN lk2,ct]
 ·show lkT (qQ H1.ts k _) j=_;rw[wO _ _ o1.kn,if_neg hj];exact ot1 j hj
 ·show (qQ H1.ts k _).length<=_;unfold qQ;rw[if_pos (List.mem_map.mpr ⟨_,jR lk1,rfl⟩),List.length_map];exact ln1
theorem qJ9(o:Hs h H)(hl:H.ts.length<=900)(hy:1<=H.yours)(hy2:H.yours<=1000)(hl1:1<=H.life)(hl2:H.life<=1000)(hk:k<50)(u v:D) :
  ∃ j h' H' d,qA fns B (n+6) lA [.ref H.p,.tup [.str ENDW,u,v,.int (k:Nat),.int 60]] h=.ok (.ref j) h'/\h'[j]?=some (.lst [d])/\jK d/\h.length<=j/\Hs h' H'/\Nx h H h' H'/\Tn H H' k ((cur H k).1,(cur H k).2.1,true):=by
 rw[qDQ];obtain ⟨h1,H1,t,e1,o1,x1,q1,lk1,ot1,ln1,or1⟩:=qBc (B:=B) (n:=n+2) o k hk (by lia)
 have ct:cur H k=(t.x,t.rd,t.to):=by
  rcases or1 with z | ⟨z1,z2,z3,z4⟩
  ·exact gN z
  ·rw[qC7 z4,z1,z2,z3]
 have hp1:H1.p=H.p:=by rw[q1]
 have hy1:H1.yours=H.yours:=by rw[q1]
 have hf1:H1.life=H.life:=by rw[q1]
 have ok:=o1.tk k t (jR lk1);obtain ⟨h2,e2,ok2,f2⟩:=qJl (B:=B) (n:=n+3) ok;obtain ⟨o2,x2⟩:=o1.turn (t':={ t with to:=true }) lk1 rfl rfl rfl f2 ok2;have lk2:lkT (qQ H1.ts k (some { t with to:=true })) k=some (some { t with to:=true }):=by rw[wO _ _ o1.kn,if_pos rfl]
 obtain ⟨d,pd,e3⟩:=qBj (B:=B) (n:=n+3) o2 hk lk2 (by show 1<=H1.yours;lia) (by show H1.yours<=1000;lia) (by show 1<=H1.life;lia) (by show H1.life<=1000;lia) (some (.tup [.str ENDW,u,v,.int (k:Nat),.int 60]));have e3:qB (qA fns B (n+5)) B aD [some (.ref H1.p),some (.tup [.str ENDW,u,v,.int (k:Nat),.int 60]),some (.int (k:Nat)),some (.ref t.t)] h2=.rt (.ref h2.length) (h2++[.lst [d]]):=e3;rw[hp1] at e3;have xx:=(x1.trans x2).trans (Nx.app _ [.lst [d]]);refine⟨h2.length,h2++[.lst [d]],{ H1 with ts:=qQ H1.ts k (some { t with to:=true }) },d,?_,by rw[zY];rfl,pd,Nat.le_trans x1.1.1 x2.1.1,o2.app _,xx,⟨by rw[q1],⟨_,lk2⟩,?_,fun j hj=>?_,?_⟩⟩
 ·have i3:((ixN 5 3).bind fun j=>[D.str ENDW,u,v,.int (k:Nat),.int 60][j]?)=some (.int (k:Nat)):=rfl;have i0:((ixN 5 0).bind fun j=>[D.str ENDW,u,v,.int (k:Nat),.int 60][j]?)=some (.str ENDW):=rfl;have i4:((ixN 5 4).bind fun j=>[D.str ENDW,u,v,.int (k:Nat),.int 60][j]?)=some (.int 60):=rfl;have d1:decide ((50:Int)<=((k:Nat):Int))=false:=decide_eq_false (by lia);have w:(ENDW == [100,97,116,97])=false:=by decide
  simp! only [eD,i3,d1,sW,o.hp,qCk,tbh,e1,i0,w,qER,ok.ht,qFQ,tb1,i4,e2,e3]
 ·rw[gN lk2,ct]
 ·show lkT (qQ H1.ts k _) j=_;rw[wO _ _ o1.kn,if_neg hj];exact ot1 j hj
 ·show (qQ H1.ts k _).length<=_;unfold qQ;rw[if_pos (List.mem_map.mpr ⟨_,jR lk1,rfl⟩),List.length_map];exact ln1
theorem qBg(o:Hs h H)(ds:List D)(kd:Tx)(r:List D)(hds:ds=.str kd::r)(hk:kd=DATA\/kd=ENDW)(hp:jK (.tup ds))(i0:((ixN ds.length 0).bind fun j=>ds[j]?)=some (.str kd))(i1:((ixN ds.length 1).bind fun j=>ds[j]?)=some (.int H.yours))(i2:((ixN ds.length 2).bind fun j=>ds[j]?)=some (.int H.life))(k:Nat)(c:Tx × Nat × Bool)
  (hT:∀ (h:AH) (H1:HR),Hs h H1->H1={ H with met:=true }->∃ j h' H' d,qA fns B (n+7) lA [.ref H.p,.tup ds] h=.ok (.ref j) h'/\h'[j]?=some (.lst [d])/\jK d/\h.length<=j/\Hs h' H'/\Nx h H1 h' H'/\Tn H1 H' k c) :
  ∃ j h' H',qA fns B (n+9) qCe [.ref H.p,wrD (.tup ds)] h=.ok (.ref j) h'/\Hs h' H'/\Nx h H h' H'/\Tn H H' k c:=by
 rw[qDR];obtain ⟨g0,e0⟩:=qBZ B n hp (by rw[hds];exact qCm (by rcases hk with rfl | rfl <;> decide) _) h;have H0:=o.app g0;have e1:qA fns B (n+8) 6 [.ref H.q,.tup ds] (h++g0)=.ok (.tup [.bl false,.bl true]) ((h++g0).set H.q (.ins zC (mtg H.life H.yours true))):=qJ3 (n:=n+7) H0.hq ds i1 i2;obtain ⟨H1,x1⟩:=H0.meet H.yours true;generalize hG:(h++g0).set H.q (.ins zC (mtg H.life H.yours true))=G at e1 H1 x1;have H2:=H1.app [.lst []];obtain ⟨j,h3,H3,d,e3,gj,pd,lj,o3,x3,T3⟩:=hT (G++[.lst []]) _ H2 rfl;have hp2:=H2.hp
 have tk:qA fns B (n+8) 67 [.ref H.p,.tup ds] (G++[.lst []])=.ok (.ref j) h3:=by
  rw[qDP];rcases hk with rfl | rfl
  ·have w1:(DATA == [100,97,116,97])=true:=by decide
   simp! only [aB,i0,w1,hp2,qCj,tbh,e3]
  ·have w1:(ENDW == [100,97,116,97])=false:=by decide
   have w2:(ENDW == [101,110,100])=true:=by decide
   simp! only [aB,i0,w1,w2,hp2,qCj,tbh,e3]
 have ga:(G++[O.lst []])[G.length]?=some (.lst []):=by rw[zY];rfl
 have gl:getL (G++[O.lst []]) G.length=some []:=by rw[jG];rfl
 have nG:G.length∉Own ({ H with met:=true }:HR):=fun z=>by have:=H1.lt z;lia
 have g3:h3[G.length]?=some (.lst []):=x3.1.2 _ _ nG ga;have gl3:getL (h3.set G.length (.lst [d])) G.length=some [d]:=by unfold getL;rw[zD g3]
 have o4:Hs (h3.set G.length (.lst [d])) H3:=by
  have f:Fq [G.length] h3 (h3.set G.length (.lst [d])):=Fq.set (by simp) _ _
  have ni:∀ i∈Own H3,i∉[G.length]:=fun i hi e=>by
   rw[List.mem_singleton] at e
   have:=x3.2 i hi
   rw[e] at this;rcases this with z | z
   ·exact nG z
   ·rw[List.length_append] at z
    have:([O.lst []]:AH).length=1:=rfl
    lia
  exact⟨f.2 _ _ (ni _ (by unfold Own;simp)) o3.hp,f.2 _ _ (ni _ (by unfold Own;simp)) o3.hq,f.2 _ _ (ni _ (by unfold Own;simp)) o3.hg,f.2 _ _ (ni _ (by unfold Own;simp)) o3.ht,fun a t m=>(o3.tk a t m).keep f fun i hi=>ni i (by unfold Own;simp only[List.mem_cons];exact .inr (.inr (.inr (.inr (wQ m hi))))),o3.n4,o3.dh,o3.dj,o3.kn,o3.kb,o3.r1,o3.r2⟩
 obtain ⟨g4,i,e4⟩:=lD (B:=B) (n:=n) (h:=h3.set G.length (.lst [d])) G.length [d] gl3 (by simp) (fun x hx=>by rw[List.mem_singleton.mp hx];exact pd) (some (.ref H.p)) (some (wrD (.tup ds))) (some (.tup ds)) (some (.tup [.bl false,.bl true])) (some (.bl false)) (some (.bl true));have lgG:h.length<=G.length:=by rw[<- hG,List.length_set,List.length_append];lia
 have x01:Nx h H (G++[.lst []]) { H with met:=true }:=((Nx.app H g0).trans x1).trans (Nx.app _ _);have x03:Nx h H h3 H3:=x01.trans x3;refine⟨i,h3.set G.length (.lst [d])++g4,H3,?_,o4.app g4,⟨⟨?_,fun a b na e=>?_⟩,x03.2⟩,⟨T3.e,T3.t,T3.c,T3.o,T3.l⟩⟩
 ·have j0:∀ u v:D,((ixN 2 0).bind fun j=>[u,v][j]?)=some u:=fun _ _=>rfl;have j1:∀ u v:D,((ixN 2 1).bind fun j=>[u,v][j]?)=some v:=fun _ _=>rfl;generalize wrD (.tup ds)=WX at *;simp! only [aE,eI,e0,eG,H0.hp,cD,H0.hq,fO,tbq,e1,eH,j0,j1,eE,eF,tG,gl,hp2,qCh,tbh,tk,g3,gj,List.nil_append,e4]
 ·rw[List.length_append,List.length_set];have:=x03.1.1;lia
 ·have la:=(List.getElem?_eq_some_iff.mp e).1;exact qK _ (by rw[List.getElem?_set_ne (by lia)];exact x03.1.2 a b na e)
end
section
variable {B n:Nat}{h:AH}{H:HR}
theorem qJ6(ht:h[td]?=some (.dct kvs))(k:Nat):qA fns B (n+1) qLa [.ref td,.int (k:Nat)] h=(match qH kvs (.int (k:Nat)) with
  |none=>.exc aH h
  |some .non=>.exc aI h
  |some d=>.ok d h):=by
 rw[qOi];have g:=jU ht;cases q:qH kvs (.int (k:Nat)) with
 |none=>simp! only [dM,g,Option.bind_none,kE,ht,q,Option.isSome_none,Bool.not_false] <;> rfl
 |some d=>cases d <;> (simp! only [dM,g,Option.bind_none,kE,ht,q,Option.isSome_some,Bool.not_true,qD5,ixK,qD6] <;> rfl)
theorem wW(o:Hs h H)(k:Nat):qA fns B (n+2) yW [.ref H.p,.int (k:Nat)] h=(match lkT H.ts k with
  |none=>.exc aH h
  |some none=>.exc aI h
  |some (some t)=>.ok (.ref t.t) h):=by
 rw[qO3];have f:=qJ6 (B:=B) (n:=n) o.ht k;rw[yS] at f;cases q:lkT H.ts k with
 |none=>rw[q] at f;have f:qA fns B (n+1) 46 [.ref H.td,.int (k:Nat)] h=.exc aH h:=f;simp! only [aA,o.hp,yA,f]
 |some v=>
  cases v with
  |none=>rw[q] at f;have f:qA fns B (n+1) 46 [.ref H.td,.int (k:Nat)] h=.exc aI h:=f;simp! only [aA,o.hp,yA,f]
  |some t=>rw[q] at f;have f:qA fns B (n+1) 46 [.ref H.td,.int (k:Nat)] h=.ok (.ref t.t) h:=f;simp! only [aA,o.hp,yA,f]
theorem tbt:tbN [(362411681138,43),(1215263604,56)] qP=some 43:=rfl
theorem qAE:((362411681138:Nat) == qW)=false:=by decide
theorem qJo(o:Hs h H)(k:Nat)(c:Int)(e:Nat)(he:qA fns B (n+2) yW [.ref H.p,.int (k:Nat)] h=.exc e h):qA fns B (n+3) cB [.ref H.p,.int (k:Nat),.int c] h=.exc e h:=by
 rw[pK];simp! only [aC,o.hp,gF,tbh,he]
theorem qJp(o:Hs h H)(hk:lkT H.ts k=some (some t))(c:Nat)(hc:¬ (1<=c/\c<=200)):qA fns B (n+3) cB [.ref H.p,.int (k:Nat),.int (c:Nat)] h=.exc zZ h:=by
 rw[pK]
 have he:qA fns B (n+2) 53 [.ref H.p,.int (k:Nat)] h=.ok (.ref t.t) h:=by
  have:=wW (B:=B) (n:=n) o k
  rw[hk] at this;exact this
 have e2:qA fns B (n+2) 43 [.ref t.t,.int (c:Nat)] h=.exc zZ h:=qJj (n:=n+1) c hc t.t;simp! only [aC,o.hp,gF,tbh,he,(o.tk k t (jR hk)).ht,qAB,tbt,e2]
theorem qJn(o:Hs h H)(hk:lkT H.ts k=some (some t))(c:Nat)(hc:1<=c)(hc2:c<=200):∃ h' t',qA fns B (n+3) cB [.ref H.p,.int (k:Nat),.int (c:Nat)] h=.ok (.str ((t.x.drop t.rd).take c)) h'/\t'={ t with rd:=t.rd+((t.x.drop t.rd).take c).length }/\Hs h' { H with ts:=qQ H.ts k (some t') }/\Nx h H h' { H with ts:=qQ H.ts k (some t') }:=by
 rw[pK];have ok:=o.tk k t (jR hk)
 have he:qA fns B (n+2) 53 [.ref H.p,.int (k:Nat)] h=.ok (.ref t.t) h:=by
  have:=wW (B:=B) (n:=n) o k
  rw[hk] at this;exact this
 obtain ⟨h',e2,ok2,f⟩:=qJh (B:=B) (n:=n) ok c hc hc2;obtain ⟨o2,x2⟩:=o.turn (t':={ t with rd:=t.rd+((t.x.drop t.rd).take c).length }) hk rfl rfl rfl f ok2;refine⟨h',_,?_,rfl,o2,x2⟩;generalize (t.x.drop t.rd).take c=y at *;simp! only [aC,o.hp,gF,tbh,he,ok.ht,qAB,tbt,e2]
def jV(c:Nat):List D:=[.bl (([73059263014254]:List Nat).contains c),.bl (([5651827816973820269]:List Nat).contains c),.bl (([23766421875286888]:List Nat).contains c)]
theorem qBd(hp:h[p]?=some (.ins qW (hst r l q gd td)))(k:Nat)(c:Int)(e:Nat)(hc:FE.contains e=true)(he:qA fns B n cB [.ref p,.int (k:Nat),.int c] h=.exc e h) :
  qA fns B (n+1) qLP [.ref p,.int (k:Nat),.int c] h=.ok (.ref (h.length+1)) (h++[.xc e,.lst (jV e)]):=by
 rw[qDK];have hc:(FE:List Nat).contains e=true:=hc;have l1:(h++[O.xc e]).length=h.length+1:=by simp
 have g1:(h++[O.xc e])[h.length]?=some (.xc e):=by rw[zY];rfl
 simp! only [dE,pY,hp,qCi,qAE,he,hc,qDr,g1,l1,List.append_assoc] <;> rfl
theorem qKG(hp:h[p]?=some (.ins qW (hst r l q gd td)))(k:Nat)(e:Nat)(hc:FE.contains e=true)(he:qA fns B n yW [.ref p,.int (k:Nat)] h=.exc e h) :
  qA fns B (n+1) qCa [.ref p,.int (k:Nat)] h=.ok (.ref (h.length+1)) (h++[.xc e,.lst (jV e)]):=by
 rw[qDL];have hc:(FE:List Nat).contains e=true:=hc;have l1:(h++[O.xc e]).length=h.length+1:=by simp
 have g1:(h++[O.xc e])[h.length]?=some (.xc e):=by rw[zY];rfl
 simp! only [dG,rA,hp,gF,tbh,he,hc,qDv,g1,l1,List.append_assoc] <;> rfl
theorem qBi(o:Hs h H){k:Nat}{t:Tk}(hk:lkT H.ts k=some (some t)):qA fns B (n+3) qCa [.ref H.p,.int (k:Nat)] h=.ok (.tup [.str t.x]) h:=by
 rw[qDL]
 have he:qA fns B (n+2) 53 [.ref H.p,.int (k:Nat)] h=.ok (.ref t.t) h:=by
  have:=wW (B:=B) (n:=n) o k
  rw[hk] at this;exact this
 simp! only [dG,rA,o.hp,gF,tbh,he,(o.tk k t (jR hk)).ht,yH,if_pos (show 1<=16777216 by lia)]
end
def wk(ts:TS):List Nat:=(ts.filter fun p=>p.2.isSome).map (·.1)
def zN(l:List Nat):List Int:=l.map fun k:Nat=>(k:Int)
theorem qCR:∀ l:List Int,zX (l.map .int)=some l
 | []=>rfl
 |x::r=>by show (zX (r.map .int)).map (x::·)=_;rw[qCR r];rfl
theorem qAT(l:List Int):(zO l).length=l.length:=(yM l).length_eq
theorem qBU(f:D->M (Option D))(g:D->Option D)(h:AH):∀ xs:List D,(∀ x∈xs,f x h=.ok (g x) h)->zG f xs h=.ok (xs.filterMap g) h
 | [],_=>rfl
 |x::xs,H=>by
  have h1:=H x (List.mem_cons_self ..);have h2:=qBU f g h xs fun y hy=>H y (List.mem_cons_of_mem _ hy);unfold zG;simp only[M.bind_eq,h1,R.bind_ok,h2,M.ret_eq];cases q:g x with
  |none=>rw[List.filterMap_cons_none q]
  |some y=>rw[List.filterMap_cons_some q]
theorem qKU(ts:TS):jE (kvT ts)=ts.map fun p:Nat × Option Tk=>D.int p.1:=by unfold jE kvT;rw[List.map_map];rfl
section
variable {B n:Nat}{h:AH}{H:HR}
def bR(ts:TS)(d:D):Option D:=match d with
 | .int i=>match lkT ts i.toNat with
  |some (some _)=>some d
  |_=>none
 |_=>none
theorem qBw:∀ (ts r:TS),(∀ p∈r,lkT ts p.1=some p.2)->(r.map fun p:Nat × Option Tk=>D.int p.1).filterMap (bR ts)=(zN (wk r)).map .int
 |ts,[],_=>rfl
 |ts,p::r,H=>by
  have h1:=H p (List.mem_cons_self ..);have h2:=qBw ts r fun q hq=>H q (List.mem_cons_of_mem _ hq);obtain ⟨k,v⟩:=p;have h1:lkT ts k=some v:=h1
  have e:bR ts (.int (k:Int))=(match lkT ts k with | some (some _)=>some (.int (k:Int)) | _=>none):=by
   show (match lkT ts (k:Int).toNat with | some (some _)=>some (D.int (k:Int)) | _=>none)=_;rw[Int.toNat_natCast]
  rw[h1] at e;cases v with
  |none=>rw[List.map_cons,List.filterMap_cons_none e,h2];rfl
  |some t=>rw[List.map_cons,List.filterMap_cons_some e,h2];rfl
theorem qJx(o:Hs h H)(hl:H.ts.length<64):qA fns B (n+2) qLp [.ref H.p] h=.ok (.ref (h.length+1)) (h++[.lst ((zN (wk H.ts)).map .int),.lst ((zO (zN (wk H.ts))).map .int)]):=by
 rw[qO5];have hs:=zD o.ht (.rod (kvT H.ts))
 have e1:zG (jW (den (qA fns B n) cW) (qJ (qA fns B n) cV) [some (.ref H.td)]) (H.ts.map fun p:Nat × Option Tk=>D.int p.1) (h.set H.td (.rod (kvT H.ts)))=.ok ((zN (wk H.ts)).map .int) (h.set H.td (.rod (kvT H.ts))):=by
  rw[<- qBw H.ts H.ts fun p hp=>yQ o.kn hp];refine qBU _ _ _ _ fun x hx=>?_;obtain ⟨p,hp,rfl⟩:=List.mem_map.mp hx;obtain ⟨k,v⟩:=p;have hv:lkT H.ts k=some v:=yQ o.kn hp;have gn:getL (h.set H.td (.rod (kvT H.ts))) H.td=none:=by unfold getL;rw[hs]
  have gi:ixK H.td (.int k) (h.set H.td (.rod (kvT H.ts)))=.ok (tvD v) (h.set H.td (.rod (kvT H.ts))):=by unfold ixK;rw[hs];simp only[yS,hv,Option.map_some]
  have e:bR H.ts (.int (k:Int))=(match lkT H.ts k with | some (some _)=>some (.int (k:Int)) | _=>none):=by
   show (match lkT H.ts (k:Int).toNat with | some (some _)=>some (D.int (k:Int)) | _=>none)=_;rw[Int.toNat_natCast]
  show _=R.ok (bR H.ts (.int (k:Int))) _;rw[e,hv];unfold jW;cases v with
  |none=>have gi:ixK H.td (.int k) (h.set H.td (.rod (kvT H.ts)))=.ok .non (h.set H.td (.rod (kvT H.ts))):=gi;simp! only [cW,cV,gn,Option.bind_none,gi]
  |some t=>have gi:ixK H.td (.int k) (h.set H.td (.rod (kvT H.ts)))=.ok (.ref t.t) (h.set H.td (.rod (kvT H.ts))):=gi;simp! only [cW,cV,gn,Option.bind_none,gi]
 have lw:(zN (wk H.ts)).length<=H.ts.length:=by unfold zN wk;rw[List.length_map,List.length_map];exact List.length_filter_le _ _
 have e2:qA fns B (n+1) 47 [.ref H.td] h=.ok (.ref (h.length+1)) (h++[.lst ((zN (wk H.ts)).map .int),.lst ((zO (zN (wk H.ts))).map .int)]):=by
  rw[qOL];generalize zN (wk H.ts)=w at *;have sl:(h.set H.td (.rod (kvT H.ts))).length=h.length:=by simp
  have g1:(h.set H.td (.rod (kvT H.ts))++[.lst (w.map .int)])[H.td]?=some (.rod (kvT H.ts)):=qK _ hs
  have g2:(h.set H.td (.rod (kvT H.ts))++[O.lst (w.map .int)]).set H.td (.dct (kvT H.ts))=h++[.lst (w.map .int)]:=by
   rw[List.set_append_left _ _ (List.getElem?_eq_some_iff.mp hs).1,List.set_set,vP o.ht]
  have s2:=qAT w;have g3:getL (h++[O.lst (w.map .int)]) h.length=some (w.map .int):=by rw[jG];rfl
  simp! only [pO,o.ht,iI,if_pos (show H.ts.length<16777216 by lia),qKU,e1,newL,wJ,wF,List.length_map,if_pos (show w.length<=16777216 by lia),sl,g1,g2,g3,aU,qCR,if_pos (show w.length<64 by lia),if_pos (show (zO w).length<=16777216 by lia),List.length_append,List.length_cons,List.length_nil,List.append_assoc]
 simp! only [sY,o.hp,yA,e2]
end
theorem qGG(ha:a.Nodup)(hb:b.Nodup)(h:∀ x,x∈a↔x∈b):zO (zN a)=zO (zN b):=by
 have nd:∀ {l:List Nat},l.Nodup->(zN l).Nodup:=fun hl=>by
  unfold zN;exact List.Pairwise.map _ (fun _ _ h e=>h (by lia)) hl
 refine aM ((yM _).trans (((List.perm_ext_iff_of_nodup (nd ha) (nd hb)).mpr fun x=>?_).trans (yM _).symm)) (uO _) (uO _);unfold zN;simp only[List.mem_map]
 exact⟨fun⟨k,hk,e⟩=>⟨k,(h k).mp hk,e⟩,fun⟨k,hk,e⟩=>⟨k,(h k).mpr hk,e⟩⟩
theorem qEk(h:(ts.map (·.1)).Nodup):(wk ts).Nodup:=h.sublist (List.filter_sublist.map _)
theorem qEl(h:(ts.map (·.1)).Nodup)(k:Nat):k∈wk ts↔∃ t,lkT ts k=some (some t):=by
 unfold wk;constructor
 ·intro m;obtain ⟨⟨j,v⟩,hp,rfl⟩:=List.mem_map.mp m;obtain ⟨h1,h2⟩:=List.mem_filter.mp hp;cases v with
  |none=>cases h2
  |some t=>exact⟨t,yQ h h1⟩
 ·rintro ⟨t,e⟩
  exact List.mem_map.mpr ⟨(k,some t),List.mem_filter.mpr ⟨jR e,rfl⟩,rfl⟩
def iD(xs:List Nat):List D:=xs.map fun k:Nat=>.int (k:Int)
theorem qLx(xs:List Nat):(iD xs).length=xs.length:=by unfold iD;rw[List.length_map]
theorem qLw(m:Nat):jD 0 m=iD (List.range m):=by
 unfold jD iD;refine List.map_congr_left fun k _=>?_;rw[Int.zero_add]
def ALL:Tx:=[32,33,34,35,36,38,39,40,41,42,43,44,45,46,47,48,49,50,51,52,53,54,55,56,57,58,59,60,61,62,63,64,65,66,67,68,69,70,71,72,73,74,75,76,77,78,79,80,81,82,83,84,85,86,87,88,89,90,91,92,93,94,95,96,97,98,99,100,101,102,103,104,105,106,107,108,109,110,111,112,113,114,115,116,117,118,119,120,121,122,123,124,125,126]
theorem qRE:∀ c∈ALL,okC c=true:=by decide
theorem qKx(i:Int):ixN 94 (i % 94)=some (i % 94).toNat:=by
 have h1:=Int.emod_nonneg i (show (94:Int)≠0 by lia);have h2:=Int.emod_lt_of_pos i (show (0:Int)<94 by lia);unfold ixN;rw[if_pos h1,if_pos (by lia)]
theorem qEY(i:Int):ALL[(i % 94).toNat]?=some (ALL.getD (i % 94).toNat 0):=by
 have h1:=Int.emod_nonneg i (show (94:Int)≠0 by lia);have h2:=Int.emod_lt_of_pos i (show (0:Int)<94 by lia);rw[List.getD_eq_getElem?_getD,List.getElem?_eq_getElem (show (i % 94).toNat<94 by lia),Option.getD_some]
theorem qBR(f:D->M (Option D))(r:D->D):∀ (xs:List D) (h:AH),(∀ x∈xs,f x h=.ok (some (r x)) h)->zG f xs h=.ok (xs.map r) h
 | [],h,_=>rfl
 |x::xs,h,H=>by
  unfold zG;simp! only [H x (List.mem_cons_self ..),qBR f r xs h fun y hy=>H y (List.mem_cons_of_mem _ hy),List.map_cons]
def sgn(c:Int)(k:Int):Nat:=ALL.getD ((c+7*k+k*k / 3) % 94).toNat 0
theorem qGO(c k:Int):okC (sgn c k)=true:=qRE _ (List.mem_of_getElem? (qEY _))
def qBG(c:Int):D->D
 | .int v=>.str [sgn c v]
 |d=>d
theorem qAJ(f:Nat->Nat):∀ ks:List Nat,zU (ks.map fun k=>D.str [f k])=some (ks.map fun k=>[f k])
 | []=>rfl
 |k::r=>by rw[List.map_cons,zU,qAJ f r];rfl
theorem qB2(f:Nat->Nat):∀ ks:List Nat,qZ [] (ks.map fun k=>[f k])=ks.map f
 | []=>rfl
 | [k]=>rfl
 |k::j::r=>by
  have ih:=qB2 f (j::r);rw[List.map_cons] at ih;rw[List.map_cons,List.map_cons,qZ,ih];rfl
theorem qKq(f:Nat->Nat)(ks:List Nat):jS [] (ks.map fun k=>[f k])=ks.length:=by
 unfold jS;rw[List.map_map,List.length_nil,Nat.mul_zero,Nat.add_zero]
 induction ks with
 |nil=>rfl
 |cons k r ih=>rw[List.map_cons,List.sum_cons,ih,List.length_cons];show 1+r.length=_;lia
def sgt(c:Int):Tx:=(List.range 60).map fun k:Nat=>sgn c k
theorem qGN(c:Int):(sgt c).length=60:=by unfold sgt;simp
theorem qGM(c:Int):(sgt c).all okC=true:=by
 rw[List.all_eq_true];intro x hx;obtain ⟨k,_,rfl⟩:=List.mem_map.mp hx;exact qGO c k
theorem qJs(B n:Nat)(c:Int)(h:AH):∃ g,qA fns B (n+1) qLO [.int c,.int 60] h=.ok (.str (sgt c)) (h++g):=by
 rw[qOT];have hs:jJ (60:Int):=by unfold jJ;lia
 have em:zG (jH (den (qA fns B n) pV) [some (.int c),some (.int 60),some (.str ALL)]) (iD (List.range 60)) h=.ok ((iD (List.range 60)).map (qBG c)) h:=by
  refine qBR _ _ _ _ fun x hx=>?_;unfold iD at hx;obtain ⟨k,hk,rfl⟩:=List.mem_map.mp hx;have hk:=List.mem_range.mp hk;have b1:kI 7 (k:Int):=bL (by lia);have b2:kI (k:Int) (k:Int):=bL (by lia)
  have e1:((ixN ALL.length ((c+7*(k:Int)+(k:Int)*(k:Int) / 3) % 94)).bind fun j=>ALL[j]?)=some (sgn c k):=by
   show ((ixN 94 _).bind fun j=>ALL[j]?)=_;rw[qKx,Option.bind_some,qEY];rfl
  rw[yE];simp! only [pV,if_pos b1,if_pos b2,show (0:Int)<3 by lia,show (3:Int)<1073741824 by lia,and_self,show (0:Int)<94 by lia,show ALL.length<=16777216 by decide,e1];rfl
 have ex:(iD (List.range 60)).map (qBG c)=(List.range 60).map fun k:Nat=>D.str [sgn c k]:=by
  unfold iD;rw[List.map_map];rfl
 rw[ex] at em;refine⟨[.lst ((List.range 60).map fun k:Nat=>D.str [sgn c k])],?_⟩;have l60:(List.range 60).length=60:=List.length_range;have rg:jD 0 (60:Int).toNat=iD (List.range 60):=qLw 60;have ej:qZ [] ((List.range 60).map fun k:Nat=>[sgn c k])=sgt c:=qB2 _ _;unfold ALL at em;generalize List.range 60=R60 at *;simp! only [pW,if_pos hs,rg,qLx,l60,if_pos (show 60<16777216 by lia),em,newL,wJ,wF,List.length_map,if_pos (show 60<=16777216 by lia),jG,qMK,Option.bind_some,qAJ,qKq,ej]
theorem aK(k:Ky):∀ kvs:List (Ky × D),(kvs.any fun kv=>decide (kv.1=k))=(qH kvs k).isSome
 | []=>rfl
 |x::r=>by
  rw[List.any_cons]
  by_cases e:x.1=k
  ·rw[jX e,decide_eq_true e];rfl
  ·rw[jY e,decide_eq_false e,Bool.false_or];exact aK k r
theorem tU(k j:Ky)(y:D):∀ kvs:List (Ky × D),qH (kvs.map fun kv=>if kv.1=k then (kv.1,y) else kv) j=(qH kvs j).map fun x=>if j=k then y else x
 | []=>rfl
 |p::r=>by
  have ih:=tU k j y r;rw[List.map_cons]
  by_cases h:p.1=k
  ·rw[if_pos h]
   by_cases e:p.1=j
   ·rw[jX (x:=(p.1,y)) e,jX e,Option.map_some,if_pos (e.symm.trans h)]
   ·rw[jY (x:=(p.1,y)) e,jY e,ih]
  ·rw[if_neg h]
   by_cases e:p.1=j
   ·rw[jX (x:=p) e,jX e,Option.map_some,if_neg (fun z=>h (e.trans z))]
   ·rw[jY (x:=p) e,jY e,ih]
theorem tR(k j:Ky)(y:D):∀ kvs:List (Ky × D),qH kvs k=none->qH (kvs++[(k,y)]) j=if j=k then some y else qH kvs j
 | [],_=>by
  by_cases e:k=j
  ·rw[if_pos e.symm];exact jX (x:=(k,y)) e
  ·rw[if_neg (fun z=>e z.symm)];exact jY (x:=(k,y)) e
 |p::r,hn=>by
  have hk:¬ p.1=k:=fun z=>by rw[jX z] at hn;cases hn
  rw[jY hk] at hn;have ih:=tR k j y r hn;rw[List.cons_append]
  by_cases e:p.1=j
  ·rw[jX e,jX e,if_neg (fun z=>hk (e.trans z))]
  ·rw[jY e,jY e,ih]
theorem tT(kvs:List (Ky × D))(k j:Ky)(y:D):qH (zE kvs k y) j=if j=k then some y else qH kvs j:=by
 unfold zE;cases a:(kvs.any fun kv=>decide (kv.1=k)) with
 |true=>
  rw[if_pos rfl,tU];rw[aK] at a
  by_cases e:j=k
  ·subst e;obtain ⟨x,hx⟩:=Option.isSome_iff_exists.mp a;rw[hx,if_pos rfl,Option.map_some,if_pos rfl]
  ·rw[if_neg e];cases qH kvs j with
   |none=>rfl
   |some x=>rw[Option.map_some,if_neg e]
 |false=>
  rw[if_neg (by decide)];refine tR k j y kvs ?_;rw[aK] at a;cases q:qH kvs k with
  |none=>rfl
  |some x=>rw[q] at a;cases a
theorem iG(kvs:List (Ky × D))(k:Ky)(y:D):(zE kvs k y).length<=kvs.length+1:=by
 unfold zE;split
 ·rw[List.length_map];lia
 ·simp
def cmD(c:Tx × Nat × Bool):D:=.tup [.str c.1,.int c.2.1]
def cmV(ts:TS)(k:Nat):Option D:=match lkT ts k with
 |some (some t)=>some (.tup [.str t.x,.int t.rd])
 |_=>none
theorem qNs(H:HR)(k:Nat):(cmV H.ts k).getD (.tup [.str [],.int 0])=cmD (cur H k):=by
 unfold cmV cur;rcases lkT H.ts k with _ | _ | t <;> rfl
theorem qFT(W:Tx)(s a m:Nat)(ha:a<=s)(hs:s<=W.length):W.take s++((W.drop a).take m).drop (s-a)=W.take (max s (a+((W.drop a).take m).length)):=by
 rw[List.length_take,List.length_drop]
 have e1:((W.drop a).take m).drop (s-a)=(W.drop s).take (m-(s-a)):=by
  rw[List.drop_take,List.drop_drop];congr 2
  lia
 rw[e1,<- List.take_add]
 by_cases q:s<=a+m
 ·by_cases r:a+m<=W.length
  ·congr 1;lia
  ·rw[List.take_of_length_le (by lia),List.take_of_length_le (by lia)]
 ·congr 1;lia
theorem qNj(x:Tx)(r:Nat)(c:Nat)(hr:r<=x.length):qN x (some (r:Int)) (some ((r:Int)+1+(c:Nat)))=(x.drop r).take (c+1):=by
 have:=pH x r (c+1) hr
 rw[<- this];congr 2
 lia
theorem wU(a m:Int)(hm:0<m):∃ c:Nat,a % m=(c:Int)/\(c:Int)<m:=⟨(a % m).toNat,by have:=Int.emod_nonneg a (show m≠0 by lia);lia,by have:=Int.emod_nonneg a (show m≠0 by lia);have:=Int.emod_lt_of_pos a hm;lia⟩
section
variable {B n:Nat}{h:AH}{H:HR}
theorem qJz(hB:1<=B)(o:Hs h H)(hl:H.ts.length<=900)(hy:1<=H.yours)(hy2:H.yours<=1000)(hl1:1<=H.life)(hl2:H.life<=1000)(hk:k<50)(hC:h[C]?=some (.dct kc))(hv:qH kc (.int (k:Nat))=cmV H.ts k)(hL:getL h L=some [.int H.life,.int H.yours])(cell:Int)(W:Tx)(w1:W.length=60)(w2:W.all okC=true)(pre:(cur H k).1=W.take (cur H k).1.length) :
  ∃ h' H' x b,qA fns B (n+10) qLQ [.ref H.p,.ref L,.int (k:Nat),.ref C,.int cell,.str W] h=.ok (cmD (x,(cur H k).2.1,b)) h'/\Hs h' H'/\Nx h H h' H'/\Tn H H' k (x,(cur H k).2.1,b)/\x=W.take x.length:=by
 rw[qOU];have gd:=qNs H k;rw[<- hv] at gd
 have sz:(cur H k).1.length<=60:=by
  have:=congrArg List.length pre
  rw[List.length_take] at this
  lia
 have cH:∀ m:Bool,cur { H with met:=m } k=cur H k:=fun m=>rfl;have ns:=qBJ (a:=H.yours) (b:=H.life) (k:=k) (by lia) (by lia) (by lia) (by lia) (by lia) (by lia);have j0:((ixN 2 0).bind fun j=>[D.int H.life,.int H.yours][j]?)=some (.int H.life):=rfl;have j1:((ixN 2 1).bind fun j=>[D.int H.life,.int H.yours][j]?)=some (.int H.yours):=rfl;have i0:∀ u v:D,((ixN 2 0).bind fun j=>[u,v][j]?)=some u:=fun _ _=>rfl;have i1:∀ u v:D,((ixN 2 1).bind fun j=>[u,v][j]?)=some v:=fun _ _=>rfl;generalize hc:cur H k=c at *;obtain ⟨x,rd,to⟩:=c;have gd:(qH kc (.int (k:Nat))).getD (.tup [.str [],.int 0])=.tup [.str x,.int rd]:=gd;have sz:x.length<=60:=sz;have pre:x=W.take x.length:=pre;rcases Bool.eq_false_or_eq_true ((cell % 7) == 3) with z | z
 ·-- the end
  obtain ⟨g1,e1⟩:=bN B (n+2) (qA2 ns) h;have e1:qA fns B (n+9) 30 [.tup [.str [101,110,100],.int H.yours,.int H.life,.int (k:Nat),.int 60]] h=.ok (wrD (.tup [.str ENDW,.int H.yours,.int H.life,.int (k:Nat),.int 60])) (h++g1):=e1
  obtain ⟨j,h2,H2,e2,o2,x2,T2⟩:=qBg (B:=B) (n:=n) (o.app g1) [.str ENDW,.int H.yours,.int H.life,.int (k:Nat),.int 60] ENDW _ rfl (.inr rfl) (qA2 ns) rfl rfl rfl k (x,rd,true) (fun G H1 o1 q1=>by
   have hp1:H1.p=H.p:=by rw[q1]
   obtain ⟨j,h',H',d,a1,a2,a3,a4,a5,a6,a7⟩:=qJ9 (B:=B) (n:=n+1) o1 (by rw[q1];exact hl) (by rw[q1];exact hy) (by rw[q1];exact hy2) (by rw[q1];exact hl1) (by rw[q1];exact hl2) hk (.int H.yours) (.int H.life);have cc:cur H1 k=(x,rd,to):=by rw[q1,cH]
   rw[cc] at a7;rw[hp1] at a1
   exact⟨j,h',H',d,a1,a2,a3,a4,a5,a6,a7⟩)
  refine⟨h2,H2,x,true,?_,o2,(Nx.app H g1).trans x2,T2,pre⟩;generalize wrD (.tup [.str ENDW,.int H.yours,.int H.life,.int (k:Nat),.int 60])=WX at *;have hp1:=qK g1 o.hp;have m3:((0:Int)<7):=by lia
  simp! only [dF,hC,gd,i0,i1,if_pos (show x.length<=16777216 by lia),if_pos m3,z,qDt,o.hp,lB,tbh,hL,Option.bind_some,j0,j1,e1,e2];rfl
 ·-- data
  obtain ⟨r3,q3,b3⟩:=wU cell 3 (by lia);obtain ⟨r7,q7,b7⟩:=wU (cell / 7) ((x.length:Int)+1) (by lia);obtain ⟨r9,q9,b9⟩:=wU (cell / 21) 9 (by lia)
  obtain ⟨a,ha,qa⟩:∃ a:Nat,a<=x.length/\((ixN 3 (r3:Int)).bind fun j=>[D.int x.length,.int x.length,.int (r7:Int)][j]?)=some (.int (a:Int)):=by
   have:r3=0\/r3=1\/r3=2:=by lia
   rcases this with rfl | rfl | rfl
   ·exact⟨x.length,Nat.le_refl _,rfl⟩
   ·exact⟨x.length,Nat.le_refl _,rfl⟩
   ·exact⟨r7,by lia,rfl⟩
  have cw:=qNj W a r9 (by lia);have ly:((W.drop a).take (r9+1)).length<=9:=by rw[List.length_take];lia
  have ly2:a+((W.drop a).take (r9+1)).length<=60:=by rw[List.length_take,List.length_drop];lia
  have oy:((W.drop a).take (r9+1)).all okC=true:=by
   rw[List.all_eq_true] at w2 ⊢;exact fun u hu=>w2 u (List.mem_of_mem_drop (List.mem_of_mem_take hu))
  have tm:=qFT W x.length a (r9+1) ha (by lia);rw[<- pre] at tm;generalize (W.drop a).take (r9+1)=y at *;have pd:=qHO ns a y oy (by lia) (by lia);obtain ⟨g1,e1⟩:=bN B (n+2) pd (h++[.lst [.int x.length,.int x.length,.int (r7:Int)]]);have e1:qA fns B (n+9) 30 [.tup [.str [100,97,116,97],.int H.yours,.int H.life,.int (k:Nat),.int (a:Nat),.str y]] (h++[.lst [.int x.length,.int x.length,.int (r7:Int)]])=.ok (wrD (.tup [.str DATA,.int H.yours,.int H.life,.int (k:Nat),.int (a:Nat),.str y])) (h++[.lst [.int x.length,.int x.length,.int (r7:Int)]]++g1):=e1
  obtain ⟨j,h2,H2,e2,o2,x2,T2⟩:=qBg (B:=B) (n:=n) ((o.app [.lst [.int x.length,.int x.length,.int (r7:Int)]]).app g1) [.str DATA,.int H.yours,.int H.life,.int (k:Nat),.int (a:Nat),.str y] DATA _ rfl (.inl rfl) pd rfl rfl rfl k (x++y.drop (x.length-a),rd,to) (fun G H1 o1 q1=>by
   have hp1:H1.p=H.p:=by rw[q1]
   have cc:cur H1 k=(x,rd,to):=by rw[q1,cH]
   obtain ⟨j,h',H',d,a1,a2,a3,a4,a5,a6,a7⟩:=qKA (B:=B) (n:=n+1) hB o1 (by rw[q1];exact hl) (by rw[q1];exact hy) (by rw[q1];exact hy2) (by rw[q1];exact hl1) (by rw[q1];exact hl2) hk (.int H.yours) (.int H.life) a y (by rw[cc];exact ha) ly2;rw[cc] at a7;rw[hp1] at a1
   exact⟨j,h',H',d,a1,a2,a3,a4,a5,a6,a7⟩)
  refine⟨h2,H2,x++y.drop (x.length-a),to,?_,o2,((Nx.app H _).trans (Nx.app H g1)).trans x2,T2,?_⟩
  rotate_left
  ·rw[tm,List.length_take,<- List.take_take,List.take_length]
  have ct:qN W none (some (if ((a:Nat):Int)+(y.length:Int) > (x.length:Int) then ((a:Nat):Int)+(y.length:Int) else (x.length:Int)))=x++y.drop (x.length-a):=by
   rw[tm,show (if ((a:Nat):Int)+(y.length:Int) > (x.length:Int) then ((a:Nat):Int)+(y.length:Int) else (x.length:Int))=((max x.length (a+y.length):Nat):Int) by split <;> lia,qC6]
  have hp1:=qK g1 (qK [.lst [.int x.length,.int x.length,.int (r7:Int)]] o.hp);have hL1:=jO [.lst [.int x.length,.int x.length,.int (r7:Int)]] hL;have ga:getL (h++[.lst [.int x.length,.int x.length,.int (r7:Int)]]) h.length=some [.int x.length,.int x.length,.int (r7:Int)]:=by rw[jG];rfl
  have hp0:=qK [.lst [.int x.length,.int x.length,.int (r7:Int)]] o.hp;generalize wrD (.tup [.str DATA,.int H.yours,.int H.life,.int (k:Nat),.int (a:Nat),.str y])=WX at *;generalize hK:h++[.lst [.int x.length,.int x.length,.int (r7:Int)]]=K at *;have c7:(0:Int)<7/\(7:Int)<1073741824:=by lia
  have c21:(0:Int)<21/\(21:Int)<1073741824:=by lia
  simp! only [dF,hC,gd,i0,i1,if_pos (show x.length<=16777216 by lia),if_pos (show (0:Int)<7 by lia),z,qDs,if_pos c7,if_pos (show (0:Int)<(x.length:Int)+1 by lia),q7,hK,if_pos (show (0:Int)<3 by lia),q3,ga,Option.bind_some,qa,if_pos c21,if_pos (show (0:Int)<9 by lia),q9,if_pos (show W.length<=16777216 by lia),cw,hp0,lB,tbh,hL1,j0,j1,e1,e2,if_pos (show y.length<=16777216 by lia),ct];rfl
end
theorem lQ(h:AH)(n:Nat):∀ xs:List D,(∀ d∈xs,(∃ b,d=.bl b)\/(∃ i,d=.int i)\/∃ x,d=.str x)->eqW (eqD h n) xs xs=some true
 | [],_=>rfl
 |x::xs,H=>by
  have h2:=lQ h n xs fun d hd=>H d (List.mem_cons_of_mem _ hd)
  have h1:eqD h n x x=some true:=by
   rcases H x (List.mem_cons_self ..) with⟨b,rfl⟩ | ⟨i,rfl⟩ | ⟨y,rfl⟩
   ·rw[eqD,beq_self_eq_true]
   ·rw[eqD,beq_self_eq_true]
   ·rw[eqD,beq_self_eq_true]
  rw[eqW,h1,h2];rfl
theorem gI(hi:getL h i=some xs)(hj:getL h j=some xs)(H:∀ d∈xs,(∃ b,d=.bl b)\/(∃ i,d=.int i)\/∃ x,d=.str x):kL h (.ref i) (.ref j)=some true:=by
 show (match getL h i,getL h j with | some xs,some ys=>eqW (eqD h 39) xs ys | _,_=>none)=_;rw[hi,hj];exact lQ h 39 xs H
theorem lP(h:AH)(x:Tx):kL h (.tup [.str x]) (.tup [.str x])=some true:=lQ h 39 [.str x] fun d hd=>by rw[List.mem_singleton.mp hd];exact .inr (.inr ⟨x,rfl⟩)
theorem bl3(a b c:Bool):∀ d∈[D.bl a,.bl b,.bl c],(∃ b,d=.bl b)\/(∃ i,d=.int i)\/∃ x,d=.str x:=fun d hd=>by
 simp only[List.mem_cons,List.not_mem_nil,or_false] at hd;rcases hd with rfl | rfl | rfl <;> exact .inl ⟨_,rfl⟩
section
variable {B n:Nat}{h:AH}{H:HR}
theorem qAk(o:Hs h H)(c:Int)(hC:h[C]?=some (.dct kc))(hK:h[K]?=some (.dct kb))(e:Nat)(b:Bool)(hv:qH kc (.int (k:Nat))=none)(hb:(qH kb (.int (k:Nat))).isSome=b)(he:jV e=[.bl b,.bl (!b),.bl false])(hf:FE.contains e=true)(ht:∀ g,qA fns B (n+2) yW [.ref H.p,.int (k:Nat)] (h++g)=.exc e (h++g)) :
  ∃ g,qA fns B (n+5) qCZ [.ref H.p,.int (k:Nat),.int c,.ref C,.ref K] h=.ok (.int 0) (h++g):=by
 rw[pJ];have t0:=ht [];rw[List.append_nil] at t0;have e1:=qBd (n:=n+3) o.hp k c e hf (qJo o k c e t0)
 have t3:∀ g,qA fns B (n+3) yW [.ref H.p,.int (k:Nat)] (h++g)=.exc e (h++g):=fun g=>by
  have a:=wW (B:=B) (n:=n+1) (o.app g) k;have b:=wW (B:=B) (n:=n) (o.app g) k;have b':=ht g;rw[show qA fns B (n+3) yW [.ref H.p,.int (k:Nat)] (h++g)=_ from a,<- b'];exact b.symm
 have e2:qA fns B (n+4) 74 [.ref H.p,.int (k:Nat)] (h++[.xc e,.lst (jV e)])=.ok (.ref (h.length+2+1)) (h++[.xc e,.lst (jV e)]++[.xc e,.lst (jV e)]):=by
  have:=qKG (B:=B) (n:=n+3) (o.app [.xc e,.lst (jV e)]).hp k e hf (t3 _)
  rw[List.length_append] at this;exact this
 rw[he] at e1 e2;generalize hG:h++[O.xc e,.lst [.bl b,.bl (!b),.bl false]]++[O.xc e,.lst [.bl b,.bl (!b),.bl false]]=G at *;have hC2:G[C]?=some (.dct kc):=by rw[<- hG];exact qK _ (qK _ hC)
 have hK2:G[K]?=some (.dct kb):=by rw[<- hG];exact qK _ (qK _ hK)
 have l1:getL G (h.length+1)=some [.bl b,.bl (!b),.bl false]:=by rw[<- hG,List.append_assoc,vH];rfl
 have l2:getL G (h.length+2+1)=some [.bl b,.bl (!b),.bl false]:=by rw[<- hG,List.append_assoc,show h.length+2+1=h.length+3 from rfl,vH];rfl
 have l3:getL (G++[.lst [.bl b,.bl (!b),.bl false]]) G.length=some [.bl b,.bl (!b),.bl false]:=by rw[jG];rfl
 have q1:=gI (jO [.lst [.bl b,.bl (!b),.bl false]] l1) l3 (bl3 _ _ _);have q2:=gI (jO [.lst [.bl b,.bl (!b),.bl false]] l2) l3 (bl3 _ _ _);refine⟨[O.xc e,.lst [.bl b,.bl (!b),.bl false]]++[O.xc e,.lst [.bl b,.bl (!b),.bl false]]++[.lst [.bl b,.bl (!b),.bl false]],?_⟩;rw[<- List.append_assoc,<- List.append_assoc,hG];simp! only [uC,e1,e2,jU hC2,jU hK2,Option.bind_none,kE,kW,hC2,hK2,hv,hb,Option.isSome_none,Bool.not_false,qDq,q1,q2]
theorem qJt(o:Hs h H)(c:Nat)(hC:h[C]?=some (.dct kc))(hK:h[K]?=some (.dct kb))(nC:C∉Own H)(hv:qH kc (.int (k:Nat))=cmV H.ts k)(b1:lkT H.ts k=some none->(qH kb (.int (k:Nat))).isSome=true)(b2:(qH kb (.int (k:Nat))).isSome=true->lkT H.ts k≠none) :
  ∃ (h':AH) (H':HR) (r:Nat),qA fns B (n+5) qCZ [.ref H.p,.int (k:Nat),.int (c:Nat),.ref C,.ref K] h=.ok (.int (r:Nat)) h'/\Hs h' H'/\Nx h H h' H'/\H'={ H with ts:=H'.ts }/\H'.ts.length<=H.ts.length/\(∀ j,j≠k->lkT H'.ts j=lkT H.ts j) /\
   ((lkT H'.ts k=lkT H.ts k/\∀ t,lkT H.ts k≠some (some t))\/∃ t t',lkT H.ts k=some (some t)/\lkT H'.ts k=some (some t')/\t'.x=t.x/\t'.rd=r):=by
 cases q:lkT H.ts k with
 |none=>
  have hb:(qH kb (.int (k:Nat))).isSome=false:=by
   cases z:(qH kb (.int (k:Nat))).isSome with
   |false=>rfl
   |true=>exact absurd q (b2 z)
  obtain ⟨g,e⟩:=qAk (B:=B) (n:=n) o c hC hK aH false (by rw[hv];unfold cmV;rw[q]) hb rfl (by decide) (fun g=>by
   have:=wW (B:=B) (n:=n) (o.app g) k
   rw[q] at this
   exact this)
  exact⟨h++g,H,0,e,o.app g,Nx.app H g,rfl,Nat.le_refl _,fun _ _=>rfl,.inl ⟨q,fun t=>by intro z;cases z⟩⟩
 |some v=>
  cases v with
  |none=>
   obtain ⟨g,e⟩:=qAk (B:=B) (n:=n) o c hC hK aI true (by rw[hv];unfold cmV;rw[q]) (b1 q) rfl (by decide) (fun g=>by
    have:=wW (B:=B) (n:=n) (o.app g) k
    rw[q] at this
    exact this)
   exact⟨h++g,H,0,e,o.app g,Nx.app H g,rfl,Nat.le_refl _,fun _ _=>rfl,.inl ⟨q,fun t=>by intro z;cases z⟩⟩
  |some t=>
   have hv:qH kc (.int (k:Nat))=some (.tup [.str t.x,.int t.rd]):=by rw[hv];unfold cmV;rw[q]
   have i0:∀ u v:D,((ixN 2 0).bind fun j=>[u,v][j]?)=some u:=fun _ _=>rfl;have i1:∀ u v:D,((ixN 2 1).bind fun j=>[u,v][j]?)=some v:=fun _ _=>rfl;have ok:=o.tk k t (jR q);have lx:=ok.lx
   by_cases hc:1<=c/\c<=200
   ·obtain ⟨h1,t',e1,et,o1,x1⟩:=qJn (B:=B) (n:=n) o q c hc.1 hc.2;have lk1:lkT (qQ H.ts k (some t')) k=some (some t'):=by rw[wO _ _ o.kn,if_pos rfl]
    have e2:qA fns B (n+4) 73 [.ref H.p,.int (k:Nat),.int (c:Nat)] h=.ok (.tup [.str ((t.x.drop t.rd).take c)]) h1:=by
     rw[qDK];generalize (t.x.drop t.rd).take c=y at *;simp! only [dE,pY,o.hp,qCi,qAE,e1,if_pos (show 1<=16777216 by lia)]
    have e3:qA fns B (n+4) 74 [.ref H.p,.int (k:Nat)] h1=.ok (.tup [.str t'.x]) h1:=qBi (n:=n+1) o1 lk1;have tx:t'.x=t.x:=by rw[et]
    rw[tx] at e3;have hC1:=x1.1.2 _ _ nC hC;refine⟨h1,{ H with ts:=qQ H.ts k (some t') },t.rd+((t.x.drop t.rd).take c).length,?_,o1,x1,rfl,?_,fun j hj=>?_,.inr ⟨t,t',rfl,lk1,tx,by rw[et]⟩⟩
    ·rw[pJ];have cr:=pH t.x t.rd c ok.lr;have ly:((t.x.drop t.rd).take c).length<=60:=by rw[List.length_take,List.length_drop];lia
     generalize (t.x.drop t.rd).take c=y at *;have d1:decide (((c:Nat):Int)<1)=false:=decide_eq_false (by lia);have d2:decide ((200:Int)<((c:Nat):Int))=false:=decide_eq_false (by lia);have q1:=lP h1 t.x;have q2:=lP h1 y;have rr:(t.rd:Int)+(y.length:Int)=((t.rd+y.length:Nat):Int):=by lia
     simp! only [uC,e2,e3,jU hC1,Option.bind_none,kE,hC1,hv,Option.isSome_some,Bool.not_true,dB,ixK,i0,i1,q1,dD,d1,d2,qDp,if_pos (show t.x.length<=16777216 by lia),cr,q2,if_pos (show y.length<=16777216 by lia),rr]
    ·show (qQ H.ts k (some t')).length<=_;unfold qQ;rw[if_pos (List.mem_map.mpr ⟨_,jR q,rfl⟩),List.length_map];exact Nat.le_refl _
    ·show lkT (qQ H.ts k (some t')) j=_;rw[wO _ _ o.kn,if_neg hj]
   ·have e2:qA fns B (n+4) 73 [.ref H.p,.int (k:Nat),.int (c:Nat)] h=.ok (.ref (h.length+1)) (h++[.xc zZ,.lst (jV zZ)]):=qBd (n:=n+3) o.hp k (c:Nat) zZ (by decide) (qJp o q c hc);have o1:=o.app [.xc zZ,.lst (jV zZ)];have e3:qA fns B (n+4) 74 [.ref H.p,.int (k:Nat)] (h++[.xc zZ,.lst (jV zZ)])=.ok (.tup [.str t.x]) (h++[.xc zZ,.lst (jV zZ)]):=qBi (n:=n+1) o1 q;have hC1:=qK [O.xc zZ,.lst (jV zZ)] hC;have g1:getL (h++[.xc zZ,.lst (jV zZ)]) (h.length+1)=some [.bl false,.bl false,.bl true]:=by rw[vH];rfl
    generalize hG:h++[.xc zZ,.lst (jV zZ)]=G at *;have g2:getL (G++[.lst [.bl false,.bl false,.bl true]]) G.length=some [.bl false,.bl false,.bl true]:=by rw[jG];rfl
    refine⟨G++[.lst [.bl false,.bl false,.bl true]],H,t.rd,?_,o1.app _,?_,rfl,Nat.le_refl _,fun _ _=>rfl,.inr ⟨t,t,rfl,q,rfl,rfl⟩⟩
    ·rw[pJ];have q1:=lP G t.x;have q2:=gI (jO [.lst [.bl false,.bl false,.bl true]] g1) g2 (bl3 _ _ _)
     by_cases c1:1<=c
     ·have d1:decide (((c:Nat):Int)<1)=false:=decide_eq_false (by lia);have d2:decide ((200:Int)<((c:Nat):Int))=true:=decide_eq_true (by lia);simp! only [uC,e2,e3,jU hC1,Option.bind_none,kE,hC1,hv,Option.isSome_some,Bool.not_true,dB,ixK,i0,i1,q1,dD,d1,d2,q2]
     ·have d1:decide (((c:Nat):Int)<1)=true:=decide_eq_true (by lia);simp! only [uC,e2,e3,jU hC1,Option.bind_none,kE,hC1,hv,Option.isSome_some,Bool.not_true,dB,ixK,i0,i1,q1,dD,d1,q2]
    ·rw[<- hG];exact (Nx.app H _).trans (Nx.app H _)
end
section
variable {h h' G G':AH}{H H':HR}
theorem Hs.keep{M:List Nat}(o:Hs h H)(f:Fq M h h')(ni:∀ i∈Own H,i∉M):Hs h' H:=
 ⟨f.2 _ _ (ni _ (by unfold Own;simp)) o.hp,f.2 _ _ (ni _ (by unfold Own;simp)) o.hq,f.2 _ _ (ni _ (by unfold Own;simp)) o.hg,f.2 _ _ (ni _ (by unfold Own;simp)) o.ht,fun a t m=>(o.tk a t m).keep f fun i hi=>ni i (by unfold Own;simp only[List.mem_cons];exact .inr (.inr (.inr (.inr (wQ m hi))))),o.n4,o.dh,o.dj,o.kn,o.kb,o.r1,o.r2⟩
theorem Hs.noL(o:Hs h H)(e:getL h i=some xs):i∉Own H:=fun z=>by
 have no:∀ {j:Nat} {x:O},h[j]?=some x->(∀ ys,x≠.lst ys)->(∀ ys,x≠.rol ys)->i≠j:=fun {j x} hj n1 n2 q=>by
  subst q;unfold getL at e;rw[hj] at e;cases x with
  |lst ys=>exact n1 ys rfl
  |rol ys=>exact n2 ys rfl
  |_=>cases e
 unfold Own at z;simp only[List.mem_cons] at z;rcases z with z | z | z | z | z
 ·exact no o.hp (fun _=>by intro z;cases z) (fun _=>by intro z;cases z) z
 ·exact no o.hq (fun _=>by intro z;cases z) (fun _=>by intro z;cases z) z
 ·exact no o.hg (fun _=>by intro z;cases z) (fun _=>by intro z;cases z) z
 ·exact no o.ht (fun _=>by intro z;cases z) (fun _=>by intro z;cases z) z
 ·obtain ⟨k,t,m,hi⟩:=bE z;have ok:=o.tk k t m;simp only[jB,List.mem_cons,List.not_mem_nil,or_false] at hi;rcases hi with z | z | z
  ·exact no ok.ht (fun _=>by intro z;cases z) (fun _=>by intro z;cases z) z
  ·exact no ok.hs (fun _=>by intro z;cases z) (fun _=>by intro z;cases z) z
  ·exact no ok.hb (fun _=>by intro z;cases z) (fun _=>by intro z;cases z) z
theorem lI(e:getL h i=some xs):h[i]?=some (.lst xs)\/h[i]?=some (.rol xs):=by
 unfold getL at e;cases q:h[i]? with
 |none=>rw[q] at e;cases e
 |some x=>
  rw[q] at e;cases x with
  |lst ys=>exact .inl (by rw[Option.some.inj e])
  |rol ys=>exact .inr (by rw[Option.some.inj e])
  |_=>cases e
theorem Fq.getL{M:List Nat}(f:Fq M h h')(ni:i∉M)(e:getL h i=some xs):Fy.getL h' i=some xs:=by
 rcases lI e with q | q
 ·unfold Fy.getL;rw[f.2 _ _ ni q]
 ·unfold Fy.getL;rw[f.2 _ _ ni q]
theorem lN(e:getL h i=some xs):i<h.length:=by
 rcases lI e with q | q <;> exact (List.getElem?_eq_some_iff.mp q).1
end
structure Cm (kc:List (Ky × D)) (ts:TS):Prop where
 ks:∃ ks:List Nat,kc.map (·.1)=ks.map (fun k:Nat=>Ky.int (k:Int))/\ks.Nodup
 v:∀ k:Nat,qH kc (.int (k:Int))=cmV ts k
structure Bk (kb:List (Ky × D)) (ts:TS):Prop where
 a:∀ k:Nat,lkT ts k=some none->(qH kb (.int (k:Int))).isSome=true
 b:∀ k:Nat,(qH kb (.int (k:Int))).isSome=true->lkT ts k≠none
def Pr(G:AH)(L E:Nat)(d:D):Prop:=∃ (a b:Nat) (xs:List Int),d=.tup [.ref a,.ref b]/\getL G a=some (xs.map .int)/\getL G b=some (xs.map .int)/\a∉[L,E]/\b∉[L,E]
structure LI (G:AH) (H:HR) (L C K E S:Nat) (ns:List Int) (sl:List D) (u j:Nat):Prop where
 hs:Hs G H
 g0:G[0]?=some (.rol (ns.map .int))
 gS:getL G S=some sl
 gL:G[L]?=some (.lst [.int H.life,.int H.yours])
 cC:∃ kc,G[C]?=some (.dct kc)/\Cm kc H.ts/\kc.length<=j
 cK:∃ kb,G[K]?=some (.dct kb)/\Bk kb H.ts/\kb.length<=64*j
 cE:∃ es,G[E]?=some (.lst es)/\es.length<=u/\∀ d∈es,Pr G L E d
 nC:C∉Own H
 nK:K∉Own H
 nCK:C≠K
 nLE:L≠E
 nSL:S≠L
 nSE:S≠E
 l1:1<=H.life
 l2:H.life<=40
 y:H.yours<=j
 t:H.ts.length<=j
 pre:∀ k t,lkT H.ts k=some (some t)->t.x=(sgt ((k:Int)+(H.yours:Int)*5)).take t.x.length
section
variable {G G':AH}{H H':HR}{L C K E S:Nat}{ns:List Int}{sl:List D}{u j:Nat}
theorem LI.L0(I:LI G H L C K E S ns sl u j):L≠0:=fun z=>by have:=I.gL;rw[z,I.g0] at this;cases this
theorem Pr.keep{M:List Nat}(f:Fq M G G')(H:∀ i xs,getL G i=some xs->i∉[L,E]->i∉M)(p:Pr G L E d):Pr G' L E d:=by
 obtain ⟨a,b,xs,e,ga,gb,na,nb⟩:=p
 exact⟨a,b,xs,e,f.getL (H _ _ ga na) ga,f.getL (H _ _ gb nb) gb,na,nb⟩
structure Sd (G G':AH) (H H':HR) (L C K E S:Nat) (ns:List Int) (sl:List D):Prop where
 g0:G'[0]?=some (.rol (ns.map .int))
 gS:getL G' S=some sl
 gL:G'[L]?=some (.lst [.int H.life,.int H.yours])
 o:∀ i x,i∈[C,K,E]->G[i]?=some x->G'[i]?=some x
 p:∀ d,Pr G L E d->Pr G' L E d
 nC:C∉Own H'
 nK:K∉Own H'
theorem LI.side(I:LI G H L C K E S ns sl u j)(x:Nx G H G' H'):Sd G G' H H' L C K E S ns sl:=by
 have g0L:getL G 0=some (ns.map .int):=by unfold getL;rw[I.g0]
 have gLL:getL G L=some [.int H.life,.int H.yours]:=by unfold getL;rw[I.gL]
 obtain ⟨kc,hC,_⟩:=I.cC;obtain ⟨kb,hK,_⟩:=I.cK;obtain ⟨es,hE,_⟩:=I.cE;have gEL:getL G E=some es:=by unfold getL;rw[hE]
 have lC:=(List.getElem?_eq_some_iff.mp hC).1;have lK:=(List.getElem?_eq_some_iff.mp hK).1;refine⟨x.1.2 _ _ (I.hs.noL g0L) I.g0,x.1.getL (I.hs.noL I.gS) I.gS,x.1.2 _ _ (I.hs.noL gLL) I.gL,fun i o hi e=>?_,fun d p=>p.keep x.1 fun i xs e _=>I.hs.noL e,fun z=>?_,fun z=>?_⟩
 ·refine x.1.2 _ _ ?_ e;simp only[List.mem_cons,List.not_mem_nil,or_false] at hi;rcases hi with rfl | rfl | rfl
  ·exact I.nC
  ·exact I.nK
  ·exact I.hs.noL gEL
 ·rcases x.2 _ z with q | q
  ·exact I.nC q
  ·lia
 ·rcases x.2 _ z with q | q
  ·exact I.nK q
  ·lia
end
theorem qKd(kvs:List (Ky × D))(ks:List Nat)(h:kvs.map (·.1)=ks.map (fun k:Nat=>Ky.int (k:Int)))(k:Nat)(d:D):(zE kvs (.int (k:Int)) d).map (·.1)=(if k∈ks then ks else ks++[k]).map (fun k:Nat=>Ky.int (k:Int)):=by
 have an:(kvs.any fun kv=>decide (kv.1=.int (k:Int)))=decide (k∈ks):=by
  rw[show (kvs.any fun kv=>decide (kv.1=.int (k:Int)))=((kvs.map (·.1)).any fun y=>decide (y=.int (k:Int))) by rw[List.any_map];rfl,h,List.any_map,Bool.eq_iff_iff,decide_eq_true_eq,List.any_eq_true];constructor
  ·rintro ⟨x,hx,e⟩
   have e:decide (Ky.int (x:Int)=.int (k:Int))=true:=e;rw[decide_eq_true_eq] at e;injection e with e;rw[show k=x by lia];exact hx
  ·intro m
   exact⟨k,m,decide_eq_true rfl⟩
 unfold zE;rw[an]
 by_cases c:k∈ks
 ·rw[if_pos (decide_eq_true c),if_pos c,<- h,List.map_map];refine List.map_congr_left fun p _=>?_;show ((if p.1=.int (k:Int) then (p.1,d) else p):Ky × D).1=p.1
  split <;> rfl
 ·rw[if_neg (by rw[decide_eq_true_eq];exact c),if_neg c,List.map_append,List.map_append,h];rfl
theorem Cm.put(m:Cm kc ts)(k:Nat)(t:Tk)(hk:lkT ts' k=some (some t))(ho:∀ j,j≠k->lkT ts' j=lkT ts j):Cm (zE kc (.int (k:Int)) (.tup [.str t.x,.int t.rd])) ts':=by
 obtain ⟨ks,e,nd⟩:=m.ks;refine⟨⟨_,qKd kc ks e k _,?_⟩,fun j=>?_⟩
 ·split
  ·exact nd
  ·rename_i c;exact List.nodup_append.mpr ⟨nd,List.pairwise_singleton _ _,fun a ha b hb e=>by rw[List.mem_singleton] at hb;exact c (by rw[<- hb,<- e];exact ha)⟩
 ·rw[tT]
  by_cases c:j=k
  ·rw[if_pos (by rw[c]),c];unfold cmV;rw[hk]
  ·rw[if_neg (fun z=>c (by injection z with z;lia)),m.v];unfold cmV;rw[ho j c]
theorem Cm.same(m:Cm kc ts)(h:∀ k,cmV ts' k=cmV ts k):Cm kc ts':=⟨m.ks,fun k=>by rw[h k];exact m.v k⟩
theorem Cm.nil:Cm [] (brk ts):=⟨⟨[],rfl,.nil⟩,fun k=>by
 unfold cmV;cases q:lkT (brk ts) k with
 |none=>rfl
 |some v=>
  have:=jR q
  unfold brk at this;obtain ⟨p,_,e⟩:=List.mem_map.mp this;cases e
  rfl⟩
theorem iF(ts:TS)(k:Nat):lkT (brk ts) k=(lkT ts k).map fun _=>none:=by
 unfold lkT brk
 induction ts with
 |nil=>rfl
 |cons p r ih=>
  rw[List.map_cons]
  by_cases e:p.1=k
  ·rw[List.find?_cons_of_pos (by simpa using e),List.find?_cons_of_pos (by simpa using e)];rfl
  ·rw[List.find?_cons_of_neg (by simpa using e),List.find?_cons_of_neg (by simpa using e)];exact ih
theorem Cm.mem(m:Cm kc ts){ks:List Nat}(e:kc.map (·.1)=ks.map (fun k:Nat=>Ky.int (k:Int)))(k:Nat):k∈ks↔∃ t,lkT ts k=some (some t):=by
 have a:=aK (.int (k:Int)) kc;rw[show (kc.any fun kv=>decide (kv.1=.int (k:Int)))=((kc.map (·.1)).any fun y=>decide (y=.int (k:Int))) by rw[List.any_map];rfl,e,List.any_map,m.v k] at a
 have:(cmV ts k).isSome=true↔∃ t,lkT ts k=some (some t):=by
  unfold cmV;rcases lkT ts k with _ | _ | t
  ·exact⟨(fun z=>by cases z),(fun⟨t,z⟩=>by cases z)⟩
  ·exact⟨(fun z=>by cases z),(fun⟨t,z⟩=>by cases z)⟩
  ·exact⟨fun _=>⟨t,rfl⟩,fun _=>rfl⟩
 rw[<- this,<- a,List.any_eq_true];constructor
 ·intro m;exact⟨k,m,decide_eq_true rfl⟩
 ·rintro ⟨x,hx,q⟩
  have q:decide (Ky.int (x:Int)=.int (k:Int))=true:=q;rw[decide_eq_true_eq] at q;injection q with q;rw[show k=x by lia];exact hx
theorem hU(j:Ky):∀ (more kvs:List (Ky × D)),(qH (zI kvs more) j).isSome=((qH kvs j).isSome || (qH more j).isSome)
 | [],kvs=>by show _=((qH kvs j).isSome || false);rw[Bool.or_false];rfl
 |p::r,kvs=>by
  show (qH (zI (zE kvs p.1 p.2) r) j).isSome=_;rw[hU j r,tT]
  by_cases e:p.1=j
  ·rw[if_pos e.symm,jX e];simp
  ·rw[if_neg (fun z=>e z.symm),jY e]
theorem hV:∀ (more kvs:List (Ky × D)),(zI kvs more).length<=kvs.length+more.length
 | [],kvs=>Nat.le_refl _
 |p::r,kvs=>by
  have h1:=hV r (zE kvs p.1 p.2);have h2:=iG kvs p.1 p.2;show (zI (zE kvs p.1 p.2) r).length<=kvs.length+(r.length+1)
  lia
abbrev sv(a:Option D)(p l c k e:Nat)(x6 x7 x8 x9 x10:Option D):Fy.Env:=[a,some (.ref p),some (.ref l),some (.ref c),some (.ref k),some (.ref e),x6,x7,x8,x9,x10]
theorem pairs_of:∀ ks:List Nat,kG (ks.map fun k:Nat=>D.tup [.int (k:Int),.bl true])=some (ks.map fun k:Nat=>(Ky.int (k:Int),D.bl true))
 | []=>rfl
 |k::r=>by rw[List.map_cons,kG,pairs_of r];rfl
theorem tQ(j:Nat):∀ ks:List Nat,(qH (ks.map fun k:Nat=>(Ky.int (k:Int),D.bl true)) (.int (j:Int))).isSome=decide (j∈ks)
 | []=>by simp[qH]
 |k::r=>by
  rw[List.map_cons]
  by_cases e:k=j
  ·rw[jX (x:=(Ky.int (k:Int),D.bl true)) (by rw[e])];simp[e]
  ·rw[jY (x:=(Ky.int (k:Int),D.bl true)) (fun z=>e (by injection z with z;lia)),tQ j r,Bool.eq_iff_iff,decide_eq_true_eq,decide_eq_true_eq,List.mem_cons]
   exact⟨.inr,fun z=>z.elim (fun z=>absurd z.symm e) id⟩
theorem Bk.hello(b:Bk kb ts)(m:Cm kc ts){ks:List Nat}(e:kc.map (·.1)=ks.map (fun k:Nat=>Ky.int (k:Int))):Bk (zI kb (zI [] (ks.map fun k:Nat=>(Ky.int (k:Int),D.bl true)))) (brk ts):=by
 have v:∀ k:Nat,(qH (zI kb (zI [] (ks.map fun k:Nat=>(Ky.int (k:Int),D.bl true)))) (.int (k:Int))).isSome=((qH kb (.int (k:Int))).isSome || decide (k∈ks)):=fun k=>by
  rw[hU,hU,tQ];rfl
 refine⟨fun k h=>?_,fun k h=>?_⟩
 ·rw[v];rw[iF] at h;cases q:lkT ts k with
  |none=>rw[q] at h;cases h
  |some u=>
   cases u with
   |none=>rw[b.a k q];rfl
   |some t=>rw[decide_eq_true ((m.mem e k).mpr ⟨t,q⟩),Bool.or_true]
 ·rw[v,Bool.or_eq_true,decide_eq_true_eq] at h;rw[iF];cases q:lkT ts k with
  |none=>
   rcases h with h | h
   ·exact absurd q (b.b k h)
   ·obtain ⟨t,z⟩:=(m.mem e k).mp h;rw[q] at z;cases z
  |some u=>intro z;cases z
section
variable {B n:Nat}{G:AH}{H:HR}{L C K E S:Nat}{ns:List Int}{sl:List D}{u j:Nat}
theorem qFb(I:LI G H L C K E S ns sl u j)(hj:j<60)(r:Int)(x0 x6 x7 x9 x10:Option D):∃ G' H' C',qB (qA fns B (n+10)) B dI (sv x0 H.p L C K E x6 x7 (some (.int r)) x9 x10) G =
      .nx (sv x0 H.p L C' K E x6 x7 (some (.int r)) x9 x10) G'/\H'.p=H.p/\LI G' H' L C' K E S ns sl u (j+1):=by
  obtain ⟨kc,hC,mC,lC⟩:=I.cC;obtain ⟨kb,hK,bK,lK⟩:=I.cK;obtain ⟨es,hE,lE,pE⟩:=I.cE;obtain ⟨ks,ek,nk⟩:=mC.ks;have l1:=I.l1;have l2:=I.l2;have hy:=I.y;have ht:=I.t;have lks:ks.length<=j:=by have:=congrArg List.length ek;rw[List.length_map,List.length_map] at this;lia
  have gLL:getL G L=some [.int H.life,.int H.yours]:=by unfold getL;rw[I.gL]
  have nL:=I.hs.noL gLL;have neL:∀ {i:Nat} {kvs:List (Ky × D)},G[i]?=some (.dct kvs)->L≠i:=fun e z=>by rw[<- z,I.gL] at e;cases e
  have neE:∀ {i:Nat} {kvs:List (Ky × D)},G[i]?=some (.dct kvs)->E≠i:=fun e z=>by rw[<- z,hE] at e;cases e
  obtain ⟨G1,hG1⟩:∃ G1,G1=G.set L (.lst [.int H.life,.int ((H.yours+1:Nat):Int)]):=⟨_,rfl⟩;have f1:Fq [L,K] G G1:=by rw[hG1];exact Fq.set (by simp) _ _
  have C1:G1[C]?=some (.dct kc):=by rw[hG1,List.getElem?_set_ne (neL hC)];exact hC
  have K1:G1[K]?=some (.dct kb):=by rw[hG1,List.getElem?_set_ne (neL hK)];exact hK
  have L1:G1[L]?=some (.lst [.int H.life,.int ((H.yours+1:Nat):Int)]):=by rw[hG1];exact zD I.gL _
  have keys:jE kc=ks.map fun k:Nat=>D.int (k:Int):=by
    have:jE kc=(kc.map (·.1)).map kyD:=by unfold jE;rw[List.map_map];rfl
    rw[this,ek,List.map_map];rfl
  have mp:zG (jW (den (qA fns B (n+10)) gT) (qJ (qA fns B (n+10)) (.val (.lit (.bl true)))) (sv x0 H.p L C K E x6 x7 (some (.int r)) x9 x10)) (ks.map fun k:Nat=>D.int (k:Int)) (G1.set C (.rod kc))=.ok (ks.map fun k:Nat=>D.tup [.int (k:Int),.bl true]) (G1.set C (.rod kc)):=by
    have:=uY (jW (den (qA fns B (n+10)) gT) (qJ (qA fns B (n+10)) (.val (.lit (.bl true)))) (sv x0 H.p L C K E x6 x7 (some (.int r)) x9 x10)) (fun d=>.tup [d,.bl true]) (G1.set C (.rod kc)) (ks.map fun k:Nat=>D.int (k:Int)) (fun x hx=>by
      unfold jW
      simp! only [sv,gT,if_pos (show 2<=16777216 by lia)])
    rw[List.map_map] at this;exact this
  generalize hps:(ks.map fun k:Nat=>D.tup [.int (k:Int),.bl true])=ps at mp;have lps:ps.length<=j:=by rw[<- hps,List.length_map];exact lks
  have po:kG ps=some (ks.map fun k:Nat=>(Ky.int (k:Int),D.bl true)):=by rw[<- hps];exact pairs_of ks
  have bk:=bK.hello mC ek;have ln:=hV (zI [] (ks.map fun k:Nat=>(Ky.int (k:Int),D.bl true))) kb;have ln2:=hV (ks.map fun k:Nat=>(Ky.int (k:Int),D.bl true)) [];have lkp:(ks.map fun k:Nat=>(Ky.int (k:Int),D.bl true)).length<=j:=by rw[List.length_map];exact lks
  generalize (ks.map fun k:Nat=>(Ky.int (k:Int),D.bl true))=kp at *;rw[List.length_nil,Nat.zero_add] at ln2;generalize hmk:zI [] kp=mk at *;generalize hmb:zI kb mk=mb at *;have lC1:=(List.getElem?_eq_some_iff.mp C1).1;have lK1:=(List.getElem?_eq_some_iff.mp K1).1;have t1:(G1.set C (.rod kc)++[O.lst ps])[C]?=some (.rod kc):=qK _ (zD C1 _)
  have t2:(G1.set C (.rod kc)++[O.lst ps]).set C (.dct kc)=G1++[.lst ps]:=by
    rw[List.set_append_left _ _ (by rw[List.length_set];exact lC1),List.set_set,vP C1]
  have t3:getL (G1++[O.lst ps]) G1.length=some ps:=by rw[jG];rfl
  have sl1:(G1.set C (.rod kc)).length=G1.length:=by simp
  have gl2:(G1++[O.lst ps]).length=G1.length+1:=by simp
  obtain ⟨G4,hG4⟩:∃ G4,G4=(G1++[O.lst ps]++[O.dct mk]).set K (.dct mb):=⟨_,rfl⟩;have f4:Fq [L,K] G G4:=by rw[hG4];exact ((f1.trans (Fq.app _ _ _)).trans (Fq.app _ _ _)).trans (Fq.set (by simp) _ _)
  have k3:(G1++[O.lst ps]++[O.dct mk])[K]?=some (.dct kb):=qK _ (qK _ K1);have k4:(G1++[O.lst ps]++[O.dct mk])[G1.length+1]?=some (.dct mk):=by rw[List.append_assoc,jT];rfl
  have up:aL K (G1.length+1) (G1++[O.lst ps]++[O.dct mk])=.ok .non G4:=by
    unfold aL;rw[k3,k4];show (if K≠G1.length+1/\kb.length+mk.length<16777216 then R.ok D.non _ else .bad)=_;rw[if_pos ⟨by lia,by lia⟩,hmb,hG4]
  have L4:G4[L]?=some (.lst [.int H.life,.int ((H.yours+1:Nat):Int)]):=by
    rw[hG4,List.getElem?_set_ne (fun z=>neL hK z.symm)];exact qK _ (qK _ L1)
  have o5:Hs (G4++[.dct []]) H:=I.hs.keep (f4.trans (Fq.app _ _ _)) fun i hi z=>by
    simp only[List.mem_cons,List.not_mem_nil,or_false] at z;rcases z with rfl | rfl
    . exact nL hi
    . exact I.nK hi
  obtain ⟨m,hm,hm2⟩:∃ m:Nat,((H.life:Nat):Int)*(r % 2)=(m:Int)/\m<=H.life:=by
    have:r % 2=0\/r % 2=1:=by lia
    rcases this with z | z
    . exact⟨0,by rw[z,Int.mul_zero];rfl,Nat.zero_le _⟩
    . exact⟨H.life,by rw[z,Int.mul_one],Nat.le_refl _⟩
  obtain ⟨g6,e6⟩:=bN B (n+3) (fS (H.yours+1) m (by lia) (by lia) (by lia) (by lia)) (G4++[.dct []]);have e6:qA fns B (n+10) 30 [.tup [.str [104,101,108,108,111],.int ((H.yours+1:Nat):Int),.int (m:Int)]] (G4++[.dct []])=.ok (wrD (.tup [.str HELLO,.int ((H.yours+1:Nat):Int),.int (m:Int)])) (G4++[.dct []]++g6):=e6;obtain ⟨i7,G7,H7,e7,o7,x7',p7,r7,v7,y7,s7⟩:=qJ5 (B:=B) (n:=n+1) (o5.app g6) (by lia) (H.yours+1) m (by lia) (by lia) hm2 l1 (by lia);have nx:Nx (G4++[.dct []]) H G7 H7:=(Nx.app H g6).trans x7';have lt4:G.length<=G4.length:=f4.1;have C5:(G4++[O.dct []])[G4.length]?=some (.dct []):=by rw[zY];rfl
  have nC5:G4.length∉Own H:=fun z=>by have:=I.hs.lt z;lia
  have s5:(G4++[O.dct []]).set G4.length (.dct [])=G4++[.dct []]:=vP C5;have kk:∀ {i:Nat} {x:O},i∉[L,K]->i∉Own H->G[i]?=some x->G7[i]?=some x:=fun a b e=>nx.1.2 _ _ b (qK _ (f4.2 _ _ a e))
  have kl:∀ {i:Nat} {xs:List D},i≠L->getL G i=some xs->getL G7 i=some xs:=fun {i xs} a e=>by
    have nk:i≠K:=fun z=>by rw[z] at e;rw[jU hK] at e;cases e
    rcases lI e with q | q
    . have:=kk (i:=i) (by simp only[List.mem_cons,List.not_mem_nil,or_false,not_or];exact⟨a,nk⟩) (I.hs.noL e) q
      unfold getL;rw[this]
    . have:=kk (i:=i) (by simp only[List.mem_cons,List.not_mem_nil,or_false,not_or];exact⟨a,nk⟩) (I.hs.noL e) q
      unfold getL;rw[this]
  have g0L:getL G 0=some (ns.map .int):=by unfold getL;rw[I.g0]
  have gEL:getL G E=some es:=by unfold getL;rw[hE]
  have lKG:=(List.getElem?_eq_some_iff.mp hK).1;have K4:G4[K]?=some (.dct mb):=by rw[hG4];exact zD k3 _
  have own7:∀ {i:Nat},i<(G4++[O.dct []]).length->i∉Own H->i∉Own H7:=fun a b z=>by
    rcases nx.2 _ z with q | q
    . exact b q
    . lia
  have lG5:(G4++[O.dct []]).length=G4.length+1:=by simp
  refine⟨G7,H7,G4.length,?_,p7,⟨o7,?_,kl I.nSL I.gS,?_,⟨[],nx.1.2 _ _ nC5 C5,by rw[s7];exact Cm.nil,Nat.zero_le _⟩,⟨mb,nx.1.2 _ _ I.nK (qK _ K4),by rw[s7];exact bk,by lia⟩,⟨es,?_,by lia,fun d hd=>?_⟩,own7 (by lia) nC5,own7 (by lia) I.nK,by lia,I.nLE,I.nSL,I.nSE,by lia,by lia,by lia,by rw[s7];unfold brk;rw[List.length_map];lia,fun k t z=>?_⟩⟩
  . have i0:((ixN 2 0).bind fun j=>[D.int H.life,.int ((H.yours+1:Nat):Int)][j]?)=some (.int H.life):=rfl
    have i1:((ixN 2 1).bind fun j=>[D.int H.life,.int ((H.yours+1:Nat):Int)][j]?)=some (.int ((H.yours+1:Nat):Int)):=rfl;have j1:((ixN 2 1).bind fun j=>[D.int H.life,.int (H.yours:Int)][j]?)=some (.int (H.yours:Int)):=rfl;have ix1:ixN 2 1=some 1:=rfl;have mz:zI [] (([]:List Ky).zip ([]:List D))=[]:=rfl;have z0:(([]:List Ky).length=([]:List D).length/\([]:List Ky).length<=15):=⟨rfl,by decide⟩;have y1:(H.yours:Int)+1=((H.yours+1:Nat):Int):=by lia
    have st:G.set L (.lst [D.int H.life,.int ((H.yours+1:Nat):Int)])=G1:=hG1.symm;have mp:zG (jW (den (qA fns B (n+10)) gT) (fun _=>(M.ret (D.bl true)).bind wL) (sv x0 H.p L C K E x6 x7 (some (.int r)) x9 x10)) (ks.map fun k:Nat=>D.int (k:Int)) (G1.set C (.rod kc))=.ok ps (G1.set C (.rod kc)):=mp;have mo:kI ((H.life:Nat):Int) (r % 2):=bL (by lia);have L5:getL (G4++[O.dct []]) L=some [.int H.life,.int ((H.yours+1:Nat):Int)]:=by unfold getL;rw[qK _ L4]
    have hp5:=o5.hp;generalize wrD (.tup [.str HELLO,.int ((H.yours+1:Nat):Int),.int (m:Int)])=WX at *;simp! only [dI,sv,gLL,Option.bind_some,j1,y1,I.gL,ix1,st,K1,C1,if_pos (show kc.length<16777216 by lia),keys,mp,newL,wJ,wF,if_pos (show ps.length<=16777216 by lia),sl1,yK,t1,t2,t3,po,if_pos (show kp.length<16777216 by lia),hmk,gl2,up,vJ,C5,if_pos z0,mz,s5,hp5,lB,tbh,L5,i0,i1,if_pos (show (0:Int)<2 by lia),if_pos mo,hm,e6,e7]
  . exact kk (by simp only[List.mem_cons,List.not_mem_nil,or_false,not_or];exact⟨fun z=>I.L0 z.symm,fun z=>by rw[<- z,I.g0] at hK;cases hK⟩) (I.hs.noL g0L) I.g0
  . rw[v7,y7];exact nx.1.2 _ _ nL (qK _ L4)
  . exact kk (by simp only[List.mem_cons,List.not_mem_nil,or_false,not_or];exact⟨fun z=>I.nLE z.symm,neE hK⟩) (I.hs.noL gEL) hE
  . obtain ⟨a,b,xs,e,ga,gb,na,nb⟩:=pE d hd
    exact⟨a,b,xs,e,kl (fun z=>na (by rw[z];simp)) ga,kl (fun z=>nb (by rw[z];simp)) gb,na,nb⟩
  . rw[s7,iF] at z
    cases q:lkT H.ts k with
    |none=>rw[q] at z;cases z
    |some u=>rw[q] at z;cases z
end
section
variable {B n:Nat}{G G':AH}{H H':HR}{L C K E S:Nat}{ns:List Int}{sl:List D}{u j:Nat}
theorem LI.app(I:LI G H L C K E S ns sl u j)(g:AH):LI (G++g) H L C K E S ns sl u j:=by
 obtain ⟨kc,hC,mC,lC⟩:=I.cC;obtain ⟨kb,hK,bK,lK⟩:=I.cK;obtain ⟨es,hE,lE,pE⟩:=I.cE
 exact⟨I.hs.app g,qK g I.g0,jO g I.gS,qK g I.gL,⟨kc,qK g hC,mC,lC⟩,⟨kb,qK g hK,bK,lK⟩,⟨es,qK g hE,lE,fun d hd=>(pE d hd).keep (Fq.app [] _ _) (by simp)⟩,I.nC,I.nK,I.nCK,I.nLE,I.nSL,I.nSE,I.l1,I.l2,I.y,I.t,I.pre⟩
theorem LI.next(I:LI G H L C K E S ns sl u j)(x:Nx G H G' H')(o:Hs G' H')(hl:H'.life=H.life)(hy:H'.yours=H.yours)(m:Cm kc H'.ts)(lc:kc.length<=j+1)(b:∀ kb,Bk kb H.ts->Bk kb H'.ts)(t:H'.ts.length<=j+1)
  (pre:∀ k t,lkT H'.ts k=some (some t)->t.x=(sgt ((k:Int)+(H.yours:Int)*5)).take t.x.length):LI (G'.set C (.dct kc)) H' L C K E S ns sl u (j+1):=by
 have s:=I.side x;obtain ⟨kc0,hC,mC,lC⟩:=I.cC;obtain ⟨kb,hK,bK,lK⟩:=I.cK;obtain ⟨es,hE,lE,pE⟩:=I.cE;have hC':=s.o _ _ (by simp) hC;have hK':=s.o _ _ (by simp) hK;have hE':=s.o _ _ (by simp) hE;have f:Fq [C] G' (G'.set C (.dct kc)):=Fq.set (by simp) _ _
 have nl:∀ {i:Nat} {xs:List D},getL G' i=some xs->i∉[C]:=fun e z=>by
  rw[List.mem_singleton.mp z,jU hC'] at e;cases e
 have g0L:getL G' 0=some (ns.map .int):=by unfold getL;rw[s.g0]
 have gLL:getL G' L=some [.int H.life,.int H.yours]:=by unfold getL;rw[s.gL]
 have gEL:getL G' E=some es:=by unfold getL;rw[hE']
 have ny:=I.y;refine⟨o.keep f fun i hi z=>s.nC (by rw[List.mem_singleton] at z;rw[<- z];exact hi),f.2 _ _ (nl g0L) s.g0,f.getL (nl s.gS) s.gS,by rw[hl,hy];exact f.2 _ _ (nl gLL) s.gL,⟨kc,zD hC' _,m,lc⟩,⟨kb,f.2 _ _ (by simpa using I.nCK.symm) hK',b kb bK,by lia⟩,⟨es,f.2 _ _ (nl gEL) hE',by lia,fun d hd=>(s.p d (pE d hd)).keep f fun i xs e _=>nl e⟩,s.nC,s.nK,I.nCK,I.nLE,I.nSL,I.nSE,by rw[hl];exact I.l1,by rw[hl];exact I.l2,by lia,t,by rw[hy];exact pre⟩
theorem qFc(I:LI G H L C K E S ns sl u j)(hl:H.life<40)(x0 x6 x7 x8 x9 x10:Option D):∃ G' H' L' C' K',qB (qA fns B (n+10)) B rF (sv x0 H.p L C K E x6 x7 x8 x9 x10) G =
      .nx (sv x0 H.p L' C' K' E x6 x7 x8 x9 x10) G'/\H'.p=H.p/\LI G' H' L' C' K' E S ns sl u (j+1):=by
  obtain ⟨G1,e1,o1,x1⟩:=qJ8 (B:=B) (n:=n+7) I.hs hl;have s:=I.side x1;obtain ⟨es,hE,lE,pE⟩:=I.cE;have lt:=x1.1.1;have sS:=lN I.gS;have sE:=(List.getElem?_eq_some_iff.mp hE).1;have gLL:getL G1 L=some [.int H.life,.int H.yours]:=by unfold getL;rw[s.gL]
  obtain ⟨G2,hG2⟩:∃ G2:AH,G2=[O.lst [.int ((H.life+1:Nat):Int),.int ((0:Nat):Int)],.dct [],.dct []]:=⟨_,rfl⟩
  have nn:∀ i,G1.length<=i->i∉Own (⟨H.p,G.length,G.length+1,G.length+2,H.room,H.life+1,0,false,[]⟩:HR):=fun i hi z=>by
    have:=o1.lt z;lia
  refine⟨G1++G2,⟨H.p,G.length,G.length+1,G.length+2,H.room,H.life+1,0,false,[]⟩,G1.length,G1.length+1,G1.length+2,?_,rfl,⟨o1.app G2,qK _ s.g0,jO _ s.gS,?_,⟨[],?_,⟨⟨[],rfl,.nil⟩,fun k=>rfl⟩,Nat.zero_le _⟩,⟨[],?_,⟨(fun k z=>by cases z),(fun k z=>by cases z)⟩,Nat.zero_le _⟩,⟨es,qK _ (s.o _ _ (by simp) hE),by lia,fun d hd=>?_⟩,nn (G1.length+1) (by lia),nn (G1.length+2) (by lia),by lia,by lia,by lia,I.nSE,by show 1<=H.life+1;lia,hl,Nat.zero_le _,Nat.zero_le _,(fun k t z=>by cases z)⟩⟩
  . have i0:((ixN 2 0).bind fun j=>[D.int H.life,.int (H.yours:Int)][j]?)=some (.int H.life):=rfl
    have z0:(([]:List Ky).length=([]:List D).length/\([]:List Ky).length<=15):=⟨rfl,by decide⟩;have mz:zI [] (([]:List Ky).zip ([]:List D))=[]:=rfl;have y1:(H.life:Int)+1=((H.life+1:Nat):Int):=by lia
    rw[hG2];have l2:(G1++[O.lst [.int ((H.life+1:Nat):Int),.int 0]]).length=G1.length+1:=by simp
    simp! only [rF,sv,I.hs.hp,qL5,tbh,e1,gLL,Option.bind_some,i0,y1,vJ,l2,List.append_assoc,List.cons_append,List.nil_append,jT,uP,if_pos z0,mz,List.length_append] <;> rfl
  . rw[zY,hG2];rfl
  . rw[jT,hG2];rfl
  . rw[jT,hG2];rfl
  . obtain ⟨a,b,xs,e,ga,gb,na,nb⟩:=s.p d (pE d hd)
    obtain ⟨a',b',xs',e',ga',gb',_,_⟩:=pE d hd;rw[e] at e';cases e';have la:=lN ga';have lb:=lN gb';simp only[List.mem_cons,List.not_mem_nil,or_false,not_or] at na nb;refine⟨a,b,xs,e,jO _ ga,jO _ gb,?_,?_⟩
    . simp only[List.mem_cons,List.not_mem_nil,or_false,not_or];exact⟨by lia,na.2⟩
    . simp only[List.mem_cons,List.not_mem_nil,or_false,not_or];exact⟨by lia,nb.2⟩
theorem qFe(hB:1<=B)(I:LI G H L C K E S ns sl u j)(hj:j<60)(hy:1<=H.yours)(k:Nat)(hk:k<50)(r:Int)(x0 x6 x9 x10:Option D):∃ G' H',qB (qA fns B (n+10)) B rE (sv x0 H.p L C K E x6 (some (.int (k:Nat))) (some (.int r)) x9 x10) G =
      .nx (sv x0 H.p L C K E x6 (some (.int (k:Nat))) (some (.int r)) x9 x10) G'/\H'.p=H.p/\LI G' H' L C K E S ns sl u (j+1):=by
  have l1:=I.l1;have l2:=I.l2;have y2:=I.y;have ht:=I.t;have gLL:getL G L=some [.int H.life,.int H.yours]:=by unfold getL;rw[I.gL]
  obtain ⟨g1,e1⟩:=qJs B (n+9) ((k:Int)+(H.yours:Int)*5) G;have I1:=I.app g1;obtain ⟨kc,hC,mC,lC⟩:=I1.cC
  have pre:(cur H k).1=(sgt ((k:Int)+(H.yours:Int)*5)).take (cur H k).1.length:=by
    unfold cur;split
    . rename_i t q;exact I.pre k t q
    . rfl
  obtain ⟨G2,H2,x,b,e2,o2,x2,T2,px⟩:=qJz (n:=n) hB I1.hs (by lia) hy (by lia) l1 (by lia) hk hC (mC.v k) (jO g1 gLL) r (sgt ((k:Int)+(H.yours:Int)*5)) (qGN _) (qGM _) pre;obtain ⟨t,htk⟩:=T2.t;have ct:=gN htk;rw[T2.c] at ct;have tx:t.x=x:=(congrArg (fun c:Tx × Nat × Bool=>c.1) ct).symm;have tr:t.rd=(cur H k).2.1:=(congrArg (fun c:Tx × Nat × Bool=>c.2.1) ct).symm;have dd:cmD (x,(cur H k).2.1,b)=.tup [.str t.x,.int t.rd]:=by unfold cmD;rw[tx,tr]
  rw[dd] at e2;have s:=I1.side x2;have hC2:=s.o _ _ (by simp) hC;have ey:H2.yours=H.yours:=by rw[T2.e]
  have el:H2.life=H.life:=by rw[T2.e]
  have tl:=T2.l;have lp:=iG kc (.int (k:Int)) (.tup [.str t.x,.int t.rd]);refine⟨G2.set C (.dct (zE kc (.int (k:Int)) (.tup [.str t.x,.int t.rd]))),H2,?_,by rw[T2.e],I1.next x2 o2 el ey (mC.put k t htk T2.o) (by lia) (fun kb q=>⟨fun i z=>?_,fun i z=>?_⟩) (by lia) (fun i u z=>?_)⟩
  . have i1:((ixN 2 1).bind fun j=>[D.int H.life,.int (H.yours:Int)][j]?)=some (.int H.yours):=rfl
    have mo:kI (H.yours:Int) 5:=qBO (by lia);generalize sgt ((k:Int)+(H.yours:Int)*5)=W at *;simp! only [rE,sv,gLL,Option.bind_some,i1,if_pos mo,e1,e2,hC2,kN,if_pos (show kc.length<16777216 by lia)]
  . by_cases c:i=k
    . rw[c,htk] at z;cases z
    . rw[T2.o i c] at z;exact q.a i z
  . by_cases c:i=k
    . rw[c,htk];intro z;cases z
    . rw[T2.o i c];exact q.b i z
  . by_cases c:i=k
    . rw[c,htk] at z
      cases z;rw[c,tx];exact px
    . rw[T2.o i c] at z;exact I.pre i u z
theorem qFZ(I:LI G H L C K E S ns sl u j)(hj:j<60)(k:Nat)(r:Int)(x0 x6 x9 x10:Option D):∃ G' H' y9,qB (qA fns B (n+10)) B dH (sv x0 H.p L C K E x6 (some (.int (k:Nat))) (some (.int r)) x9 x10) G =
      .nx (sv x0 H.p L C K E x6 (some (.int (k:Nat))) (some (.int r)) y9 x10) G'/\H'.p=H.p/\LI G' H' L C K E S ns sl u (j+1):=by
  obtain ⟨kc,hC,mC,lC⟩:=I.cC;obtain ⟨kb,hK,bK,lK⟩:=I.cK;have ht:=I.t;obtain ⟨c,qc,_⟩:=wU r 202 (by lia);obtain ⟨G2,H2,v,e2,o2,x2,q2,l2,ot,or⟩:=qJt (B:=B) (n:=n+5) I.hs (k:=k) c hC hK I.nC (mC.v k) (bK.a k) (bK.b k);have s:=I.side x2;have hC2:=s.o _ _ (by simp) hC;have ey:H2.yours=H.yours:=by rw[q2]
  have el:H2.life=H.life:=by rw[q2]
  have hp:H2.p=H.p:=by rw[q2]
  rcases or with⟨lk,no⟩ | ⟨t,t',lk,lk',tx,tr⟩
  . have all:∀ i,lkT H2.ts i=lkT H.ts i:=fun i=>by
      by_cases z:i=k
      . rw[z];exact lk
      . exact ot i z
    have hv:qH kc (.int (k:Nat))=none:=by
      rw[mC.v k];unfold cmV;rcases q:lkT H.ts k with _ | _ | t
      . rfl
      . rfl
      . exact absurd q (no t)
    have N:=I.next x2 o2 el ey (kc:=kc) (mC.same fun i=>by unfold cmV;rw[all i]) (by lia) (fun kb q=>⟨fun i z=>q.a i (by rw[<- all i];exact z),fun i z=>by rw[all i];exact q.b i z⟩) (by lia) (fun i u z=>I.pre i u (by rw[<- all i];exact z));rw[vP hC2] at N;refine⟨G2,H2,some (.int (v:Nat)),?_,hp,N⟩;simp! only [dH,sv,if_pos (show (0:Int)<202 by lia),qc,e2,rD,jU hC2,Option.bind_none,kW,hC2,hv,Option.isSome_none]
  . have hv:qH kc (.int (k:Nat))=some (.tup [.str t.x,.int t.rd]):=by rw[mC.v k];unfold cmV;rw[lk]
    have lp:=iG kc (.int (k:Int)) (.tup [.str t'.x,.int t'.rd])
    have lt:kc.length<=(zE kc (.int (k:Int)) (.tup [.str t'.x,.int t'.rd])).length:=by
      unfold zE;split
      . rw[List.length_map];exact Nat.le_refl _
      . rw[List.length_append];lia
    have N:=I.next x2 o2 el ey (mC.put k t' lk' ot) (by lia) (fun kb q=>⟨fun i z=>by
      by_cases e:i=k
      . rw[e,lk'] at z;cases z
      . rw[ot i e] at z;exact q.a i z,fun i z=>by
      by_cases e:i=k
      . rw[e,lk'];intro z;cases z
      . rw[ot i e];exact q.b i z⟩) (by lia) (fun i u z=>by
      by_cases e:i=k
      . rw[e,lk'] at z
        cases z;rw[e,tx];exact I.pre k t lk
      . rw[ot i e] at z;exact I.pre i u z)
    refine⟨_,H2,some (.int (v:Nat)),?_,hp,N⟩;have i0:∀ u v:D,((ixN 2 0).bind fun j=>[u,v][j]?)=some u:=fun _ _=>rfl;rw[tx,tr];simp! only [dH,sv,if_pos (show (0:Int)<202 by lia),qc,e2,rD,jU hC2,Option.bind_none,kW,hC2,hv,Option.isSome_some,qDw,ixK,i0,kN,if_pos (show kc.length<16777216 by lia)]
end
theorem qBV(f:D->M (Option D))(r:D->Option D)(i:Nat)(xs:List D)(h:AH)(hg:getL h i=some xs)(H:∀ x∈xs,f x h=.ok (r x) h):∀ (n k:Nat),n+k=xs.length+1->k<=xs.length->zR f i n k h=.ok ((xs.drop k).filterMap r) h
 |0,k,hn,hk=>by lia
 |n+1,k,hn,hkl=>by
  unfold zR;rw[hg];simp only
  by_cases hk:k<xs.length
  ·have e:xs[k]?=some xs[k]:=by simp[hk]
   rw[e];simp only[M.bind_eq,H _ (List.getElem_mem hk),R.bind_ok,qBV f r i xs h hg H n (k+1) (by lia) hk,M.ret_eq];rw[List.drop_eq_getElem_cons hk];cases q:r xs[k] with
   |none=>rw[List.filterMap_cons_none q]
   |some y=>rw[List.filterMap_cons_some q]
  ·have e:xs[k]?=none:=by simp;lia
   rw[e,List.drop_eq_nil_of_le (by lia)];rfl
theorem qJZ(f:D->M (Option D))(r:D->Option D)(i:Nat)(xs:List D)(h:AH)(hg:getL h i=some xs)(hl:xs.length<=1000000)(H:∀ x∈xs,f x h=.ok (r x) h):yO f (.live i) h=.ok (xs.filterMap r) h:=by
 have e:zS h i=xs.length+1:=by unfold zS;rw[hg];rfl
 rw[iA,e,if_pos (by lia),qBV f r i xs h hg H _ 0 rfl (Nat.zero_le _),List.drop_zero]
theorem qCS:∀ (kc:List (Ky × D)) (ks:List Nat),kc.map (·.1)=ks.map (fun k:Nat=>Ky.int (k:Int))->wZ kc=some (zN ks)
 | [],[],_=>rfl
 |p::r,k::l,e=>by
  rw[List.map_cons,List.map_cons] at e;injection e with e1 e2;obtain ⟨y,d⟩:=p;have e1:y=.int (k:Int):=e1;rw[e1,wZ,qCS r l e2];rfl
theorem qCP(xs:List Int):∀ d∈xs.map D.int,(∃ b,d=.bl b)\/(∃ i,d=.int i)\/∃ x,d=.str x:=fun d hd=>by
 obtain ⟨i,_,rfl⟩:=List.mem_map.mp hd;exact .inr (.inl ⟨i,rfl⟩)
section
variable {B n:Nat}{G:AH}{H:HR}{L C K E S:Nat}{ns:List Int}{sl:List D}{u j:Nat}
theorem qFa(I:LI G H L C K E S ns sl u j)(hj:j<60)(hu:u<60)(x0 x6 x7 x8 x9 x10:Option D):∃ G' y10,qB (qA fns B (n+10)) B gR (sv x0 H.p L C K E x6 x7 x8 x9 x10) G =
      .nx (sv x0 H.p L C K E x6 x7 x8 x9 y10) G'/\LI G' H L C K E S ns sl (u+1) j:=by
  obtain ⟨kc,hC,mC,lC⟩:=I.cC;obtain ⟨kb,hK,bK,lK⟩:=I.cK;obtain ⟨es,hE,lE,pE⟩:=I.cE;obtain ⟨ks,ek,nk⟩:=mC.ks;have ht:=I.t;have lks:ks.length<=j:=by have:=congrArg List.length ek;rw[List.length_map,List.length_map] at this;lia
  have e1:=qJx (B:=B) (n:=n+8) I.hs (by lia);have ss:zO (zN (wk H.ts))=zO (zN ks):=qGG (qEk I.hs.kn) nk fun x=>by rw[qEl I.hs.kn,mC.mem ek]
  rw[ss] at e1;have sw:(zN ks).length=ks.length:=by unfold zN;rw[List.length_map]
  have sz:=qAT (zN ks);have ik:=qCS kc ks ek;generalize hw:(zN (wk H.ts)).map D.int=w at e1;generalize hz:zO (zN ks)=z at *;generalize hG1:G++[O.lst w,.lst (z.map .int)]=G1 at e1;have a1:getL G1 (G.length+1)=some (z.map .int):=by rw[<- hG1,vH];rfl
  have l1:G1.length=G.length+2:=by rw[<- hG1,List.length_append];rfl
  have C1:G1[C]?=some (.dct kc):=by rw[<- hG1];exact qK _ hC
  have E1:getL G1 E=some es:=by unfold getL;rw[<- hG1,qK _ hE]
  have E2:(G1++[O.lst (z.map .int)])[E]?=some (.lst es):=by rw[<- hG1];exact qK _ (qK _ hE)
  have lEG:=(List.getElem?_eq_some_iff.mp hE).1;obtain ⟨G3,hG3⟩:∃ G3,G3=(G1++[O.lst (z.map .int)]).set E (.lst (es++[.tup [.ref (G.length+1),.ref (G.length+2)]])):=⟨_,rfl⟩;have f3:Fq [E] G1 G3:=by rw[hG3];exact (Fq.app _ _ _).trans (Fq.set (by simp) _ _)
  have f:Fq [E] G (G3++[.lst (z.map .int)]):=((by rw[<- hG1];exact Fq.app _ _ _:Fq [E] G G1).trans f3).trans (Fq.app _ _ _);have gEL:getL G E=some es:=by unfold getL;rw[hE]
  have a3:getL G3 (G.length+1)=some (z.map .int):=f3.getL (by simp only[List.mem_singleton];lia) a1;have a2:getL (G1++[O.lst (z.map .int)]) (G.length+2)=some (z.map .int):=by rw[<- l1,jG];rfl
  have b3:getL G3 (G.length+2)=some (z.map .int):=by
    rw[hG3];exact (Fq.set (M:=[E]) (by simp) _ _).getL (by simp only[List.mem_singleton];lia) a2
  have C3:G3[C]?=some (.dct kc):=f3.2 _ _ (fun q=>by rw[List.mem_singleton] at q;rw[q,hE] at hC;cases hC) C1;have E3:G3[E]?=some (.lst (es++[.tup [.ref (G.length+1),.ref (G.length+2)]])):=by rw[hG3];exact zD E2 _
  have c4:getL (G3++[O.lst (z.map .int)]) G3.length=some (z.map .int):=by rw[jG];rfl
  have q1:=gI (jO [O.lst (z.map .int)] a3) c4 (qCP z)
  have nE:∀ {i:Nat} {x:O},G[i]?=some x->(∀ ys,x≠.lst ys)->i∉[E]:=fun e h q=>by
    rw[List.mem_singleton.mp q,hE] at e;cases e;exact h _ rfl
  have o4:=I.hs.keep f fun i hi q=>I.hs.noL gEL (by rw[List.mem_singleton] at q;rw[<- q];exact hi);have gL4:=f.2 _ _ (by simpa using I.nLE) I.gL;have gLL:getL (G3++[O.lst (z.map .int)]) L=some [.int H.life,.int H.yours]:=by unfold getL;rw[gL4]
  have lL:=(List.getElem?_eq_some_iff.mp I.gL).1;refine⟨G3++[.lst (z.map .int)],some (.ref (G.length+1)),?_,⟨o4,f.2 _ _ (nE I.g0 (fun _=>by intro q;cases q)) I.g0,f.getL (by simpa using I.nSE) I.gS,gL4,⟨kc,qK _ C3,mC,lC⟩,⟨kb,f.2 _ _ (nE hK (fun _=>by intro q;cases q)) hK,bK,lK⟩,⟨_,qK _ E3,by rw[List.length_append];exact Nat.succ_le_succ lE,fun d hd=>?_⟩,I.nC,I.nK,I.nCK,I.nLE,I.nSL,I.nSE,I.l1,I.l2,I.y,I.t,I.pre⟩⟩
  . have i0:((ixN 2 0).bind fun j=>[D.int H.life,.int (H.yours:Int)][j]?)=some (.int H.life):=rfl
    have st:(G1++[O.lst (z.map .int)]).set E (.lst (es++[.tup [.ref (G.length+1),.ref (G.length+2)]]))=G3:=hG3.symm;have hp4:=o4.hp
    have ee:kL (G3++[O.lst (z.map .int)]) (.int (H.life:Int)) (.int (H.life:Int))=some true:=by
      show some ((H.life:Int) == (H.life:Int))=_;rw[beq_self_eq_true]
    have E2':(G1++[O.lst (z.map .int)])[E]?=some (.lst es):=E2;simp! only [gR,sv,I.hs.hp,qL4,tbh,e1,E1,jU C1,yN,C1,ik,hz,newL,wJ,wF,List.length_map,if_pos (show ks.length<64 by lia),sw,if_pos (show z.length<=16777216 by lia),l1,E2',if_pos (show es.length<16777216 by lia),st,jU C3,C3,q1,hp4,lF,gLL,Option.bind_some,i0,ee]
  . rcases List.mem_append.mp hd with hd | hd
    . exact (pE d hd).keep f fun i xs e na q=>na (by rw[List.mem_singleton] at q;rw[q];simp)
    . rw[List.mem_singleton] at hd
      refine⟨G.length+1,G.length+2,z,hd,jO _ a3,jO _ b3,?_,?_⟩
      . simp only[List.mem_cons,List.not_mem_nil,or_false,not_or];lia
      . simp only[List.mem_cons,List.not_mem_nil,or_false,not_or];lia
end
theorem dsq(F:Nat->List D->M D)(B:Nat)(a b:CS)(U:Fy.Env)(h:AH):qB F B (.seq a b) U h=(qB F B a U h).andThen (qB F B b):=rfl
section
variable {B n:Nat}{G:AH}{H:HR}{L C K E S:Nat}{ns:List Int}{sl:List D}{u j:Nat}
def b11:CS:=(.ite (.val (.bi .eq (.bi .mod (.var 6) (.lit (.int 9))) (.lit (.int 0)))) dI gP)
theorem qFd(hB:1<=B)(I:LI G H L C K E S ns sl u j)(hj:j<55)(k:Nat)(hk:k<50)(cell r:Int)(x9 x10:Option D):∃ G' H' L' C' K' y9,qB (qA fns B (n+10)) B b11 (sv (some (.ref 0)) H.p L C K E (some (.int cell)) (some (.int (k:Nat))) (some (.int r)) x9 x10) G =
      .nx (sv (some (.ref 0)) H.p L' C' K' E (some (.int cell)) (some (.int (k:Nat))) (some (.int r)) y9 x10) G'/\H'.p=H.p/\LI G' H' L' C' K' E S ns sl u (j+1):=by
  have gLL:getL G L=some [.int H.life,.int H.yours]:=by unfold getL;rw[I.gL]
  have i0:((ixN 2 0).bind fun j=>[D.int H.life,.int (H.yours:Int)][j]?)=some (.int H.life):=rfl;have i1:((ixN 2 1).bind fun j=>[D.int H.life,.int (H.yours:Int)][j]?)=some (.int H.yours):=rfl;have p9:(0:Int)<9:=by lia
  rcases Bool.eq_false_or_eq_true ((cell % 9) == 0) with z | z
  . obtain ⟨G',H',C',e,hp,I'⟩:=qFb (B:=B) (n:=n) I (by lia) r (some (.ref 0)) (some (.int cell)) (some (.int (k:Nat))) x9 x10
    refine⟨G',H',L,C',K,x9,?_,hp,I'⟩;simp! only [b11,sv,if_pos p9,z,e]
  . by_cases c1:((cell % 9) == 1)=true/\((r % 3) == 0)=true/\H.life<40
    . obtain ⟨a1,a2,a3⟩:=c1
      obtain ⟨G',H',L',C',K',e,hp,I'⟩:=qFc (B:=B) (n:=n) I a3 (some (.ref 0)) (some (.int cell)) (some (.int (k:Nat))) (some (.int r)) x9 x10;refine⟨G',H',L',C',K',x9,?_,hp,I'⟩;have d:decide ((H.life:Int)<40)=true:=decide_eq_true (by lia);simp! only [b11,sv,if_pos p9,z,gP,a1,if_pos (show (0:Int)<3 by lia),a2,gLL,Option.bind_some,i0,d,e]
    . have t9:qJ (qA fns B (n+10)) (.and (.val (.bi .eq (.bi .mod (.var 6) (.lit (.int 9))) (.lit (.int 1)))) (.and (.val (.bi .eq (.bi .mod (.var 8) (.lit (.int 3))) (.lit (.int 0)))) (.val (.bi .lt (.bi .ix (.var 2) (.lit (.int 0))) (.lit (.int 40)))))) (sv (some (.ref 0)) H.p L C K E (some (.int cell)) (some (.int (k:Nat))) (some (.int r)) x9 x10) G=.ok false G:=by
        rcases Bool.eq_false_or_eq_true ((cell % 9) == 1) with a1 | a1
        . rcases Bool.eq_false_or_eq_true ((r % 3) == 0) with a2 | a2
          . have d:decide ((H.life:Int)<40)=false:=decide_eq_false (fun q=>c1 ⟨a1,a2,by lia⟩)
            simp! only [sv,if_pos p9,a1,if_pos (show (0:Int)<3 by lia),a2,gLL,Option.bind_some,i0,d]
          . simp! only [sv,if_pos p9,a1,if_pos (show (0:Int)<3 by lia),a2]
        . simp! only [sv,if_pos p9,a1]
      have e9:qB (qA fns B (n+10)) B b11 (sv (some (.ref 0)) H.p L C K E (some (.int cell)) (some (.int (k:Nat))) (some (.int r)) x9 x10) G=qB (qA fns B (n+10)) B gQ (sv (some (.ref 0)) H.p L C K E (some (.int cell)) (some (.int (k:Nat))) (some (.int r)) x9 x10) G:=by
        have h0:qB (qA fns B (n+10)) B b11 (sv (some (.ref 0)) H.p L C K E (some (.int cell)) (some (.int (k:Nat))) (some (.int r)) x9 x10) G=qB (qA fns B (n+10)) B gP (sv (some (.ref 0)) H.p L C K E (some (.int cell)) (some (.int (k:Nat))) (some (.int r)) x9 x10) G:=by
          simp! only [b11,sv,if_pos p9,z]
        rw[h0,gP];dsimp only[qB];rw[t9];rfl
      rw[e9]
      by_cases c2:cell % 9<5/\0<H.yours
      . obtain ⟨G',H',e,hp,I'⟩:=qFe (n:=n) hB I (by lia) c2.2 k hk r (some (.ref 0)) (some (.int cell)) x9 x10
        refine⟨G',H',L,C,K,x9,?_,hp,I'⟩;have d1:decide (cell % 9<5)=true:=decide_eq_true c2.1;have d2:decide ((0:Int)<(H.yours:Int))=true:=decide_eq_true (by lia);simp! only [gQ,sv,if_pos p9,d1,gLL,Option.bind_some,i1,d2,e]
      . obtain ⟨G',H',y9,e,hp,I'⟩:=qFZ (B:=B) (n:=n) I (by lia) k r (some (.ref 0)) (some (.int cell)) x9 x10
        refine⟨G',H',L,C,K,y9,?_,hp,I'⟩
        by_cases d1:cell % 9<5
        . have d2:decide ((0:Int)<(H.yours:Int))=false:=decide_eq_false (fun q=>c2 ⟨d1,by lia⟩)
          simp! only [gQ,sv,if_pos p9,decide_eq_true d1,gLL,Option.bind_some,i1,d2,e]
        . simp! only [gQ,sv,if_pos p9,decide_eq_false d1,e]
theorem qIJ(a c:Int):∃ k:Nat,a % 8*(1+c % 7)=(k:Int)/\k<50:=by
 obtain ⟨x,e1,h1⟩:=wU a 8 (by lia);obtain ⟨y,e2,h2⟩:=wU c 7 (by lia);refine⟨x*(1+y),by rw[e1,e2];rw[Int.natCast_mul,Int.natCast_add];rfl,?_⟩
 have:x*(1+y)<=7*7:=Nat.mul_le_mul (by lia) (by lia)
 lia
theorem step(hB:1<=B)(I:LI G H L C K E S ns sl u j)(hj:j<55)(hu:u<60)(cell:Int)(x7 x8 x9 x10:Option D):∃ G' H' L' C' K' y7 y8 y9 y10,qB (qA fns B (n+10)) B yF (sv (some (.ref 0)) H.p L C K E (some (.int cell)) x7 x8 x9 x10) G =
      .nx (sv (some (.ref 0)) H.p L' C' K' E (some (.int cell)) y7 y8 y9 y10) G'/\H'.p=H.p/\LI G' H' L' C' K' E S ns sl (u+1) (j+1):=by
  have g0L:getL G 0=some (ns.map .int):=by unfold getL;rw[I.g0]
  have e0:=qBh B (n+9) G 0 ns 1 g0L;have e0:qA fns B (n+10) 71 [.ref 0,.int 1] G=.ok (.int (ns.getD 1 0)) G:=e0;obtain ⟨k,ek,hk⟩:=qIJ (cell / 9) (ns.getD 1 0);obtain ⟨G1,H1,L1,C1,K1,y9,e1,hp,I1⟩:=qFd (n:=n) hB I hj k hk cell (cell / 72) x9 x10;obtain ⟨G2,y10,e2,I2⟩:=qFa (B:=B) (n:=n) I1 (by lia) hu (some (.ref 0)) (some (.int cell)) (some (.int (k:Nat))) (some (.int (cell / 72))) y9 x10;rw[hp] at e2;refine⟨G2,H1,L1,C1,K1,some (.int (k:Nat)),some (.int (cell / 72)),y9,y10,?_,hp,I2⟩;have mo:kI (cell / 9 % 8) (1+ns.getD 1 0 % 7):=bL (by lia);have c9:(0:Int)<9/\(9:Int)<1073741824:=by lia
  have c72:(0:Int)<72/\(72:Int)<1073741824:=by lia
  have h0:qB (qA fns B (n+10)) B yF (sv (some (.ref 0)) H.p L C K E (some (.int cell)) x7 x8 x9 x10) G=qB (qA fns B (n+10)) B (.seq b11 gR) (sv (some (.ref 0)) H.p L C K E (some (.int cell)) (some (.int (k:Nat))) (some (.int (cell / 72))) x9 x10) G:=by
    generalize hb:b11=bb;rw[show yF=.seq (.set (.nm 7) (.bi .mul (.bi .mod (.bi .fdiv (.var 6) (.lit (.int 9))) (.lit (.int 8))) (.bi .add (.lit (.int 1)) (.bi .mod (.call 71 (.cons (.var 0) (.cons (.lit (.int 1)) .nil))) (.lit (.int 7)))))) (.seq (.set (.nm 8) (.bi .fdiv (.var 6) (.lit (.int 72)))) (.seq bb gR)) by rw[<- hb];rfl];simp! only [sv,if_pos c9,if_pos (show (0:Int)<8 by lia),e0,if_pos (show (0:Int)<7 by lia),if_pos mo,ek,if_pos c72]
  rw[h0,dsq,e1,tM,e2]
end
theorem qNi(ns:List Int)(lo hi:Option Int):qN (ns.map D.int) lo hi=(qN ns lo hi).map D.int:=by
 unfold qN;rw[List.length_map,List.map_take,List.map_drop]
theorem qKO(_B n:Nat)(ns:List Int)(hz:ns.length<=63):∃ h',qA fns 1000 (n+11) qLS [.ref 0] [.rol (ns.map .int)]=.ok (.bl true) h':=by
 rw[qOW];have gs:getL [.rol (ns.map .int)] 0=some (ns.map .int):=rfl;have e0:=qBh 1000 (n+9) [.rol (ns.map .int)] 0 ns 0 gs;have e0:qA fns 1000 (n+10) 71 [.ref 0,.int 0] [.rol (ns.map .int)]=.ok (.int (ns.getD 0 0)) [.rol (ns.map .int)]:=e0;obtain ⟨m,em,hm⟩:=wU (ns.getD 0 0) 141 (by lia);have i1:=qJ2 (B:=1000) (n:=n+7) [.rol (ns.map .int)] (60+m);simp only[List.length_cons,List.length_nil,List.cons_append,List.nil_append,Nat.reduceAdd,Nat.zero_add] at i1;obtain ⟨cs,hcs⟩:∃ cs,cs=qN ns (some 2) (some 52):=⟨_,rfl⟩
 have lcs:cs.length<=50:=by
  rw[hcs];unfold qN qY;rw[List.length_take];simp only[if_neg (show ¬ (2:Int)<0 by lia),if_neg (show ¬ (52:Int)<0 by lia)]
  have:(2:Int).toNat=2:=rfl
  have:(52:Int).toNat=52:=rfl
  lia
 obtain ⟨G0,hG0⟩:∃ G0:AH,G0=[.rol (ns.map .int),.ins qW (hst (60+m) 1 2 3 4),.ins zC (mtg 1 0 false),.dct [],.dct [],.lst [.int ((1:Nat):Int),.int ((0:Nat):Int)],.dct [],.dct [],.lst [],.lst (cs.map .int)]:=⟨_,rfl⟩
 have start:LI G0 ⟨1,2,3,4,60+m,1,0,false,[]⟩ 5 6 7 8 9 ns (cs.map .int) 0 0:=by
  subst hG0;refine⟨⟨rfl,rfl,rfl,rfl,(fun k t q=>by cases q),by show [1,2,3,4].Nodup;decide,(fun k t q=>by cases q),(fun k t k' t' q=>by cases q),.nil,(fun p q=>by cases q),by show 60<=60+m;lia,by show 60+m<=200;lia⟩,rfl,rfl,rfl,⟨[],rfl,⟨⟨[],rfl,.nil⟩,fun k=>rfl⟩,Nat.le_refl _⟩,⟨[],rfl,⟨(fun k z=>by cases z),(fun k z=>by cases z)⟩,Nat.le_refl _⟩,⟨[],rfl,Nat.le_refl _,(fun d q=>by cases q)⟩,by show 6∉[1,2,3,4];decide,by show 7∉[1,2,3,4];decide,by decide,by decide,by decide,by decide,Nat.le_refl _,by show 1<=40;decide,Nat.le_refl _,Nat.le_refl _,(fun k t z=>by cases z)⟩
 obtain ⟨U',g',Lp,H,L,C,K,x6,x7,x8,x9,x10,e1,hp,I⟩:=qMN (fun k U g=>∃ H L C K x6 x7 x8 x9 x10,U=(sv (some (.ref 0)) 1 L C K 8 x6 x7 x8 x9 x10)/\H.p=1/\LI g H L C K 8 9 ns (cs.map .int) k k)
  (zT (TG.nm 6) (qB (qA fns 1000 (n+10)) 1000 yF)) 9 (cs.map .int) (sv (some (.ref 0)) 1 5 6 7 8 none none none none none) G0
  ⟨_,5,6,7,none,none,none,none,none,rfl,rfl,start⟩
  (fun k U g ⟨H,L,C,K,x6,x7,x8,x9,x10,_,_,I⟩=>I.gS)
  (fun j x U g hj ⟨H,L,C,K,x6,x7,x8,x9,x10,e1,hp,I⟩=>by
   rw[List.getElem?_map] at hj;cases q:cs[j]? with
   |none=>rw[q] at hj;cases hj
   |some cell=>
    rw[q] at hj;cases hj;subst e1;have lj:=(List.getElem?_eq_some_iff.mp q).1;obtain ⟨G',H',L',C',K',y7,y8,y9,y10,e,hp',I'⟩:=step (B:=1000) (n:=n) (by lia) I (by lia) (by lia) cell x7 x8 x9 x10;rw[hp] at e hp';refine⟨_,G',?_,H',L',C',K',some (.int cell),y7,y8,y9,y10,rfl,hp',I'⟩;rw[uI]
    exact e)
 subst e1;obtain ⟨es,hE,lE,pE⟩:=I.cE;have gE:getL g' 8=some es:=by unfold getL;rw[hE]
 rw[List.length_map] at lE
 have mp:=qJZ (jH (den (qA fns 1000 (n+10)) rG) (sv (some (.ref 0)) 1 L C K 8 x6 x7 x8 x9 x10)) (fun _=>some (.bl true)) 8 es g' gE (by lia) (fun x hx=>by
  obtain ⟨a,b,xs,rfl,ga,gb,_,_⟩:=pE x hx;have i0:∀ u v:D,((ixN 2 0).bind fun j=>[u,v][j]?)=some u:=fun _ _=>rfl;have i1:∀ u v:D,((ixN 2 1).bind fun j=>[u,v][j]?)=some v:=fun _ _=>rfl;have q:=gI ga gb (qCP xs);rw[yE]
  simp! only [rG,sv,i0,i1,q])
 have fm:(es.filterMap fun _=>some (D.bl true))=es.map fun _=>D.bl true:=by
  rw[List.filterMap_eq_map']
 rw[fm] at mp
 have al:uD (es.map fun _=>D.bl true)=some true:=by
  rw[eK fun _:D=>true];simp
 refine⟨g'++[.lst (es.map fun _=>D.bl true)],?_⟩
 have b13:qB (qA fns 1000 (n+10)) 1000 dJ (sv (some (.ref 0)) 1 L C K 8 x6 x7 x8 x9 x10) g'=.rt (.bl true) (g'++[.lst (es.map fun _=>D.bl true)]):=by
  have nl:getL (g'++[O.lst (es.map fun _=>D.bl true)]) g'.length=some (es.map fun _=>D.bl true):=by rw[jG];rfl
  have mp':=mp;rw[iA] at mp';have lv:zS g' 8<16777216:=by unfold zS;rw[gE];show es.length+1<16777216;lia
  rw[if_pos lv] at mp';generalize hms:(es.map fun _=>D.bl true)=ms at *;have lm:ms.length<=16777216:=by rw[<- hms,List.length_map];lia
  simp! only [dJ,sv,gE,if_pos lv,mp',newL,wJ,wF,if_pos lm,nl,Option.bind_some,al]
 have pre:∀ r:CS,qB (qA fns 1000 (n+10)) 1000 (.seq (.set (.nm 1) (.make 1215263604 49 (.cons (.bi .add (.lit (.int 60)) (.bi .mod (.call 71 (.cons (.var 0) (.cons (.lit (.int 0)) .nil))) (.lit (.int 141)))) (.cons (.lit (.int 9)) (.cons (.lit (.int 3)) .nil))))) (.seq (.set (.nm 2) (.lst (.cons (.lit (.int 1)) (.cons (.lit (.int 0)) .nil)))) (.seq (.set (.nm 3) (.disp [] .nil)) (.seq (.set (.nm 4) (.disp [] .nil)) (.seq (.set (.nm 5) (.lst .nil)) r))))) [some (.ref 0),none,none,none,none,none,none,none,none,none,none] [.rol (ns.map .int)] =
   qB (qA fns 1000 (n+10)) 1000 r (sv (some (.ref 0)) 1 5 6 7 8 none none none none none) [.rol (ns.map .int),.ins qW (hst (60+m) 1 2 3 4),.ins zC (mtg 1 0 false),.dct [],.dct [],.lst [.int 1,.int 0],.dct [],.dct [],.lst []]:=fun r=>by
  have r1:(60:Int)+(m:Int)=((60+m:Nat):Int):=by lia
  simp! only [sv,e0,if_pos (show (0:Int)<141 by lia),em,r1,i1,vJ] <;> rfl
 have lp:qB (qA fns 1000 (n+10)) 1000 (.fori (.nm 6) (.of (.sl (.var 0) (.at (.lit (.int 2))) (.at (.lit (.int 52))))) yF) (sv (some (.ref 0)) 1 5 6 7 8 none none none none none) [.rol (ns.map .int),.ins qW (hst (60+m) 1 2 3 4),.ins zC (mtg 1 0 false),.dct [],.dct [],.lst [.int 1,.int 0],.dct [],.dct [],.lst []]=.nx (sv (some (.ref 0)) 1 L C K 8 x6 x7 x8 x9 x10) g':=by
  have g0:∀ r:AH,getL (.rol (ns.map .int)::r) 0=some (ns.map .int):=fun _=>rfl;have g9:getL G0 9=some (cs.map .int):=by rw[hG0];rfl
  have ap:[.rol (ns.map .int),.ins qW (hst (60+m) 1 2 3 4),.ins zC (mtg 1 0 false),.dct [],.dct [],.lst [.int 1,.int 0],.dct [],.dct [],.lst []]++[O.lst (cs.map .int)]=G0:=by rw[hG0];rfl
  simp! only [sv,g0,qNi,<- hcs,List.length_map,if_pos (show cs.length<=16777216 by lia),List.cons_append,List.nil_append];simp only[List.cons_append,List.nil_append] at ap;have ap:([.rol (ns.map .int),.ins qW (hst (60+m) 1 2 3 4),.ins zC (mtg 1 0 false),.dct [],.dct [],.lst [.int 1,.int 0],.dct [],.dct [],.lst [],O.lst (cs.map .int)]:AH)=G0:=ap;simp! only [ap,g9,sv];exact Lp
 show fin (qB _ _ (.seq _ (.seq _ (.seq _ (.seq _ (.seq _ (.seq (.fori (.nm 6) (.of (.sl (.var 0) (.at (.lit (.int 2))) (.at (.lit (.int 52))))) yF) dJ)))))) _ _)=_;rw[pre,dsq,lp,tM,b13];rfl
def top(i:Nat):Stmt:=PySem.Challenge.pw_ferry_k41_takers_by_lives.main.body.getD i (.Pass ⟨0,0,0,0⟩)
def qV(i j:Nat):Stmt:=match top i with
 | .ClassDef _ _ _ b _ _ _ _ _ _ _=>b.getD j (.Pass ⟨0,0,0,0⟩)
 |s=>s
def G:List (Str × GK):=[(("law":Str),GK.fn 77),(("BEGIN":Str),GK.con (.int 0)),(("Broken":Str),GK.exc 73059263014254),(("CHECK_BEGIN":Str),GK.con (.int 7)),(("CHECK_FACTOR":Str),GK.con (.int 31)),(("CHECK_FIGURES":Str),GK.con (.int 4)),(("CHECK_MODULUS":Str),GK.con (.int 9973)),(("END":Str),GK.con (.int 1)),(("FIGURES":Str),GK.con (.str [48,49,50,51,52,53,54,55,56,57])),(("FIRST_OWN_LIFE":Str),GK.con (.int 1)),(("FIRST_SIGN":Str),GK.con (.int 32)),(("FerryError":Str),GK.exc 332437021739526678278002),(("Host":Str),GK.cls 1215263604 49),(("LAST_LIFE":Str),GK.con (.int 1000000000)),(("LAST_OWN_LIFE":Str),GK.con (.int 40)),(("LAST_PLACE":Str),GK.con (.int 1000000)),(("LAST_SIGN":Str),GK.con (.int 126)),(("LAST_STREAM":Str),GK.con (.int 999)),(("LEFT_OUT_SIGN":Str),GK.con (.int 37)),(("MOST_COME":Str),GK.con (.int 1000001)),(("MOST_FIGURES":Str),GK.con (.int 13)),(("MOST_LIMIT":Str),GK.con (.int 1000200)),(("MOST_NUMBER":Str),GK.con (.int 1000000000000)),(("MOST_SIGNS":Str),GK.con (.int 40)),(("MOST_SPANS":Str),GK.con (.int 8)),(("MOST_STREAMS":Str),GK.con (.int 50)),(("MOST_TAKEN_AT_ONCE":Str),GK.con (.int 200)),(("Meeting":Str),GK.cls 21785059625889383 5),(("NO_LIFE":Str),GK.con (.int 0)),(("NoPiece":Str),GK.exc 22077439339750245),(("NoSpan":Str),GK.exc 86240048210286),(("NoStream":Str),GK.exc 5651827816973820269),(("Slate":Str),GK.cls 358300611685 35),(("Spoilt":Str),GK.exc 91742370622580),(("Taker":Str),GK.cls 362411681138 39),(("TooMuch":Str),GK.exc 23766421875286888),(("_law_asked":Str),GK.fn 74),(("_law_cell_at":Str),GK.fn 71),(("_law_heard":Str),GK.fn 76),(("_law_read":Str),GK.fn 73),(("_law_reading_right":Str),GK.fn 75),(("_law_signs_by":Str),GK.fn 72),(("_wall":Str),GK.fn 0),(("added":Str),GK.fn 4),(("all":Str),GK.blt),(("all_broken":Str),GK.fn 48),(("are_spans_above":Str),GK.fn 23),(("body_of":Str),GK.fn 29),(("bool":Str),GK.blt),(("check_begin":Str),GK.fn 2),(("check_of":Str),GK.fn 12),(("check_stretch":Str),GK.fn 3),(("count_below":Str),GK.fn 1),(("dict":Str),GK.blt),(("figures":Str),GK.fn 13),(("found":Str),GK.fn 46),(("int":Str),GK.blt),(("is_answer":Str),GK.fn 24),(("is_data":Str),GK.fn 20),(("is_end":Str),GK.fn 21),(("is_figures":Str),GK.fn 14),(("is_hello":Str),GK.fn 19),(("is_life":Str),GK.fn 16),(("is_number":Str),GK.fn 11),(("is_piece":Str),GK.fn 25),(("is_place":Str),GK.fn 17),(("is_sign":Str),GK.fn 9),(("is_signs":Str),GK.fn 10),(("is_span_above":Str),GK.fn 22),(("isinstance":Str),GK.blt),(("len":Str),GK.blt),(("max":Str),GK.blt),(("min":Str),GK.blt),(("names_stream":Str),GK.fn 18),(("number_of":Str),GK.fn 15),(("number_words":Str),GK.fn 26),(("numbers_of":Str),GK.fn 31),(("ord":Str),GK.blt),(("parts_of":Str),GK.fn 33),(("range":Str),GK.blt),(("read":Str),GK.fn 34),(("signs_word":Str),GK.fn 27),(("sorted":Str),GK.blt),(("spans_of":Str),GK.fn 32),(("spans_word":Str),GK.fn 28),(("str":Str),GK.blt),(("tuple":Str),GK.blt),(("whole_ones":Str),GK.fn 47),(("written":Str),GK.fn 30)]
def xs:List (Nat × List Nat):=[(332437021739526678278002,FE),(91742370622580,[91742370622580]),(5651827816973820269,[5651827816973820269]),(73059263014254,[73059263014254]),(23766421875286888,[23766421875286888]),(1,FE)]
def xl:List Nat:=FE
theorem vV:qD 332437021739526678278002=("FerryError":Str):=by kernel_rfl
theorem vR:qD 91742370622580=("Spoilt":Str):=by kernel_rfl
theorem wT:qD 22077439339750245=("NoPiece":Str):=by kernel_rfl
theorem wS:qD 86240048210286=("NoSpan":Str):=by kernel_rfl
theorem vT:qD 5651827816973820269=("NoStream":Str):=by kernel_rfl
theorem vW:qD 73059263014254=("Broken":Str):=by kernel_rfl
theorem vQ:qD 23766421875286888=("TooMuch":Str):=by kernel_rfl
def Mt:List (Str × Nat × List (Nat × Nat)):=[(("__init__":Str),6872327479327219551,[(21785059625889383,5),(358300611685,35),(362411681138,39),(1215263604,49)]),(("heard":Str),448377483876,[(21785059625889383,6)]),(("hello":Str),448378203247,[(21785059625889383,7)]),(("reply":Str),491328138361,[(21785059625889383,8)]),(("put":Str),7370100,[(358300611685,36),(362411681138,40)]),(("draw_in":Str),28273260611201390,[(358300611685,37)]),(("sign":Str),1936287598,[(358300611685,38)]),(("ends":Str),1701733491,[(362411681138,41)]),(("reach":Str),491327153000,[(362411681138,42)]),(("take":Str),1952541541,[(362411681138,43),(1215263604,56)]),(("see_done":Str),8315163747390811749,[(362411681138,44)]),(("answer":Str),107127011501426,[(362411681138,45)]),(("begin_life":Str),464662488081084476647013,[(1215263604,50)]),(("start":Str),495873782388,[(1215263604,51)]),(("giver":Str),444150998386,[(1215263604,52)]),(("taker":Str),499850634610,[(1215263604,53)]),(("write":Str),513020621925,[(1215263604,54)]),(("finish":Str),112603010003816,[(1215263604,55)]),(("streams":Str),32497656997703027,[(1215263604,57)]),(("others":Str),122545758368371,[(1215263604,58)]),(("broken":Str),108243635103086,[(1215263604,59)]),(("fall":Str),1717660780,[(1215263604,60)]),(("tick":Str),1953063787,[(1215263604,61)]),(("pieces_by_turns":Str),583674933970360372264291001892499059,[(1215263604,62)]),(("part_to_send":Str),34780127400972871403634519652,[(1215263604,63)]),(("piece_of":Str),8100116882379468646,[(1215263604,64)]),(("hear":Str),1751474546,[(1215263604,65)]),(("break_streams":Str),7799763779075547922881686105459,[(1215263604,66)]),(("taken_in":Str),8386102064528189806,[(1215263604,67)]),(("part_came":Str),2073057138977531850085,[(1215263604,68)]),(("taker_made":Str),549591584905317559919717,[(1215263604,69)]),(("answer_came":Str),117787394794711584694431077,[(1215263604,70)])]
def At:List (Str × Nat × List Nat):=[(("mine":Str),1835626085,[21785059625889383]),(("yours":Str),521561010803,[21785059625889383]),(("is_met":Str),115944243160436,[21785059625889383]),(("text":Str),1952807028,[358300611685,362411681138]),(("spans":Str),495806672499,[358300611685]),(("behind":Str),108187682958948,[358300611685]),(("room":Str),1919905645,[362411681138,1215263604]),(("slate":Str),495739565157,[362411681138]),(("told_end":Str),8390043809167535716,[362411681138]),(("read":Str),1919246692,[362411681138]),(("limit":Str),465625246068,[362411681138]),(("is_done":Str),29681726098730597,[362411681138]),(("most":Str),1836020596,[1215263604]),(("budget":Str),108256335193460,[1215263604]),(("life":Str),1818846821,[1215263604]),(("meeting":Str),30792258880630375,[1215263604]),(("givers":Str),113702655586931,[1215263604]),(("takers":Str),127961762460275,[1215263604]),(("sent_last":Str),2128684475675056370548,[1215263604])]
theorem vU:qD 21785059625889383=("Meeting":Str):=by kernel_rfl
theorem vS:qD 358300611685=("Slate":Str):=by kernel_rfl
theorem jL:qD 362411681138=("Taker":Str):=by kernel_rfl
theorem zB:qD 1215263604=("Host":Str):=by kernel_rfl
theorem qIp:qD 1835626085=("mine":Str):=by kernel_rfl
theorem qIN:qD 521561010803=("yours":Str):=by kernel_rfl
theorem qIt:qD 115944243160436=("is_met":Str):=by kernel_rfl
theorem qIR:qD 1952807028=("text":Str):=by kernel_rfl
theorem qIZ:qD 495806672499=("spans":Str):=by kernel_rfl
theorem qI7:qD 108187682958948=("behind":Str):=by kernel_rfl
theorem qIe:qD 1919905645=("room":Str):=by kernel_rfl
theorem qIa:qD 495739565157=("slate":Str):=by kernel_rfl
theorem qIP:qD 8390043809167535716=("told_end":Str):=by kernel_rfl
theorem qIg:qD 1919246692=("read":Str):=by kernel_rfl
theorem qIr:qD 465625246068=("limit":Str):=by kernel_rfl
theorem qIu:qD 29681726098730597=("is_done":Str):=by kernel_rfl
theorem qIo:qD 1836020596=("most":Str):=by kernel_rfl
theorem qI4:qD 108256335193460=("budget":Str):=by kernel_rfl
theorem qIs:qD 1818846821=("life":Str):=by kernel_rfl
theorem qIq:qD 30792258880630375=("meeting":Str):=by kernel_rfl
theorem qIy:qD 113702655586931=("givers":Str):=by kernel_rfl
theorem qIS:qD 127961762460275=("takers":Str):=by kernel_rfl
theorem qIc:qD 2128684475675056370548=("sent_last":Str):=by kernel_rfl
theorem qJB:qD 6872327479327219551=("__init__":Str):=by kernel_rfl
theorem qIw:qD 448377483876=("heard":Str):=by kernel_rfl
theorem qIv:qD 448378203247=("hello":Str):=by kernel_rfl
theorem qIf:qD 491328138361=("reply":Str):=by kernel_rfl
theorem qIi:qD 7370100=("put":Str):=by kernel_rfl
theorem qI3:qD 28273260611201390=("draw_in":Str):=by kernel_rfl
theorem qIb:qD 1936287598=("sign":Str):=by kernel_rfl
theorem qI2:qD 1701733491=("ends":Str):=by kernel_rfl
theorem qIh:qD 491327153000=("reach":Str):=by kernel_rfl
theorem qIW:qD 1952541541=("take":Str):=by kernel_rfl
theorem qId:qD 8315163747390811749=("see_done":Str):=by kernel_rfl
theorem qJA:qD 107127011501426=("answer":Str):=by kernel_rfl
theorem qI8:qD 464662488081084476647013=("begin_life":Str):=by kernel_rfl
theorem qIY:qD 495873782388=("start":Str):=by kernel_rfl
theorem qIz:qD 444150998386=("giver":Str):=by kernel_rfl
theorem qIU:qD 499850634610=("taker":Str):=by kernel_rfl
theorem qIO:qD 513020621925=("write":Str):=by kernel_rfl
theorem qI0:qD 112603010003816=("finish":Str):=by kernel_rfl
theorem qIX:qD 32497656997703027=("streams":Str):=by kernel_rfl
theorem qIn:qD 122545758368371=("others":Str):=by kernel_rfl
theorem qI5:qD 108243635103086=("broken":Str):=by kernel_rfl
theorem qI1:qD 1717660780=("fall":Str):=by kernel_rfl
theorem qIQ:qD 1953063787=("tick":Str):=by kernel_rfl
theorem qIj:qD 583674933970360372264291001892499059=("pieces_by_turns":Str):=by kernel_rfl
theorem qIl:qD 34780127400972871403634519652=("part_to_send":Str):=by kernel_rfl
theorem qIk:qD 8100116882379468646=("piece_of":Str):=by kernel_rfl
theorem qIx:qD 1751474546=("hear":Str):=by kernel_rfl
theorem qI6:qD 7799763779075547922881686105459=("break_streams":Str):=by kernel_rfl
theorem qIV:qD 8386102064528189806=("taken_in":Str):=by kernel_rfl
theorem qIm:qD 2073057138977531850085=("part_came":Str):=by kernel_rfl
theorem qIT:qD 549591584905317559919717=("taker_made":Str):=by kernel_rfl
theorem qI9:qD 117787394794711584694431077=("answer_came":Str):=by kernel_rfl
def lV:Df:=⟨"_wall","_wall",top 0,["k"],["k"]⟩
def nH:Df:=⟨"count_below","count_below",top 12,["spans","side","place","low","high","middle"],["spans","side","place"]⟩
def nM:Df:=⟨"check_begin","check_begin",top 13,["begin"],["begin"]⟩
def nI:Df:=⟨"check_stretch","check_stretch",top 14,["begin","end"],["begin","end"]⟩
def nQ:Df:=⟨"added","added",top 15,["spans","begin","end","first","behind"],["spans","begin","end"]⟩
def cP:Df:=⟨"__init__","Meeting.__init__",qV 18 0,["self","mine"],["self","mine"]⟩
def oG:Df:=⟨"heard","Meeting.heard",qV 18 1,["self","piece","told_yours","told_mine","is_fresh","is_known"],["self","piece"]⟩
def oF:Df:=⟨"hello","Meeting.hello",qV 18 2,["self"],["self"]⟩
def oE:Df:=⟨"reply","Meeting.reply",qV 18 3,["self"],["self"]⟩
def mS:Df:=⟨"is_sign","is_sign",top 29,["sign","place"],["sign"]⟩
def mR:Df:=⟨"is_signs","is_signs",top 30,["thing"],["thing"]⟩
def mV:Df:=⟨"is_number","is_number",top 31,["thing","least","most"],["thing","least","most"]⟩
def nJ:Df:=⟨"check_of","check_of",top 32,["signs","check","sign"],["signs"]⟩
def nF:Df:=⟨"figures","figures",top 33,["number"],["number"]⟩
def mY:Df:=⟨"is_figures","is_figures",top 34,["text"],["text"]⟩
def mG:Df:=⟨"number_of","number_of",top 35,["text","number"],["text"]⟩
def mW:Df:=⟨"is_life","is_life",top 45,["thing"],["thing"]⟩
def mT:Df:=⟨"is_place","is_place",top 46,["thing"],["thing"]⟩
def mH:Df:=⟨"names_stream","names_stream",top 47,["parts"],["parts"]⟩
def mX:Df:=⟨"is_hello","is_hello",top 48,["parts"],["parts"]⟩
def nA:Df:=⟨"is_data","is_data",top 49,["parts","at","signs"],["parts"]⟩
def mZ:Df:=⟨"is_end","is_end",top 50,["parts"],["parts"]⟩
def mP:Df:=⟨"is_span_above","is_span_above",top 51,["thing","floor"],["thing","floor"]⟩
def nO:Df:=⟨"are_spans_above","are_spans_above",top 52,["thing","floor","span"],["thing","floor"]⟩
def nB:Df:=⟨"is_answer","is_answer",top 53,["parts"],["parts"]⟩
def mU:Df:=⟨"is_piece","is_piece",top 54,["thing","kind"],["thing"]⟩
def mF:Df:=⟨"number_words","number_words",top 55,["numbers"],["numbers"]⟩
def lZ:Df:=⟨"signs_word","signs_word",top 56,["signs","count"],["signs"]⟩
def lW:Df:=⟨"spans_word","spans_word",top 57,["spans"],["spans"]⟩
def nN:Df:=⟨"body_of","body_of",top 58,["piece","kind","words"],["piece"]⟩
def lT:Df:=⟨"written","written",top 59,["piece","body","check"],["piece"]⟩
def mE:Df:=⟨"numbers_of","numbers_of",top 60,["words"],["words"]⟩
def lY:Df:=⟨"spans_of","spans_of",top 61,["word"],["word"]⟩
def mD:Df:=⟨"parts_of","parts_of",top 62,["body","words","kind"],["body"]⟩
def mB:Df:=⟨"read","read",top 63,["text","piece"],["text"]⟩
def cO:Df:=⟨"__init__","Slate.__init__",qV 65 0,["self"],["self"]⟩
def oA:Df:=⟨"put","Slate.put",qV 65 1,["self","at","signs","begin","end","place"],["self","at","signs"]⟩
def oB:Df:=⟨"draw_in","Slate.draw_in",qV 65 2,["self","first","grown","place"],["self"]⟩
def nZ:Df:=⟨"sign","Slate.sign",qV 65 3,["self","place"],["self","place"]⟩
def cN:Df:=⟨"__init__","Taker.__init__",qV 68 0,["self","room"],["self","room"]⟩
def nV:Df:=⟨"put","Taker.put",qV 68 1,["self","at","signs","bound"],["self","at","signs"]⟩
def nW:Df:=⟨"ends","Taker.ends",qV 68 2,["self","at"],["self","at"]⟩
def nU:Df:=⟨"reach","Taker.reach",qV 68 3,["self","spans"],["self"]⟩
def nR:Df:=⟨"take","Taker.take",qV 68 4,["self","count","signs"],["self","count"]⟩
def nT:Df:=⟨"see_done","Taker.see_done",qV 68 5,["self"],["self"]⟩
def nY:Df:=⟨"answer","Taker.answer",qV 68 6,["self","come"],["self"]⟩
def nD:Df:=⟨"found","found",top 73,["sides","stream"],["sides","stream"]⟩
def lU:Df:=⟨"whole_ones","whole_ones",top 74,["sides"],["sides"]⟩
def nP:Df:=⟨"all_broken","all_broken",top 75,["sides","broken","stream"],["sides"]⟩
def cQ:Df:=⟨"__init__","Host.__init__",qV 76 0,["self","room","most","budget"],["self","room","most","budget"]⟩
def pF:Df:=⟨"begin_life","Host.begin_life",qV 76 1,["self"],["self"]⟩
def oP:Df:=⟨"start","Host.start",qV 76 2,["self"],["self"]⟩
def oZ:Df:=⟨"giver","Host.giver",qV 76 3,["self","stream"],["self","stream"]⟩
def oK:Df:=⟨"taker","Host.taker",qV 76 4,["self","stream"],["self","stream"]⟩
def oH:Df:=⟨"write","Host.write",qV 76 5,["self","stream","signs"],["self","stream","signs"]⟩
def pA:Df:=⟨"finish","Host.finish",qV 76 6,["self","stream"],["self","stream"]⟩
def oN:Df:=⟨"take","Host.take",qV 76 7,["self","stream","count"],["self","stream","count"]⟩
def oO:Df:=⟨"streams","Host.streams",qV 76 8,["self"],["self"]⟩
def oW:Df:=⟨"others","Host.others",qV 76 9,["self"],["self"]⟩
def pC:Df:=⟨"broken","Host.broken",qV 76 10,["self"],["self"]⟩
def pB:Df:=⟨"fall","Host.fall",qV 76 11,["self"],["self"]⟩
def oI:Df:=⟨"tick","Host.tick",qV 76 12,["self"],["self"]⟩
def oQ:Df:=⟨"pieces_by_turns","Host.pieces_by_turns",qV 76 13,["self"],["self"]⟩
def oU:Df:=⟨"part_to_send","Host.part_to_send",qV 76 14,["self","stream"],["self","stream"]⟩
def oR:Df:=⟨"piece_of","Host.piece_of",qV 76 15,["self","stream","part"],["self","stream","part"]⟩
def oY:Df:=⟨"hear","Host.hear",qV 76 16,["self","text","piece","told","is_fresh","is_known","answers"],["self","text"]⟩
def pD:Df:=⟨"break_streams","Host.break_streams",qV 76 17,["self"],["self"]⟩
def oM:Df:=⟨"taken_in","Host.taken_in",qV 76 18,["self","piece","kind"],["self","piece"]⟩
def oV:Df:=⟨"part_came","Host.part_came",qV 76 19,["self","piece","stream","taker"],["self","piece"]⟩
def oJ:Df:=⟨"taker_made","Host.taker_made",qV 76 20,["self","stream"],["self","stream"]⟩
def pG:Df:=⟨"answer_came","Host.answer_came",qV 76 21,["self","piece","giver"],["self","piece"]⟩
def mM:Df:=⟨"_law_cell_at","_law_cell_at",top 78,["_law_script","_law_k"],["_law_script","_law_k"]⟩
def mI:Df:=⟨"_law_signs_by","_law_signs_by",top 79,["_law_cell","_law_count","_law_some"],["_law_cell","_law_count"]⟩
def mK:Df:=⟨"_law_read","_law_read",top 80,["_law_host","_law_number","_law_count","e"],["_law_host","_law_number","_law_count"]⟩
def mO:Df:=⟨"_law_asked","_law_asked",top 81,["_law_host","_law_number","e"],["_law_host","_law_number"]⟩
def mJ:Df:=⟨"_law_reading_right","_law_reading_right",top 82,["_law_host","_law_number","_law_count","_law_come","_law_broken","_law_found","_law_asked_here","_law_due","_law_kept","_law_signs"],["_law_host","_law_number","_law_count","_law_come","_law_broken"]⟩
def mL:Df:=⟨"_law_heard","_law_heard",top 83,["_law_host","_law_lives","_law_number","_law_come","_law_cell","_law_text","_law_kept","_law_size","_law_at","_law_signs"],["_law_host","_law_lives","_law_number","_law_come","_law_cell","_law_text"]⟩
def wD:Df:=⟨"law","law",top 84,["_law_script","_law_host","_law_lives","_law_come","_law_broken","_law_held","_law_cell","_law_number","_law_rest","_law_found","_law_others"],["_law_script"]⟩
def ds:List Df:=[lV,nH,nM,nI,nQ,cP,oG,oF,oE,mS,mR,mV,nJ,nF,mY,mG,mW,mT,mH,mX,nA,mZ,mP,nO,nB,mU,mF,lZ,lW,nN,lT,mE,lY,mD,mB,cO,oA,oB,nZ,cN,nV,nW,nU,nR,nT,nY,nD,lU,nP,cQ,pF,oP,oZ,oK,oH,pA,oN,oO,oW,pC,pB,oI,oQ,oU,oR,oY,pD,oM,oV,oJ,pG,mM,mI,mK,mO,mJ,mL,wD]
theorem qPI:qF lV:=fun _ _ _ _ _ _=>ar1 fun _=>rfl
theorem qPn:qF nH:=fun _ _ _ _ _ _=>ar3 fun _ _ _=>rfl
theorem qPq:qF nM:=fun _ _ _ _ _ _=>ar1 fun _=>rfl
theorem qPo:qF nI:=fun _ _ _ _ _ _=>ar2 fun _ _=>rfl
theorem qPu:qF nQ:=fun _ _ _ _ _ _=>ar3 fun _ _ _=>rfl
theorem qDg:qF cP:=fun _ _ _ _ _ _=>ar2 fun _ _=>rfl
theorem qP6:qF oG:=fun _ _ _ _ _ _=>ar2 fun _ _=>rfl
theorem qP5:qF oF:=fun _ _ _ _ _ _=>ar1 fun _=>rfl
theorem qP4:qF oE:=fun _ _ _ _ _ _=>ar1 fun _=>rfl
theorem qPb:qF mS:=fun _ _ _ _ _ _=>ar1 fun _=>rfl
theorem qPa:qF mR:=fun _ _ _ _ _ _=>ar1 fun _=>rfl
theorem qPe:qF mV:=fun _ _ _ _ _ _=>ar3 fun _ _ _=>rfl
theorem qPp:qF nJ:=fun _ _ _ _ _ _=>ar1 fun _=>rfl
theorem qPm:qF nF:=fun _ _ _ _ _ _=>ar1 fun _=>rfl
theorem qPh:qF mY:=fun _ _ _ _ _ _=>ar1 fun _=>rfl
theorem qPQ:qF mG:=fun _ _ _ _ _ _=>ar1 fun _=>rfl
theorem qPf:qF mW:=fun _ _ _ _ _ _=>ar1 fun _=>rfl
theorem qPc:qF mT:=fun _ _ _ _ _ _=>ar1 fun _=>rfl
theorem qPR:qF mH:=fun _ _ _ _ _ _=>ar1 fun _=>rfl
theorem qPg:qF mX:=fun _ _ _ _ _ _=>ar1 fun _=>rfl
theorem qPj:qF nA:=fun _ _ _ _ _ _=>ar1 fun _=>rfl
theorem qPi:qF mZ:=fun _ _ _ _ _ _=>ar1 fun _=>rfl
theorem qPZ:qF mP:=fun _ _ _ _ _ _=>ar2 fun _ _=>rfl
theorem qPs:qF nO:=fun _ _ _ _ _ _=>ar2 fun _ _=>rfl
theorem qPk:qF nB:=fun _ _ _ _ _ _=>ar1 fun _=>rfl
theorem qPd:qF mU:=fun _ _ _ _ _ _=>ar1 fun _=>rfl
theorem qPP:qF mF:=fun _ _ _ _ _ _=>ar1 fun _=>rfl
theorem qPL:qF lZ:=fun _ _ _ _ _ _=>ar1 fun _=>rfl
theorem qPJ:qF lW:=fun _ _ _ _ _ _=>ar1 fun _=>rfl
theorem qPr:qF nN:=fun _ _ _ _ _ _=>ar1 fun _=>rfl
theorem qPG:qF lT:=fun _ _ _ _ _ _=>ar1 fun _=>rfl
theorem qPO:qF mE:=fun _ _ _ _ _ _=>ar1 fun _=>rfl
theorem qPK:qF lY:=fun _ _ _ _ _ _=>ar1 fun _=>rfl
theorem qPN:qF mD:=fun _ _ _ _ _ _=>ar1 fun _=>rfl
theorem qPM:qF mB:=fun _ _ _ _ _ _=>ar1 fun _=>rfl
theorem qDf:qF cO:=fun _ _ _ _ _ _=>ar1 fun _=>rfl
theorem qP2:qF oA:=fun _ _ _ _ _ _=>ar3 fun _ _ _=>rfl
theorem qP3:qF oB:=fun _ _ _ _ _ _=>ar1 fun _=>rfl
theorem qP1:qF nZ:=fun _ _ _ _ _ _=>ar2 fun _ _=>rfl
theorem qDe:qF cN:=fun _ _ _ _ _ _=>ar2 fun _ _=>rfl
theorem qPy:qF nV:=fun _ _ _ _ _ _=>ar3 fun _ _ _=>rfl
theorem qPz:qF nW:=fun _ _ _ _ _ _=>ar2 fun _ _=>rfl
theorem qPx:qF nU:=fun _ _ _ _ _ _=>ar1 fun _=>rfl
theorem qPv:qF nR:=fun _ _ _ _ _ _=>ar2 fun _ _=>rfl
theorem qPw:qF nT:=fun _ _ _ _ _ _=>ar1 fun _=>rfl
theorem qP0:qF nY:=fun _ _ _ _ _ _=>ar1 fun _=>rfl
theorem qPl:qF nD:=fun _ _ _ _ _ _=>ar2 fun _ _=>rfl
theorem qPH:qF lU:=fun _ _ _ _ _ _=>ar1 fun _=>rfl
theorem qPt:qF nP:=fun _ _ _ _ _ _=>ar1 fun _=>rfl
theorem qDh:qF cQ:=fun _ _ _ _ _ _=>ar4 fun _ _ _ _=>rfl
theorem qQQ:qF pF:=fun _ _ _ _ _ _=>ar1 fun _=>rfl
theorem qQE:qF oP:=fun _ _ _ _ _ _=>ar1 fun _=>rfl
theorem qQL:qF oZ:=fun _ _ _ _ _ _=>ar2 fun _ _=>rfl
theorem qQA:qF oK:=fun _ _ _ _ _ _=>ar2 fun _ _=>rfl
theorem qP7:qF oH:=fun _ _ _ _ _ _=>ar3 fun _ _ _=>rfl
theorem qQM:qF pA:=fun _ _ _ _ _ _=>ar2 fun _ _=>rfl
theorem qQC:qF oN:=fun _ _ _ _ _ _=>ar3 fun _ _ _=>rfl
theorem qQD:qF oO:=fun _ _ _ _ _ _=>ar1 fun _=>rfl
theorem qQJ:qF oW:=fun _ _ _ _ _ _=>ar1 fun _=>rfl
theorem qQO:qF pC:=fun _ _ _ _ _ _=>ar1 fun _=>rfl
theorem qQN:qF pB:=fun _ _ _ _ _ _=>ar1 fun _=>rfl
theorem qP8:qF oI:=fun _ _ _ _ _ _=>ar1 fun _=>rfl
theorem qQF:qF oQ:=fun _ _ _ _ _ _=>ar1 fun _=>rfl
theorem qQH:qF oU:=fun _ _ _ _ _ _=>ar2 fun _ _=>rfl
theorem qQG:qF oR:=fun _ _ _ _ _ _=>ar3 fun _ _ _=>rfl
theorem qQK:qF oY:=fun _ _ _ _ _ _=>ar2 fun _ _=>rfl
theorem qQP:qF pD:=fun _ _ _ _ _ _=>ar1 fun _=>rfl
theorem qQB:qF oM:=fun _ _ _ _ _ _=>ar2 fun _ _=>rfl
theorem qQI:qF oV:=fun _ _ _ _ _ _=>ar2 fun _ _=>rfl
theorem qP9:qF oJ:=fun _ _ _ _ _ _=>ar2 fun _ _=>rfl
theorem qQR:qF pG:=fun _ _ _ _ _ _=>ar2 fun _ _=>rfl
theorem qPW:qF mM:=fun _ _ _ _ _ _=>ar2 fun _ _=>rfl
theorem qPS:qF mI:=fun _ _ _ _ _ _=>ar2 fun _ _=>rfl
theorem qPU:qF mK:=fun _ _ _ _ _ _=>ar3 fun _ _ _=>rfl
theorem qPX:qF mO:=fun _ _ _ _ _ _=>ar2 fun _ _=>rfl
theorem qPT:qF mJ:=fun _ _ _ _ _ _=>ar5 fun _ _ _ _ _=>rfl
theorem qPV:qF mL:=fun _ _ _ _ _ _=>ar6 fun _ _ _ _ _ _=>rfl
theorem qPY:qF wD:=fun _ _ _ _ _ _=>ar1 fun _=>rfl
theorem oks:AllZ (fun d f=>DfOk G xs Mt At d f) ds fns:=by
 refine⟨?_,?_,?_,?_,?_,?_,?_,?_,?_,?_,?_,?_,?_,?_,?_,?_,?_,?_,?_,?_,?_,?_,?_,?_,?_,?_,?_,?_,?_,?_,?_,?_,?_,?_,?_,?_,?_,?_,?_,?_,?_,?_,?_,?_,?_,?_,?_,?_,?_,?_,?_,?_,?_,?_,?_,?_,?_,?_,?_,?_,?_,?_,?_,?_,?_,?_,?_,?_,?_,?_,?_,?_,?_,?_,?_,?_,?_,?_,trivial⟩ <;> exact⟨⟨rfl,rfl,rfl,by decide +kernel,rfl,by decide +kernel,by decide +kernel⟩,by kernel_rfl,rfl,rfl⟩
theorem qEp:ds[77]?=some wD:=by kernel_rfl
theorem qEn:wD.qual=wD.name:=by kernel_rfl
theorem qEo:wD.ps=(["_law_script"]:List Str):=by kernel_rfl
theorem qEq:(("law":Str),GK.fn 77)∈G:=List.mem_cons_self ..
end Lk41
namespace PySem.W.Fast
local macro_rules | `(#check_failure 0) => do
  return Lean.mkNullNode (← ("10048523502664887165 1005682599806857732 10224517477093598876 10548266270670107978 10551812595433515618 10555500950803309410 10644478116631133734 10668631503576551596 10681609534951125471 10794524883433265770 10799665224963946760 10920811771946404717 10952315651091943628 1095502290611494646 11012868694971646058 11118566215930875908 11147289063768309892 11191041464463298882 11401111585880156286 11402539153235782238 11456337951480803708 11526589954967017625 11580976780022132695 11593224237325160660 11593421160337224923 11719362728656634058 1177484135032257724 11786294457949174831 11997140355743633962 12284105179330069001 12296457431056620710 12402077562974164316 12467232684225190483 1257881094494815064 12608345592879333987 12674091696441768172 12788825293572548972 12913659168489885579 12990705997417605960 12992112796007604363 13004837333618248347 13098752469515615937 13105761155482944809 1310899993419046631 13272410087225756797 13368011920593047736 13539710864579259625 13604488393890829178 13665584417120713734 13667184577651603565 13669372126847595921 13716089589712361293 13953227897456040238 14333997512395204787 14344110507047630984 14344365990383362283 14466907741984943581 1454143202486528621 14607662658561594626 14677778730809276029 14731292536869711537 14833984366442956349 14913880330184308645 149495211550814894 14986952375812364313 15057491817858641313 1516758301278159381 15171327701996524433 15317805921255437627 15343960015899178193 15454837947572197233 15528095693416464046 15556110194545483323 1565673630689010204 1572034786048456296 15745249732002531013 15823766398955736825 15829376433207226423 1586003319295500907 15860658603227602711 15887196574649003949 1593220659166091737 15958424150285309413 15975898050022789458 16013257549125970961 16124705995683276837 16198249105704744880 16255345698946307167 16259484715248901869 16272218506588335173 16379851708965065100 16505600767775815613 16528213180090283626 16635733023588175264 16654661426954496464 16694263583598627900 16818959544397908028 16886897869696169536 16899722978030211737 16960548330101479170 17178799334001296969 1723153191036336820 17353704859923827159 17355992258623299771 17380606902958207944 17435922472502461611 17653917279155574225 17690863261833636918 17848631484457703476 18005087288643280378 18185227042838589138 18378243725277776278 1871158437342448057 1973496910459592596 2114913515404336921 2137926099444750708 2210494494760734809 2320115305989350205 234102658685589241 2427669531325174676 2451280915849769002 2555222434129350669 2558914263063045748 265816307796134845 2665870530725934189 269514346523254948 2752871622969347403 2803318742446501423 282939178637336603 2929024972073847682 296830732616358294 3049409088901276554 3118010913307364583 3171974650165751921 3267411377485932316 3269238834740461404 3379023797761186217 354374354772234698 3560467735349385315 3641616691415548975 3715995532569182227 3807755186420857122 3844685692007429959 4101403897204841135 4195351030063162390 4196562585156990820 4329020759839461940 4412868098976707874 4537474528600597240 4636829301399855288 465420641333124690 4713133117408759628 4713930790912014313 4733093741672909683 4854120007476583943 488720574047944227 49241912011737521 4980812476194006121 5004584947438081565 5059137692993486818 5104084800000871428 5226593173089526760 5304824227351263406 5338808084318186883 5339365294639666188 5384830002057330294 5401106781607476415 5528023951383682047 5603636658675962054 5646950004547793825 5771456147900106033 5815289768228668549 5965713207186728716 6002598724189381607 6021555502361300393 6037556746733363255 606870200987206651 6086589455847487357 6355686043903876883 6394146690476389986 6396257914693093659 6416686905407306852 6487774048199656483 6523592544486254762 6552992665357220733 6608281740520176673 6646260363691395845 6724487288595944408 6755698047372422896 6934673168383414030 6938914178543358519 6973431901480269722 7011086169403314558 7079288180087290811 7124918195005756133 7135566452913974011 7156073571560104669 7247041517166676736 7273850111816410545 7404898131895780125 7450938442071147775 7695824505153943324 7755449274498914867 7796739963756841181 7829970694017720370 7862153080090133966 7893811628829508166 7933395396373062518 8057428270162514775 8082223910898762756 8097953875103571144 8106895278109542234 8107462129262735053 8262059825221481848 8267366028700876771 8369626572265265048 8382789772231069493 8473467975911887701 8603857439798669758 8649863119099855826 8779108467448396424 8959279559210923263 9023637284713499746 9043629011274397630 9138878429763388984 9190267581707681948 9219067280225244640 9409208423778188732 9423978792851763078 9520801380181642716 9577905463711681465 9642723401206149474 9714182856202816760 9936155648207746765 6682424868519969768 12568988962886199004 1906569215665940091 5063503754561669729 9676286135534607138 2336023523711930500 11325485262021749481 13498878505280514887 4816254090549246494 11432151550168839375 17356976365225186258 12826385813034602534 11655173066866230442 15988189157080003131 8224018246729309511 9414646782617652480 8413429580395254781 13776660817199305619 4046114023632762734 12923526127725254309 14534595383747134099 18150171826027151511 10597332579203301728 17092758018538514277 1432868951574432396 15508635570281135185 11360061188144656245 16740619639682107244 286340975991631865 2494610801405695866 13661512618497810972 18050330812335290896 1805905192731892589 4950720084687539349 2401826451312622309 7014249252250206889 2572137146978868554 16890569630020975011 13967220271428229705 9808143574306336973 4680561013739654372 2283262328753643710 5564063547392853544 2234364843956236732 8619136266389318811 1983432938835665961 10917840588190696000 11110214837212192765 7878145697867535478 18144949716325179985 255870437816874644 5794925622474206618 14087465111826536531 2331945925751164240 18309556830315038097 13349039724940884778 7924874595338985500 16860714334736895097 11849291080823000533 12670495712535125281 12294825834453915308 3071073958558688424 13983705002781932024 12522616513579650467 1856740206026217598 237159418774077980 16349002831843673773 2946972205258016600 8522863976186677260 4533585109224893339 17301599633278271239 5658995026530420053 2223060199723219499 8045953590023198458 2417521754021899399 17295899698038507865 1188771709714422772 7473591244854516313 16240158022445906706 6514663083463146072 17805417629749193759 12863204190289736213 7552712889571245391 5966319473186050666 10354852049159464484 9849251194282082941 7833973597832763957 13730787310860737910 1085801416740273267 5611155895099503124 93749035703162774 791718149627022239 16715200040522340479 6231117224117947303 13289790045272050060 7440357812551329985 9116049821964647182 11338830025431888935 17180053951838806468 5703205973084558821 13867441610315492943 17053973353592922866 6706253143967364716 8006050368908541998 3118463886740068935 3329336294719788648 2772338718692449470 17973441686879799656 13343864966403449103 1732840111414525058 1061058668323334767 3871945683005031791 14705766843525661070 6877454405464375417 5830965270120480986 17091098412039210355 8669113506759281743 3934160978117459146 14082875745705135694 12742234290725641475 11309510075195076972 13533096547565701599 9048776873517616789 6595420919104484963 3239710323941578351 11055738783329719348 3102132446772942605 16478085854205861178 17828495380799259812 3889525813944439856 100604377450428482 9801990420738646300 4602997050257200456 3189854094107537934 3608143699616107042 6022012660860307702 1143056033954730923 9935622407872092039 3066017363535456344 8855623657187779335 6721351740921539407 5964704493474935850 2412866158438144264 1964522807950844539 11559875661935957949 5088073428876104803 2907134665437528395 1492652310760653676 1269683650620208073 11585336203512135973 3518542576268672931 14460074110785395957 13367836113632640768 12047834806920923393 8280491630672108362 2319523085498028098 13066140820880615271 2251616247427708047 16604678087018043580 10400038530388742545 947076701966316378 897396220092993059 2950980292355994697 17023740732682443019 11720084236577518093 10024281755995760844 10804942575399901981 9319795800604508328 3710118473990428763 8090320616405294651 2095481830460571375 6699545073942951964 8121714233314566308 7232105609747285121 65319425949366218 15056505339140787285 1263627404150484898 10255047680014362891 6072669617304568756 13016222170068948134 5879476719598024613 13125499231726858728 8609160293681055852 16178274176239096562 13473479193476650988 8229389477975582897 6834838453756264398 12846048877963151940 4575779142497890321 3313700746022167608 11365310471427214796 8629129891255042374 663595788886602769 3920733841649962590 9175844154296963907 5699337069425352761 3927889386051425445 3735829842410703193 3248844224295602738 17280695828480335868 13621430954798688033 11123875542120754629 808128708473100094 5835470011796233432 11058702818843787864 10473181211493157651 5001114236921708560 11389712221086245170 8865246844777505656 17221011721123613667 4567611811507733992 8093561802793844604 7229370652117007830 4663350769673145137 16970181382077360047 13703459058270247868 10945466474751112951 8598126384654370664 9578830489444173097 8322257670532437496 7000984269478774211 6282679537108291028 5620950705273026504 3752219000213992909 228972666979142786 15681659731462150234 14545762700533576320 14185750995729412022 12267918133861882500 11158056977796812379".splitOn " ").toArray.mapM fun x => `(def $(Lean.mkIdent (.str .anonymous ("tw" ++ x))) := 0))
#check_failure 0
end PySem.W.Fast
open PySem PySem.W PyProof.Rows
open Fy Lk41
set_option maxRecDepth 100000 in
set_option maxHeartbeats 0 in
theorem PySem.Challenge.cw_ferry_k41_takers_by_lives_holds : PySem.Challenge.rw_ferry_k41_takers_by_lives.Holds := by
 w_on;o_law;k_head;(case hw=>w_witness2)
 k_fill
 refine Fy.walk (l:=PySem.Challenge.rw_ferry_k41_takers_by_lives) (G:=G) (xs:=xs) (xl:=xl) (Mt:=Mt) (At:=At) (ds:=ds) (fns:=fns) (B:=1000) (i:=77) (d:=wD) (x:="_law_script") rfl rfl qEp qEq qEn qEo (fun w h Yy=>PySem.W.kIn_of Yy) ?T (fun ns hl=>qKO 1000 29 ns hl) ?B
 case B=>
  intro fd f K F s u;obtain ⟨oc,od,kV,doc,pm,an,cdv,ct,osl,rfl,lk,hcd⟩:=F.ex;exact .of_eq rfl
 case T=>
  intro w mg h KX G;refine' aJ (x:="Meeting") KX ?a ?b ?c ?d ?e fun qa0 qc0=>?_;(case a=>k_is);(case b=>k_is);(case c=>k_is);(case d=>k_is);(case e=>k_is);refine' aJ (x:="Slate") KX ?a ?b ?c ?d ?e fun qa1 qc1=>?_;(case a=>k_is);(case b=>k_is);(case c=>k_is);(case d=>k_is);(case e=>k_is);refine' aJ (x:="Taker") KX ?a ?b ?c ?d ?e fun qa2 qc2=>?_;(case a=>k_is);(case b=>k_is);(case c=>k_is);(case d=>k_is);(case e=>k_is);refine' aJ (x:="Host") KX ?a ?b ?c ?d ?e fun qa3 qc3=>?_;(case a=>k_is);(case b=>k_is);(case c=>k_is);(case d=>k_is);(case e=>k_is);refine' wI (x:="FerryError") KX ?a ?b fun xa0 xi0=>?_;(case a=>k_is);(case b=>k_exc);refine' wI (x:="Spoilt") KX ?a ?b fun xa1 xi1=>?_;(case a=>k_is);(case b=>k_exc);refine' wI (x:="NoPiece") KX ?a ?b fun xa2 xi2=>?_;(case a=>k_is);(case b=>k_exc);refine' wI (x:="NoSpan") KX ?a ?b fun xa3 xi3=>?_;(case a=>k_is);(case b=>k_exc);refine' wI (x:="NoStream") KX ?a ?b fun xa4 xi4=>?_;(case a=>k_is);(case b=>k_exc);refine' wI (x:="Broken") KX ?a ?b fun xa5 xi5=>?_;(case a=>k_is);(case b=>k_exc);refine' wI (x:="TooMuch") KX ?a ?b fun xa6 xi6=>?_;(case a=>k_is);(case b=>k_exc)
  refine' qFN oks rfl
   ⟨qU KX G (d:=wD) rfl ?_ (df_mk' qPY (nm:="law") (ql:="law") rfl rfl ?_ ?_ ?_),
   zM KX G ?_,
   yB KX G rfl vW xa5 xi5,
   zM KX G ?_,
   zM KX G ?_,
   zM KX G ?_,
   zM KX G ?_,
   zM KX G ?_,
   qMF KX G (z:="0123456789") rfl ?_,
   zM KX G ?_,
   zM KX G ?_,
   yB KX G rfl vV xa0 xi0,
   cF KX G (d:=cQ) rfl zB qa3 qc3 ⟨?_,?_,?_,?_⟩ (df_mk' qDh (nm:="__init__") (ql:="Host.__init__") rfl rfl ?_ ?_ ?_),
   zM KX G ?_,
   zM KX G ?_,
   zM KX G ?_,
   zM KX G ?_,
   zM KX G ?_,
   zM KX G ?_,
   zM KX G ?_,
   zM KX G ?_,
   zM KX G ?_,
   zM KX G ?_,
   zM KX G ?_,
   zM KX G ?_,
   zM KX G ?_,
   zM KX G ?_,
   cF KX G (d:=cP) rfl vU qa0 qc0 ⟨?_,?_,?_,?_⟩ (df_mk' qDg (nm:="__init__") (ql:="Meeting.__init__") rfl rfl ?_ ?_ ?_),
   zM KX G ?_,
   yB KX G rfl wT xa2 xi2,
   yB KX G rfl wS xa3 xi3,
   yB KX G rfl vT xa4 xi4,
   cF KX G (d:=cO) rfl vS qa1 qc1 ⟨?_,?_,?_,?_⟩ (df_mk' qDf (nm:="__init__") (ql:="Slate.__init__") rfl rfl ?_ ?_ ?_),
   yB KX G rfl vR xa1 xi1,
   cF KX G (d:=cN) rfl jL qa2 qc2 ⟨?_,?_,?_,?_⟩ (df_mk' qDe (nm:="__init__") (ql:="Taker.__init__") rfl rfl ?_ ?_ ?_),
   yB KX G rfl vQ xa6 xi6,
   qU KX G (d:=mO) rfl ?_ (df_mk' qPX (nm:="_law_asked") (ql:="_law_asked") rfl rfl ?_ ?_ ?_),
   qU KX G (d:=mM) rfl ?_ (df_mk' qPW (nm:="_law_cell_at") (ql:="_law_cell_at") rfl rfl ?_ ?_ ?_),
   qU KX G (d:=mL) rfl ?_ (df_mk' qPV (nm:="_law_heard") (ql:="_law_heard") rfl rfl ?_ ?_ ?_),
   qU KX G (d:=mK) rfl ?_ (df_mk' qPU (nm:="_law_read") (ql:="_law_read") rfl rfl ?_ ?_ ?_),
   qU KX G (d:=mJ) rfl ?_ (df_mk' qPT (nm:="_law_reading_right") (ql:="_law_reading_right") rfl rfl ?_ ?_ ?_),
   qU KX G (d:=mI) rfl ?_ (df_mk' qPS (nm:="_law_signs_by") (ql:="_law_signs_by") rfl rfl ?_ ?_ ?_),
   qU KX G (d:=lV) rfl ?_ (df_mk' qPI (nm:="_wall") (ql:="_wall") rfl rfl ?_ ?_ ?_),
   qU KX G (d:=nQ) rfl ?_ (df_mk' qPu (nm:="added") (ql:="added") rfl rfl ?_ ?_ ?_),
   kF KX G ?_,
   qU KX G (d:=nP) rfl ?_ (df_mk' qPt (nm:="all_broken") (ql:="all_broken") rfl rfl ?_ ?_ ?_),
   qU KX G (d:=nO) rfl ?_ (df_mk' qPs (nm:="are_spans_above") (ql:="are_spans_above") rfl rfl ?_ ?_ ?_),
   qU KX G (d:=nN) rfl ?_ (df_mk' qPr (nm:="body_of") (ql:="body_of") rfl rfl ?_ ?_ ?_),
   kF KX G ?_,
   qU KX G (d:=nM) rfl ?_ (df_mk' qPq (nm:="check_begin") (ql:="check_begin") rfl rfl ?_ ?_ ?_),
   qU KX G (d:=nJ) rfl ?_ (df_mk' qPp (nm:="check_of") (ql:="check_of") rfl rfl ?_ ?_ ?_),
   qU KX G (d:=nI) rfl ?_ (df_mk' qPo (nm:="check_stretch") (ql:="check_stretch") rfl rfl ?_ ?_ ?_),
   qU KX G (d:=nH) rfl ?_ (df_mk' qPn (nm:="count_below") (ql:="count_below") rfl rfl ?_ ?_ ?_),
   kF KX G ?_,
   qU KX G (d:=nF) rfl ?_ (df_mk' qPm (nm:="figures") (ql:="figures") rfl rfl ?_ ?_ ?_),
   qU KX G (d:=nD) rfl ?_ (df_mk' qPl (nm:="found") (ql:="found") rfl rfl ?_ ?_ ?_),
   kF KX G ?_,
   qU KX G (d:=nB) rfl ?_ (df_mk' qPk (nm:="is_answer") (ql:="is_answer") rfl rfl ?_ ?_ ?_),
   qU KX G (d:=nA) rfl ?_ (df_mk' qPj (nm:="is_data") (ql:="is_data") rfl rfl ?_ ?_ ?_),
   qU KX G (d:=mZ) rfl ?_ (df_mk' qPi (nm:="is_end") (ql:="is_end") rfl rfl ?_ ?_ ?_),
   qU KX G (d:=mY) rfl ?_ (df_mk' qPh (nm:="is_figures") (ql:="is_figures") rfl rfl ?_ ?_ ?_),
   qU KX G (d:=mX) rfl ?_ (df_mk' qPg (nm:="is_hello") (ql:="is_hello") rfl rfl ?_ ?_ ?_),
   qU KX G (d:=mW) rfl ?_ (df_mk' qPf (nm:="is_life") (ql:="is_life") rfl rfl ?_ ?_ ?_),
   qU KX G (d:=mV) rfl ?_ (df_mk' qPe (nm:="is_number") (ql:="is_number") rfl rfl ?_ ?_ ?_),
   qU KX G (d:=mU) rfl ?_ (df_mk' qPd (nm:="is_piece") (ql:="is_piece") rfl rfl ?_ ?_ ?_),
   qU KX G (d:=mT) rfl ?_ (df_mk' qPc (nm:="is_place") (ql:="is_place") rfl rfl ?_ ?_ ?_),
   qU KX G (d:=mS) rfl ?_ (df_mk' qPb (nm:="is_sign") (ql:="is_sign") rfl rfl ?_ ?_ ?_),
   qU KX G (d:=mR) rfl ?_ (df_mk' qPa (nm:="is_signs") (ql:="is_signs") rfl rfl ?_ ?_ ?_),
   qU KX G (d:=mP) rfl ?_ (df_mk' qPZ (nm:="is_span_above") (ql:="is_span_above") rfl rfl ?_ ?_ ?_),
   kF KX G ?_,
   kF KX G ?_,
   kF KX G ?_,
   kF KX G ?_,
   qU KX G (d:=mH) rfl ?_ (df_mk' qPR (nm:="names_stream") (ql:="names_stream") rfl rfl ?_ ?_ ?_),
   qU KX G (d:=mG) rfl ?_ (df_mk' qPQ (nm:="number_of") (ql:="number_of") rfl rfl ?_ ?_ ?_),
   qU KX G (d:=mF) rfl ?_ (df_mk' qPP (nm:="number_words") (ql:="number_words") rfl rfl ?_ ?_ ?_),
   qU KX G (d:=mE) rfl ?_ (df_mk' qPO (nm:="numbers_of") (ql:="numbers_of") rfl rfl ?_ ?_ ?_),
   kF KX G ?_,
   qU KX G (d:=mD) rfl ?_ (df_mk' qPN (nm:="parts_of") (ql:="parts_of") rfl rfl ?_ ?_ ?_),
   kF KX G ?_,
   qU KX G (d:=mB) rfl ?_ (df_mk' qPM (nm:="read") (ql:="read") rfl rfl ?_ ?_ ?_),
   qU KX G (d:=lZ) rfl ?_ (df_mk' qPL (nm:="signs_word") (ql:="signs_word") rfl rfl ?_ ?_ ?_),
   kF KX G ?_,
   qU KX G (d:=lY) rfl ?_ (df_mk' qPK (nm:="spans_of") (ql:="spans_of") rfl rfl ?_ ?_ ?_),
   qU KX G (d:=lW) rfl ?_ (df_mk' qPJ (nm:="spans_word") (ql:="spans_word") rfl rfl ?_ ?_ ?_),
   kF KX G ?_,
   kF KX G ?_,
   qU KX G (d:=lU) rfl ?_ (df_mk' qPH (nm:="whole_ones") (ql:="whole_ones") rfl rfl ?_ ?_ ?_),
   qU KX G (d:=lT) rfl ?_ (df_mk' qPG (nm:="written") (ql:="written") rfl rfl ?_ ?_ ?_),
   trivial⟩
   ⟨(Fy.mt_cons vU qa0 qc0 (d:=cP) ⟨?_,?_,?_⟩ rfl (df_mk' qDg (nm:="__init__") (ql:="Meeting.__init__") rfl rfl ?_ ?_ ?_) (Fy.mt_cons vS qa1 qc1 (d:=cO) ⟨?_,?_,?_⟩ rfl (df_mk' qDf (nm:="__init__") (ql:="Slate.__init__") rfl rfl ?_ ?_ ?_) (Fy.mt_cons jL qa2 qc2 (d:=cN) ⟨?_,?_,?_⟩ rfl (df_mk' qDe (nm:="__init__") (ql:="Taker.__init__") rfl rfl ?_ ?_ ?_) (Fy.mt_cons zB qa3 qc3 (d:=cQ) ⟨?_,?_,?_⟩ rfl (df_mk' qDh (nm:="__init__") (ql:="Host.__init__") rfl rfl ?_ ?_ ?_) (Fy.mt_nil qJB (by decide)))))),
   (Fy.mt_cons vU qa0 qc0 (d:=oG) ⟨?_,?_,?_⟩ rfl (df_mk' qP6 (nm:="heard") (ql:="Meeting.heard") rfl rfl ?_ ?_ ?_) (Fy.mt_nil qIw (by decide))),
   (Fy.mt_cons vU qa0 qc0 (d:=oF) ⟨?_,?_,?_⟩ rfl (df_mk' qP5 (nm:="hello") (ql:="Meeting.hello") rfl rfl ?_ ?_ ?_) (Fy.mt_nil qIv (by decide))),
   (Fy.mt_cons vU qa0 qc0 (d:=oE) ⟨?_,?_,?_⟩ rfl (df_mk' qP4 (nm:="reply") (ql:="Meeting.reply") rfl rfl ?_ ?_ ?_) (Fy.mt_nil qIf (by decide))),
   (Fy.mt_cons vS qa1 qc1 (d:=oA) ⟨?_,?_,?_⟩ rfl (df_mk' qP2 (nm:="put") (ql:="Slate.put") rfl rfl ?_ ?_ ?_) (Fy.mt_cons jL qa2 qc2 (d:=nV) ⟨?_,?_,?_⟩ rfl (df_mk' qPy (nm:="put") (ql:="Taker.put") rfl rfl ?_ ?_ ?_) (Fy.mt_nil qIi (by decide)))),
   (Fy.mt_cons vS qa1 qc1 (d:=oB) ⟨?_,?_,?_⟩ rfl (df_mk' qP3 (nm:="draw_in") (ql:="Slate.draw_in") rfl rfl ?_ ?_ ?_) (Fy.mt_nil qI3 (by decide))),
   (Fy.mt_cons vS qa1 qc1 (d:=nZ) ⟨?_,?_,?_⟩ rfl (df_mk' qP1 (nm:="sign") (ql:="Slate.sign") rfl rfl ?_ ?_ ?_) (Fy.mt_nil qIb (by decide))),
   (Fy.mt_cons jL qa2 qc2 (d:=nW) ⟨?_,?_,?_⟩ rfl (df_mk' qPz (nm:="ends") (ql:="Taker.ends") rfl rfl ?_ ?_ ?_) (Fy.mt_nil qI2 (by decide))),
   (Fy.mt_cons jL qa2 qc2 (d:=nU) ⟨?_,?_,?_⟩ rfl (df_mk' qPx (nm:="reach") (ql:="Taker.reach") rfl rfl ?_ ?_ ?_) (Fy.mt_nil qIh (by decide))),
   (Fy.mt_cons jL qa2 qc2 (d:=nR) ⟨?_,?_,?_⟩ rfl (df_mk' qPv (nm:="take") (ql:="Taker.take") rfl rfl ?_ ?_ ?_) (Fy.mt_cons zB qa3 qc3 (d:=oN) ⟨?_,?_,?_⟩ rfl (df_mk' qQC (nm:="take") (ql:="Host.take") rfl rfl ?_ ?_ ?_) (Fy.mt_nil qIW (by decide)))),
   (Fy.mt_cons jL qa2 qc2 (d:=nT) ⟨?_,?_,?_⟩ rfl (df_mk' qPw (nm:="see_done") (ql:="Taker.see_done") rfl rfl ?_ ?_ ?_) (Fy.mt_nil qId (by decide))),
   (Fy.mt_cons jL qa2 qc2 (d:=nY) ⟨?_,?_,?_⟩ rfl (df_mk' qP0 (nm:="answer") (ql:="Taker.answer") rfl rfl ?_ ?_ ?_) (Fy.mt_nil qJA (by decide))),
   (Fy.mt_cons zB qa3 qc3 (d:=pF) ⟨?_,?_,?_⟩ rfl (df_mk' qQQ (nm:="begin_life") (ql:="Host.begin_life") rfl rfl ?_ ?_ ?_) (Fy.mt_nil qI8 (by decide))),
   (Fy.mt_cons zB qa3 qc3 (d:=oP) ⟨?_,?_,?_⟩ rfl (df_mk' qQE (nm:="start") (ql:="Host.start") rfl rfl ?_ ?_ ?_) (Fy.mt_nil qIY (by decide))),
   (Fy.mt_cons zB qa3 qc3 (d:=oZ) ⟨?_,?_,?_⟩ rfl (df_mk' qQL (nm:="giver") (ql:="Host.giver") rfl rfl ?_ ?_ ?_) (Fy.mt_nil qIz (by decide))),
   (Fy.mt_cons zB qa3 qc3 (d:=oK) ⟨?_,?_,?_⟩ rfl (df_mk' qQA (nm:="taker") (ql:="Host.taker") rfl rfl ?_ ?_ ?_) (Fy.mt_nil qIU (by decide))),
   (Fy.mt_cons zB qa3 qc3 (d:=oH) ⟨?_,?_,?_⟩ rfl (df_mk' qP7 (nm:="write") (ql:="Host.write") rfl rfl ?_ ?_ ?_) (Fy.mt_nil qIO (by decide))),
   (Fy.mt_cons zB qa3 qc3 (d:=pA) ⟨?_,?_,?_⟩ rfl (df_mk' qQM (nm:="finish") (ql:="Host.finish") rfl rfl ?_ ?_ ?_) (Fy.mt_nil qI0 (by decide))),
   (Fy.mt_cons zB qa3 qc3 (d:=oO) ⟨?_,?_,?_⟩ rfl (df_mk' qQD (nm:="streams") (ql:="Host.streams") rfl rfl ?_ ?_ ?_) (Fy.mt_nil qIX (by decide))),
   (Fy.mt_cons zB qa3 qc3 (d:=oW) ⟨?_,?_,?_⟩ rfl (df_mk' qQJ (nm:="others") (ql:="Host.others") rfl rfl ?_ ?_ ?_) (Fy.mt_nil qIn (by decide))),
   (Fy.mt_cons zB qa3 qc3 (d:=pC) ⟨?_,?_,?_⟩ rfl (df_mk' qQO (nm:="broken") (ql:="Host.broken") rfl rfl ?_ ?_ ?_) (Fy.mt_nil qI5 (by decide))),
   (Fy.mt_cons zB qa3 qc3 (d:=pB) ⟨?_,?_,?_⟩ rfl (df_mk' qQN (nm:="fall") (ql:="Host.fall") rfl rfl ?_ ?_ ?_) (Fy.mt_nil qI1 (by decide))),
   (Fy.mt_cons zB qa3 qc3 (d:=oI) ⟨?_,?_,?_⟩ rfl (df_mk' qP8 (nm:="tick") (ql:="Host.tick") rfl rfl ?_ ?_ ?_) (Fy.mt_nil qIQ (by decide))),
   (Fy.mt_cons zB qa3 qc3 (d:=oQ) ⟨?_,?_,?_⟩ rfl (df_mk' qQF (nm:="pieces_by_turns") (ql:="Host.pieces_by_turns") rfl rfl ?_ ?_ ?_) (Fy.mt_nil qIj (by decide))),
   (Fy.mt_cons zB qa3 qc3 (d:=oU) ⟨?_,?_,?_⟩ rfl (df_mk' qQH (nm:="part_to_send") (ql:="Host.part_to_send") rfl rfl ?_ ?_ ?_) (Fy.mt_nil qIl (by decide))),
   (Fy.mt_cons zB qa3 qc3 (d:=oR) ⟨?_,?_,?_⟩ rfl (df_mk' qQG (nm:="piece_of") (ql:="Host.piece_of") rfl rfl ?_ ?_ ?_) (Fy.mt_nil qIk (by decide))),
   (Fy.mt_cons zB qa3 qc3 (d:=oY) ⟨?_,?_,?_⟩ rfl (df_mk' qQK (nm:="hear") (ql:="Host.hear") rfl rfl ?_ ?_ ?_) (Fy.mt_nil qIx (by decide))),
   (Fy.mt_cons zB qa3 qc3 (d:=pD) ⟨?_,?_,?_⟩ rfl (df_mk' qQP (nm:="break_streams") (ql:="Host.break_streams") rfl rfl ?_ ?_ ?_) (Fy.mt_nil qI6 (by decide))),
   (Fy.mt_cons zB qa3 qc3 (d:=oM) ⟨?_,?_,?_⟩ rfl (df_mk' qQB (nm:="taken_in") (ql:="Host.taken_in") rfl rfl ?_ ?_ ?_) (Fy.mt_nil qIV (by decide))),
   (Fy.mt_cons zB qa3 qc3 (d:=oV) ⟨?_,?_,?_⟩ rfl (df_mk' qQI (nm:="part_came") (ql:="Host.part_came") rfl rfl ?_ ?_ ?_) (Fy.mt_nil qIm (by decide))),
   (Fy.mt_cons zB qa3 qc3 (d:=oJ) ⟨?_,?_,?_⟩ rfl (df_mk' qP9 (nm:="taker_made") (ql:="Host.taker_made") rfl rfl ?_ ?_ ?_) (Fy.mt_nil qIT (by decide))),
   (Fy.mt_cons zB qa3 qc3 (d:=pG) ⟨?_,?_,?_⟩ rfl (df_mk' qQR (nm:="answer_came") (ql:="Host.answer_came") rfl rfl ?_ ?_ ?_) (Fy.mt_nil qI9 (by decide))),
   trivial⟩
   ⟨(Fy.at_cons vU qa0 ?_ (Fy.at_nil qIp (by decide))),
   (Fy.at_cons vU qa0 ?_ (Fy.at_nil qIN (by decide))),
   (Fy.at_cons vU qa0 ?_ (Fy.at_nil qIt (by decide))),
   (Fy.at_cons vS qa1 ?_ (Fy.at_cons jL qa2 ?_ (Fy.at_nil qIR (by decide)))),
   (Fy.at_cons vS qa1 ?_ (Fy.at_nil qIZ (by decide))),
   (Fy.at_cons vS qa1 ?_ (Fy.at_nil qI7 (by decide))),
   (Fy.at_cons jL qa2 ?_ (Fy.at_cons zB qa3 ?_ (Fy.at_nil qIe (by decide)))),
   (Fy.at_cons jL qa2 ?_ (Fy.at_nil qIa (by decide))),
   (Fy.at_cons jL qa2 ?_ (Fy.at_nil qIP (by decide))),
   (Fy.at_cons jL qa2 ?_ (Fy.at_nil qIg (by decide))),
   (Fy.at_cons jL qa2 ?_ (Fy.at_nil qIr (by decide))),
   (Fy.at_cons jL qa2 ?_ (Fy.at_nil qIu (by decide))),
   (Fy.at_cons zB qa3 ?_ (Fy.at_nil qIo (by decide))),
   (Fy.at_cons zB qa3 ?_ (Fy.at_nil qI4 (by decide))),
   (Fy.at_cons zB qa3 ?_ (Fy.at_nil qIs (by decide))),
   (Fy.at_cons zB qa3 ?_ (Fy.at_nil qIq (by decide))),
   (Fy.at_cons zB qa3 ?_ (Fy.at_nil qIy (by decide))),
   (Fy.at_cons zB qa3 ?_ (Fy.at_nil qIS (by decide))),
   (Fy.at_cons zB qa3 ?_ (Fy.at_nil qIc (by decide))),
   trivial⟩
   ⟨Fy.xm_mk vV xa0 ?_ ?_ ?_ ⟨Fy.xs_mk vV xa0 (b:=true) rfl ?_,Fy.xs_mk vR xa1 (b:=true) rfl ?_,Fy.xs_mk wT xa2 (b:=true) rfl ?_,Fy.xs_mk wS xa3 (b:=true) rfl ?_,Fy.xs_mk vT xa4 (b:=true) rfl ?_,Fy.xs_mk vW xa5 (b:=true) rfl ?_,Fy.xs_mk vQ xa6 (b:=true) rfl ?_,trivial⟩,
   Fy.xm_mk vR xa1 ?_ ?_ ?_ ⟨Fy.xs_mk vV xa0 (b:=false) rfl ?_,Fy.xs_mk vR xa1 (b:=true) rfl ?_,Fy.xs_mk wT xa2 (b:=false) rfl ?_,Fy.xs_mk wS xa3 (b:=false) rfl ?_,Fy.xs_mk vT xa4 (b:=false) rfl ?_,Fy.xs_mk vW xa5 (b:=false) rfl ?_,Fy.xs_mk vQ xa6 (b:=false) rfl ?_,trivial⟩,
   Fy.xm_mk vT xa4 ?_ ?_ ?_ ⟨Fy.xs_mk vV xa0 (b:=false) rfl ?_,Fy.xs_mk vR xa1 (b:=false) rfl ?_,Fy.xs_mk wT xa2 (b:=false) rfl ?_,Fy.xs_mk wS xa3 (b:=false) rfl ?_,Fy.xs_mk vT xa4 (b:=true) rfl ?_,Fy.xs_mk vW xa5 (b:=false) rfl ?_,Fy.xs_mk vQ xa6 (b:=false) rfl ?_,trivial⟩,
   Fy.xm_mk vW xa5 ?_ ?_ ?_ ⟨Fy.xs_mk vV xa0 (b:=false) rfl ?_,Fy.xs_mk vR xa1 (b:=false) rfl ?_,Fy.xs_mk wT xa2 (b:=false) rfl ?_,Fy.xs_mk wS xa3 (b:=false) rfl ?_,Fy.xs_mk vT xa4 (b:=false) rfl ?_,Fy.xs_mk vW xa5 (b:=true) rfl ?_,Fy.xs_mk vQ xa6 (b:=false) rfl ?_,trivial⟩,
   Fy.xm_mk vQ xa6 ?_ ?_ ?_ ⟨Fy.xs_mk vV xa0 (b:=false) rfl ?_,Fy.xs_mk vR xa1 (b:=false) rfl ?_,Fy.xs_mk wT xa2 (b:=false) rfl ?_,Fy.xs_mk wS xa3 (b:=false) rfl ?_,Fy.xs_mk vT xa4 (b:=false) rfl ?_,Fy.xs_mk vW xa5 (b:=false) rfl ?_,Fy.xs_mk vQ xa6 (b:=true) rfl ?_,trivial⟩,
   Fy.xm_skip rfl,
   trivial⟩ (by decide) (by decide) (by decide)
   ⟨wH vV xa0 ⟨?_,?_,?_,?_,?_,?_⟩,
   wH vR xa1 ⟨?_,?_,?_,?_,?_,?_⟩,
   wH wT xa2 ⟨?_,?_,?_,?_,?_,?_⟩,
   wH wS xa3 ⟨?_,?_,?_,?_,?_,?_⟩,
   wH vT xa4 ⟨?_,?_,?_,?_,?_,?_⟩,
   wH vW xa5 ⟨?_,?_,?_,?_,?_,?_⟩,
   wH vQ xa6 ⟨?_,?_,?_,?_,?_,?_⟩,
   trivial⟩
  all_goals try k_is
end
