import PyProof.Rows.All
import Wide.All
import OpenK.AllK
import Wide.FinOn
import Lean
import PyProof.EqAt
import PyProof.EqKinds
import PyProof.TupleCall
import PySem.Challenge.RW_ferry_k35_ticks_by_turns
set_option Elab.async false
set_option linter.all false
set_option maxHeartbeats 4000000
set_option maxRecDepth 100000
noncomputable section
namespace L2
open PySem PySem.Spec PyProof.Rows
abbrev Key:=Sum Int Str
def wF:Key->Value->Bool
 | .inl k,v=>Value.isInt k v
 | .inr x,v=>Value.isStrOf x v
def qKN(w:World):Key->Int
 | .inl k=>hashInt k
 | .inr x=>hashStr w x
theorem kQ:∀ {k:Key} {v:Value},wF k v=true->(∃ i t,k=Sum.inl i/\v=Value.int i t)\/(∃ x t,k=Sum.inr x/\v=Value.str x t)
 | .inl i,v,h=>by
  obtain ⟨t,e⟩:=Value.isInt_shape (k:=i) (v:=v) h;exact .inl ⟨i,t,rfl,e⟩
 | .inr x,v,h=>by
  obtain ⟨t,e⟩:=Value.isStrOf_shape (x:=x) (v:=v) h;exact .inr ⟨x,t,rfl,e⟩
theorem qKM(i:Int)(t:Tok):wF (.inl i) (.int i t)=true:=by simp[wF,Value.isInt]
theorem qKL(x:Str)(t:Tok):wF (.inr x) (.str x t)=true:=by simp[wF,Value.isStrOf]
theorem qKK(a b:Int):decide ((Sum.inl a:Key)=Sum.inl b)=(a == b):=by
 by_cases e:a=b
 ·subst e;simp
 ·have h:¬ (Sum.inl a:Key)=Sum.inl b:=fun q=>e (Sum.inl.inj q);rw[decide_eq_false h];exact (beq_eq_false_iff_ne.mpr e).symm
theorem qKF(a b:Str):decide ((Sum.inr a:Key)=Sum.inr b)=decide (a=b):=by
 by_cases e:a=b
 ·subst e;simp
 ·have h:¬ (Sum.inr a:Key)=Sum.inr b:=fun q=>e (Sum.inr.inj q);rw[decide_eq_false h,decide_eq_false e]
theorem qKJ(a:Int)(b:Str):decide ((Sum.inl a:Key)=Sum.inr b)=false:=decide_eq_false (fun q=>nomatch q)
theorem qKG(a:Str)(b:Int):decide ((Sum.inr a:Key)=Sum.inl b)=false:=decide_eq_false (fun q=>nomatch q)
def mixKind(prog:Program)(w:World):PySem.KeyKind prog w Key where
 is:=wF
 hash:=qKN w
 inj:=fun v a b ha hb=>by
  rcases kQ ha with⟨i,t,rfl,rfl⟩ | ⟨x,t,rfl,rfl⟩
  ·rcases kQ hb with⟨j,u,rfl,e⟩ | ⟨y,u,rfl,e⟩
   ·injection e with e1 _;rw[e1]
   ·exact nomatch e
  ·rcases kQ hb with⟨j,u,rfl,e⟩ | ⟨y,u,rfl,e⟩
   ·exact nomatch e
   ·injection e with e1 _;rw[e1]
 byValue:=fun k v h=>by
  rcases kQ h with⟨i,t,rfl,rfl⟩ | ⟨x,t,rfl,rfl⟩ <;> rfl
 pyHash:=fun hv h=>by
  rcases kQ hv with⟨i,t,rfl,rfl⟩ | ⟨x,t,rfl,rfl⟩
  ·exact wpAny_pyHash_int h
  ·exact wpAny_pyHash_str h
 eqBool:=fun hu hv h=>by
  rcases kQ hu with⟨i,t,rfl,rfl⟩ | ⟨x,t,rfl,rfl⟩
  ·rcases kQ hv with⟨j,u,rfl,rfl⟩ | ⟨y,u,rfl,rfl⟩
   ·rw[qKK] at h;exact wpAny_eqBool_int h
   ·rw[qKJ] at h;exact SeqAt.EqAt.int_str i t y u _ _ _ _ h
  ·rcases kQ hv with⟨j,u,rfl,rfl⟩ | ⟨y,u,rfl,rfl⟩
   ·rw[qKG] at h;exact SeqAt.EqAt.str_int x t j u _ _ _ _ h
   ·rw[qKF] at h;exact wpAny_eqBool_str h
 «strs»:=fun k x t v h=>by
  rcases kQ h with⟨i,u,rfl,e⟩ | ⟨y,u,rfl,e⟩
  ·exact nomatch e
  ·injection e with e1 _;subst e1;cases v <;> rfl
theorem qIs(prog:Program)(w:World)(i:Int)(t:Tok):(mixKind prog w).is (.inl i) (.int i t)=true:=qKM i t
theorem qIr(prog:Program)(w:World)(x:Str)(t:Tok):(mixKind prog w).is (.inr x) (.str x t)=true:=qKL x t
inductive V where
 |non | bl (b:Bool) | int (i:Int) | str (x:Str) | byt (b:Array UInt8) | flt (b:UInt64) | ref (a:Addr) | ty (n:String)
 deriving DecidableEq
def RelV:V->Value->Prop
 | .non,u=>u=Value.none
 | .bl b,u=>u=Value.bool b
 | .int i,u=>∃ t,u=Value.int i t
 | .str x,u=>∃ t,u=Value.str x t
 | .byt b,u=>∃ t,u=Value.bytes b t
 | .flt b,u=>∃ t,u=Value.float b t
 | .ref a,u=>u=Value.ref a
 | .ty n,u=>u=Value.type n
abbrev Vals:List V->List Value->Prop:=Paired RelV
theorem Vals.length{xs:List V}{us:List Value}(r:Vals xs us):xs.length=us.length:=Paired.length r
theorem Vals.get:∀ {xs:List V} {us:List Value} {i:Nat} {x:V},Vals xs us->xs[i]?=some x->∃ u,us[i]?=some u/\RelV x u
 |_,_,_,_,.nil,e=>by simp at e
 |_,_,0,_,.cons r _,e=>by simp at e;subst e;exact⟨_,rfl,r⟩
 |_,_,i+1,x,.cons _ t,e=>by
  obtain ⟨u,h1,h2⟩:=Vals.get (i:=i) (x:=x) t (by simpa using e)
  exact⟨u,by simpa using h1,h2⟩
theorem Vals.set{x:V}{u:Value}(r:RelV x u):∀ {xs:List V} {us:List Value} (i:Nat),Vals xs us->Vals (xs.set i x) (us.set i u)
 |_,_,_,.nil=>.nil
 |_,_,0,.cons _ t=>.cons r t
 |_,_,i+1,.cons q t=>.cons q (Vals.set r i t)
theorem Vals.append:∀ {xs ys:List V} {us ws:List Value},Vals xs us->Vals ys ws->Vals (xs++ys) (us++ws)
 |_,_,_,_,.nil,s=>s
 |_,_,_,_,.cons r t,s=>.cons r (Vals.append t s)
theorem Vals.take:∀ {xs:List V} {us:List Value} (n:Nat),Vals xs us->Vals (xs.take n) (us.take n)
 |_,_,0,_=>.nil
 |_,_,_+1,.nil=>.nil
 |_,_,n+1,.cons r t=>.cons r (Vals.take n t)
theorem Vals.drop:∀ {xs:List V} {us:List Value} (n:Nat),Vals xs us->Vals (xs.drop n) (us.drop n)
 |_,_,0,r=>r
 |_,_,_+1,.nil=>.nil
 |_,_,n+1,.cons _ t=>Vals.drop n t
def RelO:Option V->Option Value->Prop
 |some v,some u=>RelV v u
 |none,none=>True
 |_,_=>False
def KV{κ:Type}:List (κ × V)->List (κ × Value)->Prop:=Paired fun (p:κ × V) (q:κ × Value)=>p.1=q.1/\RelV p.2 q.2
def kV:Key->V
 | .inl i=>.int i
 | .inr x=>.str x
inductive HO where
 |lst (xs:List V)
 |tup (xs:List V)
 |dK (kvs:List (Key × V)) | dT (kvs:List (List Key × V))
 |set (S:Int->Bool) (n:Nat)
 |ins (C dx:Addr) (fs:List (Str × V))
 |own (x:Addr)
 |xd (fs:List (Str × V))
 |met (f x:Addr)
 |rng (lo hi:Int)
 |frz (o:Obj) (u:HO)
 |tbl (ps:Array Value)
 |ext (φ:Heap->Prop)
abbrev Hp:=Addr->Option HO
def upd(H:Hp)(a:Addr)(o:HO):Hp:=fun b=>if b=a then some o else H b
theorem qI{H:Hp}{a:Addr}{o:HO}:upd H a o a=some o:=by unfold upd;rw[if_pos rfl]
theorem qG{H:Hp}{a b:Addr}{o:HO}(h:b≠a):upd H a o b=H b:=by unfold upd;rw[if_neg h]
theorem upd_upd{H:Hp}{a:Addr}{o u:HO}:upd (upd H a o) a u=upd H a u:=by
 funext b;unfold upd;split <;> rfl
theorem ne_of_none{H:Hp}{a b:Addr}{o:HO}(h:H a=some o)(h':H b=none):a≠b:=by
 intro e;subst e;rw[h] at h';cases h'
section
variable (P:Program)(w:World)
def ObjOk(H:Hp)(h:Heap)(a:Addr):HO->Prop
 | .lst xs=>xs.length<=sizeLine/\∃ (its:List Value) (n:Nat),Vals xs its/\h.get? a=some { cls:=.type "list",data:=.seq its.toArray n }
 | .tup xs=>xs.length<=sizeLine/\∃ its:List Value,Vals xs its/\IsTup h a its.toArray
 | .dK kvs=>kvs.length<=sizeLine/\(a == sysModules)=false/\∃ vs,KV kvs vs/\h.DictOf (mixKind P w) a vs
 | .dT kvs=>kvs.length<=sizeLine/\(a == sysModules)=false/\∃ xs:List (List Key × Addr × Value),
   Paired (fun (p:List Key × V) (q:List Key × Addr × Value)=>p.1=q.1/\H q.2.1=some (.tup (p.1.map kV))/\RelV p.2 q.2.2) kvs xs /\
   ∃ o es ep,h.get? a=some o/\o.ExactDict/\o.data=.dict es ep/\es.toList=xs.map (entryOfKey (tupleKind (mixKind P w)))/\(xs.map (·.1)).Nodup
 | .set S n=>h.SetOf (intKind P w) a S n
 | .ins C dx fs=>H dx=some (.own a)/\fs.length<=1000/\dx≠a/\h.get? a=some (PySem.W.instObj C dx) /\
   ∃ mA,h.Ns1 dx mA/\(∀ f,RelO (fs.lookup f) (mA f))/\PySem.Within mA (fs.map (·.1))
 | .own _=>∃ o,h.get? a=some o
 | .xd fs=>∃ mA,h.Ns1 a mA/\∀ f,RelO (fs.lookup f) (mA f)
 | .rng lo hi=>∃ t u v,h.get? a=some { cls:=.type "range",data:=.fields #[.int lo t,.int hi u,.int 1 v] }
 | .frz o u=>h.get? a=some o/\ObjOk H h a u
 | .tbl ps=>h.get? a=some { cls:=.none,data:=.fields ps }
 | .met f x=>h.get? a=some (PySem.W.methodObj (.ref f) (.ref x))
 | .ext φ=>φ h/\(∃ o,h.get? a=some o)/\∀ h1 h2:Heap,φ h1->(∀ o,h1.get? a=some o->h2.get? a=some o)->φ h2
def HOk(H:Hp)(h:Heap):Prop:=∀ a o,H a=some o->ObjOk P w H h a o
end
section
variable {P:Program}{w:World}{H H':Hp}{h h':Heap}{a:Addr}{o:HO}
theorem ObjOk.lt(x:ObjOk P w H h a o):a<h.objs.size:=by
 cases o with
 |lst xs=>obtain ⟨_,_,_,_,e⟩:=x;exact Heap.lt_size e
 |tup xs=>obtain ⟨_,_,_,p⟩:=x;exact p.lt
 |dK kvs=>obtain ⟨_,_,_,_,o,_,_,e,_⟩:=x;exact Heap.lt_size e
 |dT kvs=>obtain ⟨_,_,_,_,o,_,_,e,_⟩:=x;exact Heap.lt_size e
 |set S n=>obtain ⟨o,_,_,_,e,_⟩:=x;exact Heap.lt_size e
 |ins C dx fs=>obtain ⟨_,_,_,e,_⟩:=x;exact Heap.lt_size e
 |own y=>obtain ⟨_,e⟩:=x;exact Heap.lt_size e
 |xd fs=>obtain ⟨_,⟨_,_,_,e,_⟩,_⟩:=x;exact Heap.lt_size e
 |rng lo hi=>obtain ⟨_,_,_,e⟩:=x;exact Heap.lt_size e
 |frz ob u=>obtain ⟨e,_⟩:=x;exact Heap.lt_size e
 |tbl ps=>exact Heap.lt_size (show h.get? a=some _ from x)
 |met f y=>exact Heap.lt_size (show h.get? a=some _ from x)
 |ext φ=>obtain ⟨_,⟨_,e⟩,_⟩:=x;exact Heap.lt_size e
theorem Paired.mapP{α β:Type}{F G:α->β->Prop}:∀ {l₁:List α} {l₂:List β},Paired F l₁ l₂->(∀ a b,F a b->G a b)->Paired G l₁ l₂
 |_,_,.nil,_=>.nil
 |_,_,.cons r t,f=>.cons (f _ _ r) (Paired.mapP t f)
theorem ObjOk.stay(x:ObjOk P w H h a o)(k:∀ b u,(b=a\/H b=some (.own a))->h.get? b=some u->h'.get? b=some u)
  (ho:∀ b,H b=some (.own a)->H' b=some (.own a)) (ht:∀ b xs,H b=some (.tup xs)->H' b=some (.tup xs)):ObjOk P w H' h' a o:=by
 induction o with
 |lst xs=>obtain ⟨z,its,n,r,e⟩:=x;exact⟨z,its,n,r,k _ _ (.inl rfl) e⟩
 |tup xs=>obtain ⟨z,its,r,ob,e,c⟩:=x;exact⟨z,its,r,ob,k _ _ (.inl rfl) e,c⟩
 |dK kvs=>obtain ⟨z,y,vs,r,ob,es,ep,e,c⟩:=x;exact⟨z,y,vs,r,ob,es,ep,k _ _ (.inl rfl) e,c⟩
 |dT kvs=>
  obtain ⟨z,y,xs,r,ob,es,ep,e,c⟩:=x
  exact⟨z,y,xs,Paired.mapP r fun p q z=>⟨z.1,ht _ _ z.2.1,z.2.2⟩,ob,es,ep,k _ _ (.inl rfl) e,c⟩
 |set S n=>obtain ⟨ob,es,ep,t,e,c⟩:=x;exact⟨ob,es,ep,t,k _ _ (.inl rfl) e,c⟩
 |ins C dx fs=>
  obtain ⟨d,z,ne,e,mA,⟨od,es,ep,e2,c⟩,r⟩:=x
  exact⟨ho _ d,z,ne,k _ _ (.inl rfl) e,mA,⟨od,es,ep,k _ _ (.inr d) e2,c⟩,r⟩
 |own y=>obtain ⟨ob,e⟩:=x;exact⟨ob,k _ _ (.inl rfl) e⟩
 |xd fs=>obtain ⟨mA,⟨od,es,ep,e,c⟩,r⟩:=x;exact⟨mA,⟨od,es,ep,k _ _ (.inl rfl) e,c⟩,r⟩
 |rng lo hi=>obtain ⟨t,u,v,e⟩:=x;exact⟨t,u,v,k _ _ (.inl rfl) e⟩
 |frz ob u ih=>obtain ⟨e,q⟩:=x;exact⟨k _ _ (.inl rfl) e,ih q⟩
 |tbl ps=>have e:h.get? a=some { cls:=.none,data:=.fields ps }:=x;show h'.get? a=some { cls:=.none,data:=.fields ps };exact k a _ (.inl rfl) e
 |met f y=>have e:h.get? a=some (PySem.W.methodObj (.ref f) (.ref y)):=x;show h'.get? a=some (PySem.W.methodObj (.ref f) (.ref y));exact k a _ (.inl rfl) e
 |ext φ=>obtain ⟨p,⟨o,e⟩,st⟩:=x;exact⟨st _ _ p fun o q=>k _ _ (.inl rfl) q,⟨o,k _ _ (.inl rfl) e⟩,st⟩
theorem HOk.lt(x:HOk P w H h)(e:H a=some o):a<h.objs.size:=(x a o e).lt
theorem HOk.fresh(x:HOk P w H h)(e:h.objs.size<=a):H a=none:=by
 cases q:H a with
 |none=>rfl
 |some u=>exact absurd (Nat.lt_of_lt_of_le (x.lt q) e) (Nat.lt_irrefl _)
theorem HOk.kept(x:HOk P w H h)(k:∀ b u,h.get? b=some u->h'.get? b=some u):HOk P w H h':=fun a o e=>
 (x a o e).stay (fun b u _ q=>k b u q) (fun _ q=>q) fun _ _ q=>q
theorem HOk.laid(x:HOk P w H h)(k:∀ b u,h.get? b=some u->h'.get? b=some u)(hp:h.objs.size<=a)(new:ObjOk P w (upd H a o) h' a o):HOk P w (upd H a o) h':=fun b u e=>by
 have hn:=x.fresh hp
 by_cases hb:b=a
 ·subst hb;rw[qI] at e;cases e;exact new
 ·rw[qG hb] at e;exact (x b u e).stay (fun c v _ q=>k c v q) (fun c q=>by rw[qG (ne_of_none q hn)];exact q) fun c xs q=>by rw[qG (ne_of_none q hn)];exact q
end
def Rd(H:Hp)(a:Addr)(u:HO):Prop:=H a=some u\/∃ o,H a=some (.frz o u)
theorem Rd.ok{P:Program}{w:World}{H:Hp}{h:Heap}{a:Addr}{u:HO}(r:Rd H a u)(x:HOk P w H h):ObjOk P w H h a u:=by
 rcases r with r | ⟨o,r⟩
 ·exact x a u r
 ·obtain ⟨_,q⟩:=x a _ r;exact q
def Mut:Option HO->Prop
 |some (.lst _)=>True
 |some (.dK _)=>True
 |some (.dT _)=>True
 |some (.set _ _)=>True
 |some (.ins _ _ _)=>True
 |some (.ext _)=>True
 |_=>False
section
variable {P:Program}{w:World}{H:Hp}{h h':Heap}{x e:Addr}{o':HO}
theorem HOk.write(ok:HOk P w H h)(mu:Mut (H x))(he:e=x\/H e=some (.own x))(k:∀ b u,b≠e->h.get? b=some u->h'.get? b=some u)(heo:∃ u,h'.get? e=some u)
  (new:ObjOk P w (upd H x o') h' x o'):HOk P w (upd H x o') h':=fun b u q=>by
 have nown:∀ c y,H c=some (.own y)->c≠x:=fun c y r z=>by subst z;rw[r] at mu;exact mu
 have ntup:∀ c xs,H c=some (.tup xs)->c≠x:=fun c xs r z=>by subst z;rw[r] at mu;exact mu
 by_cases hb:b=x
 ·subst hb;rw[qI] at q;cases q;exact new
 ·rw[qG hb] at q
  by_cases hbe:b=e
  ·have q':H b=some (.own x):=by
    rcases he with z | z
    ·exact absurd (hbe.trans z) hb
    ·rw[hbe];exact z
   rw[q] at q';cases q';obtain ⟨v,hv⟩:=heo
   exact⟨v,by rw[hbe];exact hv⟩
  ·refine (ok b u q).stay (fun c v hc r=>k c v ?_ r) (fun c r=>by rw[qG (nown c b r)];exact r) fun c xs r=>by rw[qG (ntup c xs r)];exact r
   rcases hc with rfl | hc
   ·exact hbe
   ·rintro rfl
    rcases he with z | z
    ·exact nown c b hc z
    ·rw[hc] at z;cases z;exact hb rfl
end
structure Un (fs ex:List Addr) (H H':Hp) (h h':Heap):Prop where
 keep:∀ b o,h.get? b=some o->H b=none->b∉fs->b∉ex->h'.get? b=some o
 slot:∀ b o,h.get? b=some o->H b=none->b∈fs->b∉ex->∃ sl,h'.get? b=some { o with slots:=sl }
 free:∀ b o,h.get? b=some o->H b=none->b∉ex->H' b=none
 there:∀ b o,h.get? b=some o->b∉ex->∃ o',h'.get? b=some o'
 tups:∀ b xs,H b=some (.tup xs)->H' b=some (.tup xs)
 frzs:∀ b o u,H b=some (.frz o u)->H' b=some (.frz o u)
 tbls:∀ b ps,H b=some (.tbl ps)->∃ more,H' b=some (.tbl (ps++more))
section
variable {fs fs' ex ex':List Addr}{H H1 H2:Hp}{h h1 h2 h':Heap}{a x e:Addr}{o:HO}
theorem Un.any(u:Un fs ex H H1 h h1){b:Addr}{ob:Obj}(q:h.get? b=some ob)(n:H b=none)(hx:b∉ex):∃ sl,h1.get? b=some { ob with slots:=sl }:=by
 by_cases hb:b∈fs
 ·exact u.slot b ob q n hb hx
 ·exact⟨ob.slots,u.keep b ob q n hb hx⟩
theorem Un.trans(a:Un fs ex H H1 h h1)(b:Un fs ex H1 H2 h1 h2):Un fs ex H H2 h h2 where
 keep:=fun c ob q n hc hx=>b.keep c ob (a.keep c ob q n hc hx) (a.free c ob q n hx) hc hx
 slot:=fun c ob q n hc hx=>by
  obtain ⟨sl,e1⟩:=a.slot c ob q n hc hx;obtain ⟨sl',e2⟩:=b.slot c _ e1 (a.free c ob q n hx) hc hx
  exact⟨sl',e2⟩
 free:=fun c ob q n hx=>by
  obtain ⟨o',e1⟩:=a.there c ob q hx;exact b.free c o' e1 (a.free c ob q n hx) hx
 there:=fun c ob q hx=>by
  obtain ⟨o',e1⟩:=a.there c ob q hx;exact b.there c o' e1 hx
 tups:=fun c xs q=>b.tups c xs (a.tups c xs q)
 frzs:=fun c ob xs q=>b.frzs c ob xs (a.frzs c ob xs q)
 tbls:=fun c ps q=>by
  obtain ⟨m1,e1⟩:=a.tbls c ps q;obtain ⟨m2,e2⟩:=b.tbls c _ e1
  exact⟨m1++m2,by rw[e2,Array.append_assoc]⟩
theorem Un.kept(k:∀ b u,h.get? b=some u->h'.get? b=some u):Un fs ex H H h h':=
 ⟨fun b ob q _ _ _=>k b ob q,fun b ob q _ _ _=>⟨ob.slots,k b ob q⟩,fun _ _ _ n _=>n,fun b ob q _=>⟨ob,k b ob q⟩,fun _ _ q=>q,fun _ _ _ q=>q,fun _ ps q=>⟨#[],by rw[q];simp⟩⟩
theorem Un.refl:Un fs ex H H h h:=Un.kept fun _ _ q=>q
theorem Un.laid(k:∀ b u,h.get? b=some u->h'.get? b=some u)(hp:h.objs.size<=a)(hn:H a=none):Un fs ex H (upd H a o) h h' where
 keep:=fun b u q _ _ _=>k b u q
 slot:=fun b u q _ _ _=>⟨u.slots,k b u q⟩
 free:=fun b u q n _=>by rw[qG (Nat.ne_of_lt (Nat.lt_of_lt_of_le (Heap.lt_size q) hp))];exact n
 there:=fun b u q _=>⟨u,k b u q⟩
 tups:=fun b xs q=>by rw[qG (ne_of_none q hn)];exact q
 frzs:=fun b u xs q=>by rw[qG (ne_of_none q hn)];exact q
 tbls:=fun b ps q=>⟨#[],by rw[qG (ne_of_none q hn),q];simp⟩
theorem Un.write(mu:Mut (H x))(he:e=x\/H e=some (.own x))(k:∀ b u,b≠e->h.get? b=some u->h'.get? b=some u)(heo:∃ u,h'.get? e=some u):Un fs ex H (upd H x o) h h':=by
 have hx:∀ b,H b=none->b≠x:=fun b n z=>by subst z;rw[n] at mu;exact mu
 have hb:∀ b,H b=none->b≠e:=fun b n z=>by
  subst z;rcases he with r | r
  ·exact hx b n r
  ·rw[n] at r;cases r
 have hm:∀ b u,H b=some u->¬ Mut (some u)->b≠x:=fun b u q nm z=>by subst z;rw[q] at mu;exact nm mu
 refine⟨fun b u q n _ _=>k b u (hb b n) q,fun b u q n _ _=>⟨u.slots,k b u (hb b n) q⟩,fun b u q n _=>by rw[qG (hx b n)];exact n,fun b u q _=>?_,
  fun b xs q=>by rw[qG (hm b _ q fun z=>z)];exact q,fun b u xs q=>by rw[qG (hm b _ q fun z=>z)];exact q,fun b ps q=>⟨#[],by rw[qG (hm b _ q fun z=>z),q];simp⟩⟩
 by_cases hbe:b=e
 ·subst hbe;exact heo
 ·exact⟨u,k b u hbe q⟩
theorem Un.mono(u:Un fs ex H H1 h h1)(hs:∀ b∈fs,b∈fs')(hx:∀ b∈ex,b∈ex'):Un fs' ex' H H1 h h1:=
 ⟨fun b ob q n hb he=>u.keep b ob q n (fun z=>hb (hs b z)) fun z=>he (hx b z),fun _ _ q n _ he=>u.any q n fun z=>he (hx _ z),fun b ob q n he=>u.free b ob q n fun z=>he (hx b z),fun b ob q he=>u.there b ob q fun z=>he (hx b z),u.tups,u.frzs,u.tbls⟩
end
def trk(h:Heap)(H:Hp):List Addr:=(List.range h.objs.size).filter fun a=>(H a).isSome
def vE(h:Heap)(H:Hp):Heap:=PySem.W.hideAll h (trk h H)
theorem qLp(h:Heap)(H:Hp):(vE h H).objs.size=h.objs.size:=PySem.W.hideAll_size _ _
theorem qLq{h:Heap}{H:Hp}{b:Addr}{o:Obj}(e:h.get? b=some o)(n:H b=none):(vE h H).get? b=some o:=
 PySem.W.hideAll_get _ e fun hm=>by
  have q:(H b).isSome=true:=(List.mem_filter.mp hm).2;rw[n] at q;simp at q
theorem qG7{h:Heap}{H:Hp}{b:Addr}{o:Obj}(e:(vE h H).get? b=some o):h.get? b=some o/\H b=none:=by
 have e':h.get? b=some o:=PySem.W.of_hideAll (trk h H) e;refine⟨e',?_⟩;cases q:H b with
 |none=>rfl
 |some x=>have hm:b∈trk h H:=List.mem_filter.mpr ⟨List.mem_range.mpr (Heap.lt_size e'),by simp[q]⟩;have z:(vE h H).get? b=none:=PySem.W.hideAll_none (trk h H) hm;rw[z] at e;cases e
def qRc(g h:Heap)(L:Addr):List (Addr × Obj):=(List.range h.objs.size).filterMap fun a=>if a=L\/(g.get? a).isSome=true then none else (h.get? a).map fun o=>(a,o)
def rest(g h:Heap)(L d:Addr):List (Addr × Obj):=(qRc g h L).filter fun p=>decide (p.1≠d)
structure Mod (K:PySem.W.Frag) (mg:Str->Option Value) (base:Heap):Prop where
 kin:K.In base
 glob:base.Ns mainGlobals mg
 blt:∃ mb,base.Ns builtinsNs mb/\∀ x:Str,x≠"__name__"->mb x=bootBuiltins x
 nolimit:base.NoLimit
structure Cx where
 prog:Program
 w:World
 K:PySem.W.Frag
 mg:Str->Option Value
 base:Heap
 A:Around
 N:List Str
 s₀:Shared
 H₀:Hp
 env:Env
 outer:List Env
 stack:List Env
 ex:List Addr
 fn:Str->Bool
 calm:Bool
 pn:List (Addr × Obj)
 xe:Value->Shared->Prop
def frs(l:List Env):List Addr:=l.filterMap (·.frame)
abbrev Cx.fs(X:Cx):List Addr:=frs X.outer
def Vis(sc:Scope)(x:Str):Prop:=sc.names.lookup x=some .local\/sc.names.lookup x=some .cell\/sc.names.lookup x=some .free
def Loc(sc:Scope)(x:Str):Prop:=sc.names.lookup x=some .local\/sc.names.lookup x=some .cell
def Look(env:Env)(h:Heap)(m:Str->Option Value)(x:Str)(u:Value):Prop:=
 (env.kindOf x=some .local/\m x=some u)\/((env.kindOf x=some .cell\/env.kindOf x=some .free)/\∃ c,env.cells.lookup x=some c/\h.IsCell c (some u))
structure Cx.Ok (X:Cx):Prop where
 mod:Mod X.K X.mg X.base
 kind:X.env.scope.kind=.function
 glob:X.env.globals=mainGlobals
 blt:X.env.builtins=builtinsNs
 above:X.s₀.heap.objs.size<=X.env.locals
 inj:∀ x y c,X.env.cells.lookup x=some c->X.env.cells.lookup y=some c->x=y
 has:∀ x,(X.env.kindOf x=some .cell\/X.env.kindOf x=some .free)->∃ c,X.env.cells.lookup x=some c
 cab:∀ x c,X.fn x=true->X.env.cells.lookup x=some c->X.s₀.heap.objs.size<=c
 hd:X.calm=true->X.A.handled=none
 frames:X.A.frames=some X.stack
 stk:X.stack=X.outer\/(X.stack=X.env::X.outer/\X.env.frame=some X.env.locals)
 exf:∀ b∈X.ex,b≠X.env.locals/\∀ x c,X.env.cells.lookup x=some c->c≠b
 bs:∀ b o,X.base.get? b=some o->X.s₀.heap.get? b=some o/\X.H₀ b=none
 bsz:X.base.objs.size<=X.s₀.heap.objs.size
 noex:∀ b o,X.base.get? b=some o->b∉X.ex
 exfs:∀ b∈X.ex,b∉X.fs
 funs:X.s₀.heap.FunFrames X.base X.outer
 frf:∀ b∈X.fs,X.H₀ b=none
structure Inv (X:Cx) (pins:List (Addr × Obj)) (σ:List (Option V)) (H:Hp) (s:Shared):Prop where
 ok:X.Ok
 os:s.os=X.s₀.os
 bare:AllBare s.gens
 base:Un X.fs X.ex X.H₀ H X.s₀.heap s.heap
 loc:∃ m,s.heap.Ns X.env.locals m/\∀ (i:Nat) (x:Str) (v:V),X.N[i]?=some x->σ[i]?=some (some v)->Vis X.env.scope x->∃ u,RelV v u/\Look X.env s.heap m x u
 cell:∀ x c,X.env.cells.lookup x=some c->∃ v,s.heap.IsCell c v
 free:H X.env.locals=none
 freeC:∀ x c,X.env.cells.lookup x=some c->H c=none
 pin:∀ p∈X.pn++pins,s.heap.get? p.1=some p.2/\H p.1=none/\p.1≠X.env.locals/\p.1∉X.fs/\∀ v,p.2.data≠.cell v
 hok:HOk X.prog X.w H s.heap
 len:σ.length=X.N.length
section
variable {X:Cx}{pins:List (Addr × Obj)}{σ:List (Option V)}{H H':Hp}{s:Shared}{h':Heap}
theorem Cx.Ok.nofr(ok:X.Ok){b:Addr}{o:Obj}(e:X.base.get? b=some o):b∉X.fs:=fun hb=>by
 have:=(ok.funs.mem hb).1
 rw[e] at this;cases this
theorem Inv.bs(I:Inv X pins σ H s):∀ b o,X.base.get? b=some o->s.heap.get? b=some o/\H b=none:=fun b o e=>
 ⟨I.base.keep b o (I.ok.bs b o e).1 (I.ok.bs b o e).2 (I.ok.nofr e) (I.ok.noex b o e),I.base.free b o (I.ok.bs b o e).1 (I.ok.bs b o e).2 (I.ok.noex b o e)⟩
theorem Inv.bk(I:Inv X pins σ H s):∀ b o,X.base.get? b=some o->s.heap.get? b=some o:=fun b o e=>(I.bs b o e).1
theorem Inv.mod(I:Inv X pins σ H s):Mod X.K X.mg X.base:=I.ok.mod
theorem Inv.kIn(I:Inv X pins σ H s):X.K.In s.heap:=I.ok.mod.kin.keeps I.bk
theorem Inv.lt(I:Inv X pins σ H s):X.env.locals<s.heap.objs.size:=let ⟨_,hn,_⟩:=I.loc;hn.lt
theorem Inv.sz(I:Inv X pins σ H s):X.s₀.heap.objs.size<=s.heap.objs.size:=Nat.le_trans I.ok.above (Nat.le_of_lt I.lt)
theorem Inv.nofs(I:Inv X pins σ H s){a:Addr}(h:s.heap.objs.size<=a):a∉X.fs:=fun hb=>by
 obtain ⟨_,o,ho,_⟩:=I.ok.funs.mem hb;exact absurd (Nat.lt_of_lt_of_le (Heap.lt_size ho) (Nat.le_trans I.sz h)) (Nat.lt_irrefl _)
theorem Inv.cne(I:Inv X pins σ H s):∀ x c,X.env.cells.lookup x=some c->c≠X.env.locals:=fun x c e z=>by
 obtain ⟨v,o,ho,hd⟩:=I.cell x c e;obtain ⟨m,⟨o',es,ep,ho',hd',_⟩,_⟩:=I.loc;rw[z,ho'] at ho;cases ho;rw[hd'] at hd;cases hd
theorem Inv.funs(I:Inv X pins σ H s):s.heap.FunFrames X.base X.outer:=by
 have all:∀ (l:List Env),(∀ b∈frs l,b∈X.fs)->X.s₀.heap.FunFrames X.base l->s.heap.FunFrames X.base l:=by
  intro l
  induction l with
  |nil=>intro _ _;trivial
  |cons env r ih=>
   intro hs hl;obtain ⟨hk,⟨L,o,hf,hn,ho,hd⟩,hr⟩:=hl;have hL:L∈X.fs:=hs L (by unfold frs;rw[List.filterMap_cons,hf];exact List.mem_cons_self);obtain ⟨sl,e⟩:=I.base.slot L o ho (I.ok.frf L hL) hL fun z=>I.ok.exfs L z hL
   exact⟨hk,⟨L,_,hf,hn,e,hd⟩,ih (fun b hb=>hs b (by unfold frs;rw[List.filterMap_cons,hf];exact List.mem_cons_of_mem _ hb)) hr⟩
 exact all X.outer (fun _ hb=>hb) I.ok.funs
theorem Inv.stack(I:Inv X pins σ H s):s.heap.FunFrames X.base X.stack:=by
 rcases I.ok.stk with e | ⟨e,hf⟩
 ·rw[e];exact I.funs
 ·rw[e];obtain ⟨m,hn,_⟩:=I.loc;refine .cons (by rw[I.ok.kind];decide) hf hn ?_ I.funs;exact Heap.get?_none_of_le (Nat.le_trans I.ok.bsz I.ok.above)
theorem Inv.stkSub(I:Inv X pins σ H s):∀ b∈frs X.stack,b∈X.env.locals::X.fs:=fun b hb=>by
 rcases I.ok.stk with e | ⟨e,hf⟩
 ·rw[e] at hb;exact List.mem_cons_of_mem _ hb
 ·rw[e] at hb;unfold frs at hb;rw[List.filterMap_cons,hf] at hb;exact hb
theorem Inv.stkFree(I:Inv X pins σ H s):∀ b∈frs X.stack,H b=none:=fun b hb=>by
 rcases List.mem_cons.mp (I.stkSub b hb) with e | hb
 ·rw[e];exact I.free
 ·obtain ⟨_,o,ho,_⟩:=I.ok.funs.mem hb;exact I.base.free b o ho (I.ok.frf b hb) fun z=>I.ok.exfs b z hb
theorem Inv.step{g':Array GenState}{t':Nat}{d':Drawn}{ch:List Addr}(I:Inv X pins σ H s)
  (hch:∀ b∈ch,(b∈X.ex\/X.s₀.heap.objs.size<=b)/\b≠X.env.locals/\(∀ x c,X.env.cells.lookup x=some c->c≠b)/\∀ p∈X.pn++pins,p.1≠b)
  (keep:∀ b o,b≠X.env.locals->b∉X.fs->b∉ch->s.heap.get? b=some o->H b=none->h'.get? b=some o)
  (slot:∀ b o,b≠X.env.locals->b∈X.fs->b∉ch->s.heap.get? b=some o->H b=none->∃ sl,h'.get? b=some { o with slots:=sl }) (free:∀ b o,b∉ch->s.heap.get? b=some o->H b=none->H' b=none)
  (there:∀ b o,b∉ch->s.heap.get? b=some o->∃ o',h'.get? b=some o')
  (tups:∀ b xs,H b=some (.tup xs)->H' b=some (.tup xs)) (frzs:∀ b o u,H b=some (.frz o u)->H' b=some (.frz o u)) (tbls:∀ b ps,H b=some (.tbl ps)->∃ more,H' b=some (.tbl (ps++more)))
  (ns:∀ m,s.heap.Ns X.env.locals m->h'.Ns X.env.locals m) (hok:HOk X.prog X.w H' h') (hg:AllBare g') :
  Inv X pins σ H' { s with heap:=h',gens:=g',drawn:=d',toks:=t' }:=by
 have neL:∀ b o,X.s₀.heap.get? b=some o->b≠X.env.locals:=fun b o e=>Nat.ne_of_lt (Nat.lt_of_lt_of_le (Heap.lt_size e) I.ok.above)
 have neC:∀ b o,X.s₀.heap.get? b=some o->b∉X.ex->b∉ch:=fun b o e hx hb=>by
  rcases (hch b hb).1 with z | z
  ·exact hx z
  ·exact absurd (Nat.lt_of_lt_of_le (Heap.lt_size e) z) (Nat.lt_irrefl _)
 have cellK:∀ x c,X.env.cells.lookup x=some c->∀ v,s.heap.IsCell c v->h'.IsCell c v:=fun x c e v ⟨o,ho,hd⟩=>by
  have nch:c∉ch:=fun z=>(hch c z).2.2.1 x c e rfl
  by_cases hc:c∈X.fs
  ·obtain ⟨sl,q⟩:=slot c o (I.cne x c e) hc nch ho (I.freeC x c e)
   exact⟨_,q,hd⟩
  ·exact⟨o,keep c o (I.cne x c e) hc nch ho (I.freeC x c e),hd⟩
 refine⟨I.ok,I.os,hg,⟨fun b o e n hb hx=>?_,fun b o e n hb hx=>?_,fun b o e n hx=>?_,fun b o e hx=>?_,fun b xs e=>tups b xs (I.base.tups b xs e),fun b o xs e=>frzs b o xs (I.base.frzs b o xs e),fun b ps e=>?_⟩,?_,fun x c e=>?_,?_,fun x c e=>?_,fun p hp=>?_,hok,I.len⟩
 ·exact keep b o (neL b o e) hb (neC b o e hx) (I.base.keep b o e n hb hx) (I.base.free b o e n hx)
 ·obtain ⟨sl,e1⟩:=I.base.slot b o e n hb hx;obtain ⟨sl',e2⟩:=slot b _ (neL b o e) hb (neC b o e hx) e1 (I.base.free b o e n hx)
  exact⟨sl',e2⟩
 ·obtain ⟨o',e1⟩:=I.base.there b o e hx;exact free b o' (neC b o e hx) e1 (I.base.free b o e n hx)
 ·obtain ⟨o',e1⟩:=I.base.there b o e hx;exact there b o' (neC b o e hx) e1
 ·obtain ⟨m1,e1⟩:=I.base.tbls b ps e;obtain ⟨m2,e2⟩:=tbls b _ e1
  exact⟨m1++m2,by rw[e2,Array.append_assoc]⟩
 ·obtain ⟨m,hn,hl⟩:=I.loc;refine⟨m,ns m hn,fun i x v e1 e2 e3=>?_⟩;obtain ⟨u,r,l⟩:=hl i x v e1 e2 e3;refine⟨u,r,?_⟩;rcases l with l | ⟨k,c,e,z⟩
  ·exact .inl l
  ·exact .inr ⟨k,c,e,cellK x c e _ z⟩
 ·obtain ⟨v,z⟩:=I.cell x c e
  exact⟨v,cellK x c e v z⟩
 ·obtain ⟨m,⟨o,_,_,ho,_⟩,_⟩:=I.loc;exact free _ o (fun z=>(hch _ z).2.1 rfl) ho I.free
 ·obtain ⟨v,o,ho,hd⟩:=I.cell x c e;exact free c o (fun z=>(hch c z).2.2.1 x c e rfl) ho (I.freeC x c e)
 ·obtain ⟨e,n,ne,nf,d⟩:=I.pin p hp;have nch:p.1∉ch:=fun z=>(hch p.1 z).2.2.2 p hp rfl
  exact⟨keep p.1 p.2 ne nf nch e n,free p.1 p.2 nch e n,ne,nf,d⟩
theorem Inv.un{t':Nat}(I:Inv X pins σ H s)(u:Un X.fs [] H H' s.heap h')(hok:HOk X.prog X.w H' h'):Inv X pins σ H' { s with heap:=h',toks:=t' }:=by
 obtain ⟨m,⟨o,es,ep,ho,r⟩,_⟩:=id I.loc;obtain ⟨sl,hL⟩:=u.any ho I.free (by simp)
 exact I.step (g':=s.gens) (d':=s.drawn) (ch:=[]) (fun _ z=>nomatch z) (fun b o _ hb _ e n=>u.keep b o e n hb (by simp)) (fun b o _ hb _ e n=>u.slot b o e n hb (by simp)) (fun b o _ e n=>u.free b o e n (by simp)) (fun b o _ e=>u.there b o e (by simp)) u.tups u.frzs u.tbls (fun m' hm=>by
  obtain ⟨o',es',ep',ho',r'⟩:=hm;rw[ho] at ho';cases ho'
  exact⟨_,es',ep',hL,r'⟩) hok I.bare
theorem Inv.call{g':Array GenState}{t':Nat}{d':Drawn}{ch:List Addr}(I:Inv X pins σ H s)(u:Un (frs X.stack) ch H H' s.heap h')(hok:HOk X.prog X.w H' h')(hg:AllBare g')
  (hch:∀ b∈ch,(b∈X.ex\/X.s₀.heap.objs.size<=b)/\b≠X.env.locals/\(∀ x c,X.env.cells.lookup x=some c->c≠b)/\∀ p∈X.pn++pins,p.1≠b) :
  Inv X pins σ H' { s with heap:=h',gens:=g',drawn:=d',toks:=t' }:=by
 obtain ⟨m,⟨o,es,ep,ho,r⟩,_⟩:=id I.loc;obtain ⟨sl,hL⟩:=u.any ho I.free fun z=>(hch _ z).2.1 rfl
 exact I.step (ch:=ch) hch (fun b o hL hb hc e n=>u.keep b o e n (fun z=>(List.mem_cons.mp (I.stkSub b z)).elim hL hb) hc) (fun b o _ _ hc e n=>u.any e n hc) (fun b o hc e n=>u.free b o e n hc) (fun b o hc e=>u.there b o e hc) u.tups u.frzs u.tbls (fun m' hm=>by
  obtain ⟨o',es',ep',ho',r'⟩:=hm;rw[ho] at ho';cases ho'
  exact⟨_,es',ep',hL,r'⟩) hok hg
theorem Inv.turned{t':Nat}{it:Addr}(I:Inv X pins σ H s)(k:∀ b o,b≠it->s.heap.get? b=some o->h'.get? b=some o)(hn:H it=none)(hL:it≠X.env.locals)
  (h1:it∈X.ex\/X.s₀.heap.objs.size<=it) (h2:∀ x c,X.env.cells.lookup x=some c->c≠it) (h3:∀ p∈X.pn++pins,p.1≠it):Inv X pins σ H { s with heap:=h',toks:=t' }:=by
 have nit:∀ b u,H b=some u->b≠it:=fun b u e z=>by rw[z,hn] at e;cases e
 refine I.step (g':=s.gens) (d':=s.drawn) (ch:=[it]) (fun b hb=>?_) (fun b o _ _ hc e _=>k b o (fun z=>hc (by simp[z])) e) (fun b o _ _ hc e _=>⟨o.slots,k b o (fun z=>hc (by simp[z])) e⟩) (fun _ _ _ _ n=>n)
  (fun b o hc e=>⟨o,k b o (fun z=>hc (by simp[z])) e⟩) (fun _ _ e=>e) (fun _ _ _ e=>e) (fun b ps e=>⟨#[],by rw[e];simp⟩) (fun m hm=>?_) (fun b u e=>?_) I.bare
 ·have e:b=it:=by simpa using hb
  subst e
  exact⟨h1,hL,h2,h3⟩
 ·obtain ⟨o,es,ep,ho,r⟩:=hm
  exact⟨o,es,ep,k _ o (Ne.symm hL) ho,r⟩
 ·refine (I.hok b u e).stay (fun c v hc q=>k c v ?_ q) (fun _ q=>q) fun _ _ q=>q;rcases hc with z | z
  ·rw[z];exact nit b u e
  ·exact nit c _ z
theorem Inv.tok(I:Inv X pins σ H s)(t:Nat):Inv X pins σ H { s with toks:=t }:=I.un (h':=s.heap) (t':=t) Un.refl I.hok
theorem Inv.kept{t':Nat}(I:Inv X pins σ H s)(k:∀ b u,s.heap.get? b=some u->h'.get? b=some u):Inv X pins σ H { s with heap:=h',toks:=t' }:=I.un (Un.kept k) (I.hok.kept k)
theorem Inv.laid{a:Addr}{o:HO}{t':Nat}(I:Inv X pins σ H s)(k:∀ b u,s.heap.get? b=some u->h'.get? b=some u)(hp:s.heap.objs.size<=a)(new:ObjOk X.prog X.w (upd H a o) h' a o) :
  Inv X pins σ (upd H a o) { s with heap:=h',toks:=t' }:=I.un (Un.laid k hp (I.hok.fresh hp)) (I.hok.laid k hp new)
theorem Inv.write{x e:Addr}{o:HO}{t':Nat}(I:Inv X pins σ H s)(mu:Mut (H x))(he:e=x\/H e=some (.own x))(k:∀ b u,b≠e->s.heap.get? b=some u->h'.get? b=some u)(heo:∃ u,h'.get? e=some u)
  (new:ObjOk X.prog X.w (upd H x o) h' x o):Inv X pins σ (upd H x o) { s with heap:=h',toks:=t' }:=I.un (Un.write mu he k heo) (I.hok.write mu he k heo new)
theorem Inv.pins_of{pins':List (Addr × Obj)}(I:Inv X pins σ H s)(h:∀ p∈pins',s.heap.get? p.1=some p.2/\H p.1=none/\p.1≠X.env.locals/\p.1∉X.fs/\∀ v,p.2.data≠.cell v):Inv X pins' σ H s:=
 ⟨I.ok,I.os,I.bare,I.base,I.loc,I.cell,I.free,I.freeC,fun p hp=>(List.mem_append.mp hp).elim (fun z=>I.pin p (List.mem_append_left _ z)) (h p),I.hok,I.len⟩
theorem qBE{N:List Str}(hN:N.Nodup){i j:Nat}{x:Str}(a:N[i]?=some x)(b:N[j]?=some x):i=j:=by
 obtain ⟨h1,e1⟩:=List.getElem?_eq_some_iff.mp a;obtain ⟨h2,e2⟩:=List.getElem?_eq_some_iff.mp b;exact (List.getElem_inj hN).mp (e1.trans e2.symm)
theorem qFX{M:Model}{A:Around}{E:Value->Shared->Prop}{i:Nat}{x:Str}{v:V}{u:Value}{Q:Unit->Shared->Prop}(I:Inv X pins σ H s)(hN:X.N.Nodup)(hi:X.N[i]?=some x)(hx:Loc X.env.scope x)(r:RelV v u)
  (h:∀ s',Inv X pins (σ.set i (some v)) H s'->(∃ a,Heap.SameBut a s.heap s'.heap/\(a=X.env.locals\/X.env.cells.lookup x=some a))->Q () s') (hf:X.fn x=true\/X.env.scope.names.lookup x=some .local:=by first | exact .inl rfl | exact .inr rfl | assumption):wpAny M A (storeName X.env x u) Q E s:=by
 obtain ⟨m,hn,hl⟩:=id I.loc;have hcls:(X.env.scope.kind == .class || (X.env.scope.kind == .module&&X.env.locals != X.env.globals))=false:=by rw[I.ok.kind];rfl
 have hiσ:i<σ.length:=by rw[I.len];exact (List.getElem?_eq_some_iff.mp hi).1
 have cne:=I.cne
 have tracked:∀ {a:Addr} {h':Heap},(∃ o,s.heap.get? a=some o/\H a=none)->Heap.SameBut a s.heap h'->HOk X.prog X.w H h':=fun {a h'} ha hs b ob e=>by
  obtain ⟨_,_,hfree⟩:=ha;refine (I.hok b ob e).stay (fun c w' hc q=>(hs.2 c ?_).trans q) (fun _ q=>q) fun _ _ q=>q
  rintro rfl
  rcases hc with rfl | hc
  ·rw[hfree] at e;cases e
  ·rw[hfree] at hc;cases hc
 rcases hx with hk | hk
 ·refine wpAny_storeName_local hk hn (fun h' hn' hs=>?_) hcls;obtain ⟨oL,_,_,hoL,_⟩:=id hn;refine h _ ⟨I.ok,I.os,I.bare,⟨fun b o e n hb hx=>?_,fun b o e n hb hx=>?_,I.base.free,fun b o e hx=>?_,I.base.tups,I.base.frzs,I.base.tbls⟩,⟨_,hn',fun j y v' e1 e2 e3=>?_⟩,fun y c e=>?_,I.free,I.freeC,fun p hp=>?_,tracked ⟨oL,hoL,I.free⟩ hs,by simpa using I.len⟩ ⟨_,hs,.inl rfl⟩
  ·exact (hs.2 b (Nat.ne_of_lt (Nat.lt_of_lt_of_le (Heap.lt_size e) I.ok.above))).trans (I.base.keep b o e n hb hx)
  ·obtain ⟨sl,e1⟩:=I.base.slot b o e n hb hx
   exact⟨sl,(hs.2 b (Nat.ne_of_lt (Nat.lt_of_lt_of_le (Heap.lt_size e) I.ok.above))).trans e1⟩
  ·obtain ⟨o',e1⟩:=I.base.there b o e hx
   exact⟨o',(hs.2 b (Nat.ne_of_lt (Nat.lt_of_lt_of_le (Heap.lt_size e) I.ok.above))).trans e1⟩
  ·by_cases hj:j=i
   ·subst hj;rw[hi] at e1;cases e1;rw[List.getElem?_set_self hiσ] at e2;cases e2
    exact⟨u,r,.inl ⟨hk,by simp⟩⟩
   ·rw[List.getElem?_set_ne (Ne.symm hj)] at e2;obtain ⟨u',r',q⟩:=hl j y v' e1 e2 e3;refine⟨u',r',?_⟩;rcases q with⟨k,e⟩ | ⟨k,c,e,z⟩
    ·refine .inl ⟨k,?_⟩
     have:y≠x:=fun e=>hj (qBE hN e1 (e ▸ hi))
     simp[this,e]
    ·exact .inr ⟨k,c,e,z.sameBut hs (cne y c e)⟩
  ·obtain ⟨w',z⟩:=I.cell y c e
   exact⟨w',z.sameBut hs (cne y c e)⟩
  ·obtain ⟨e,n,ne,nf,d⟩:=I.pin p hp
   exact⟨(hs.2 p.1 ne).trans e,n,ne,nf,d⟩
 ·have hfn:X.fn x=true:=by
   rcases hf with z | z
   ·exact z
   ·rw[z] at hk;cases hk
  obtain ⟨c,hc⟩:=I.ok.has x (.inl hk);obtain ⟨w',z⟩:=I.cell x c hc;refine wpAny_storeName_cell I.ok.kind hk hc z (fun h' hc' hs=>?_);obtain ⟨oc,hoc,hocd⟩:=id z;refine h { s with heap:=h' } ⟨I.ok,I.os,I.bare,⟨fun b o e n hb hx=>?_,fun b o e n hb hx=>?_,I.base.free,fun b o e hx=>?_,I.base.tups,I.base.frzs,I.base.tbls⟩,⟨m,hn.sameBut hs (Ne.symm (cne x c hc)),fun j y v' e1 e2 e3=>?_⟩,fun y c' e=>?_,I.free,I.freeC,fun p hp=>?_,tracked ⟨oc,hoc,I.freeC x c hc⟩ hs,by simpa using I.len⟩ ⟨c,hs,.inr hc⟩
  ·exact (hs.2 b (Nat.ne_of_lt (Nat.lt_of_lt_of_le (Heap.lt_size e) (I.ok.cab x c hfn hc)))).trans (I.base.keep b o e n hb hx)
  ·obtain ⟨sl,e1⟩:=I.base.slot b o e n hb hx
   exact⟨sl,(hs.2 b (Nat.ne_of_lt (Nat.lt_of_lt_of_le (Heap.lt_size e) (I.ok.cab x c hfn hc)))).trans e1⟩
  ·obtain ⟨o',e1⟩:=I.base.there b o e hx
   exact⟨o',(hs.2 b (Nat.ne_of_lt (Nat.lt_of_lt_of_le (Heap.lt_size e) (I.ok.cab x c hfn hc)))).trans e1⟩
  ·by_cases hj:j=i
   ·subst hj;rw[hi] at e1;cases e1;rw[List.getElem?_set_self hiσ] at e2;cases e2
    exact⟨u,r,.inr ⟨.inl hk,c,hc,hc'⟩⟩
   ·rw[List.getElem?_set_ne (Ne.symm hj)] at e2;obtain ⟨u',r',q⟩:=hl j y v' e1 e2 e3;refine⟨u',r',?_⟩;rcases q with q | ⟨k,c',e,z'⟩
    ·exact .inl q
    ·refine .inr ⟨k,c',e,z'.sameBut hs ?_⟩
     rintro rfl
     exact hj (qBE hN e1 (I.ok.inj _ _ _ e hc ▸ hi))
  ·by_cases hcc:c'=c
   ·subst hcc;exact⟨_,hc'⟩
   ·obtain ⟨w2,z2⟩:=I.cell y c' e
    exact⟨w2,z2.sameBut hs hcc⟩
  ·obtain ⟨e,n,ne,nf,d⟩:=I.pin p hp;refine⟨(hs.2 p.1 ?_).trans e,n,ne,nf,d⟩;intro q;rw[q,hoc] at e;have q':oc=p.2:=Option.some.inj e;exact d w' (by rw[<- q'];exact hocd)
theorem wQ{M:Model}{A:Around}{E:Value->Shared->Prop}{i:Nat}{x:Str}{v:V}{u:Value}{Q:Unit->Shared->Prop}(I:Inv X pins σ H s)(hN:X.N.Nodup)(hi:X.N[i]?=some x)(hx:Loc X.env.scope x)(r:RelV v u)
  (h:∀ s',Inv X pins (σ.set i (some v)) H s'->Q () s') (hf:X.fn x=true\/X.env.scope.names.lookup x=some .local:=by first | exact .inl rfl | exact .inr rfl | assumption):wpAny M A (storeName X.env x u) Q E s:=
 qFX I hN hi hx r (fun s' I' _=>h s' I') hf
theorem Inv.call'{s':Shared}{ch:List Addr}(I:Inv X pins σ H s)(ho:s'.os=s.os)(u:Un (frs X.stack) ch H H' s.heap s'.heap)(hok:HOk X.prog X.w H' s'.heap)(hg:AllBare s'.gens)
  (hch:∀ b∈ch,(b∈X.ex\/X.s₀.heap.objs.size<=b)/\b≠X.env.locals/\(∀ x c,X.env.cells.lookup x=some c->c≠b)/\∀ p∈X.pn++pins,p.1≠b):Inv X pins σ H' s':=by
 obtain ⟨h',g',d',t',o'⟩:=s';have e:o'=s.os:=ho;subst e;exact I.call (g':=g') (t':=t') (d':=d') u hok hg hch
end
abbrev XK:=Value->Option Addr->Hp->Prop
abbrev St:=List (Option V)
abbrev VK:=V->Hp->Prop
abbrev TE:=St->Hp->VK->Prop
abbrev TT:=St->Hp->(Bool->Hp->Prop)->Prop
abbrev TA:=St->Hp->(List V->Hp->Prop)->Prop
structure Ends where
 nx:St->Hp->Prop
 rt:VK
 bk:St->Hp->Prop:=fun _ _=>False
 ct:St->Hp->Prop:=fun _ _=>False
abbrev TS:=Ends->St->Hp->Prop
def EP(X:Cx)(pins:List (Addr × Obj))(σ:St)(Q:VK)(u:Value)(s':Shared):Prop:=∃ v H',Inv X pins σ H' s'/\RelV v u/\Q v H'
def TP(X:Cx)(pins:List (Addr × Obj))(σ:St)(Q:Bool->Hp->Prop)(b:Bool)(s':Shared):Prop:=∃ H',Inv X pins σ H' s'/\Q b H'
def AP(X:Cx)(pins:List (Addr × Obj))(σ:St)(Q:List V->Hp->Prop)(us:List Value)(s':Shared):Prop:=∃ vs H',Inv X pins σ H' s'/\Vals vs us/\Q vs H'
def SP(X:Cx)(pins:List (Addr × Obj))(D:Ends)(f:Flow)(s':Shared):Prop:=
 match f with
 | .next=>∃ σ' H',Inv X pins σ' H' s'/\D.nx σ' H'
 | .brk=>∃ σ' H',Inv X pins σ' H' s'/\D.bk σ' H'
 | .cont=>∃ σ' H',Inv X pins σ' H' s'/\D.ct σ' H'
 | .ret u=>∃ v σ' H',Inv X pins σ' H' s'/\RelV v u/\D.rt v H'
def PE(X:Cx)(e:Expr)(t:TE):Prop:=
 ∀ (pins:List (Addr × Obj)) (s:Shared) (σ:St) (H:Hp) (Q:VK),Inv X pins σ H s->t σ H Q->wpAny (model X.prog X.w) X.A (eval e X.env) (EP X pins σ Q) X.xe s
def PT(X:Cx)(e:Expr)(t:TT):Prop:=
 ∀ (pins:List (Addr × Obj)) (s:Shared) (σ:St) (H:Hp) (Q:Bool->Hp->Prop),Inv X pins σ H s->t σ H Q->wpAny (model X.prog X.w) X.A (isTrue e X.env (eval e X.env)) (TP X pins σ Q) X.xe s
def PW(X:Cx)(e:Expr)(t:TT):Prop:=
 ∀ (whole:Sem Value) (pins:List (Addr × Obj)) (s:Shared) (σ:St) (H:Hp) (Q:Bool->Hp->Prop),Inv X pins σ H s->t σ H Q->wpAny (model X.prog X.w) X.A (isTrue e X.env whole) (TP X pins σ Q) X.xe s
theorem PW.pt{X:Cx}{e:Expr}{t:TT}(h:PW X e t):PT X e t:=h _
def PA(X:Cx)(es:List Expr)(t:TA):Prop:=
 ∀ (pos:Pos) (pins:List (Addr × Obj)) (s:Shared) (σ:St) (H:Hp) (Q:List V->Hp->Prop),Inv X pins σ H s->t σ H Q->wpAny (model X.prog X.w) X.A (spliced (backTo pos (starEach es X.env))) (AP X pins σ Q) X.xe s
def PS(X:Cx)(st:Stmt)(t:TS):Prop:=
 ∀ (pins:List (Addr × Obj)) (s:Shared) (σ:St) (H:Hp) (D:Ends),Inv X pins σ H s->t D σ H->wpAny (model X.prog X.w) X.A (exec st X.env) (SP X pins D) X.xe s
def PSs(X:Cx)(st:List Stmt)(t:TS):Prop:=
 ∀ (pins:List (Addr × Obj)) (s:Shared) (σ:St) (H:Hp) (D:Ends),Inv X pins σ H s->t D σ H->wpAny (model X.prog X.w) X.A (execs st X.env) (SP X pins D) X.xe s
theorem thn{α:Type}{t:Sem α}{Q Q':α->Shared->Prop}{M:Model}{A:Around}{E:Value->Shared->Prop}{s:Shared}(h:wpAny M A t Q E s)(hQ:∀ a s,Q a s->Q' a s):wpAny M A t Q' E s:=wpAny_mono h hQ fun _ _ x=>x
section
variable {X:Cx}
def tVar(i:Nat):TE:=fun σ H Q=>∃ v,σ[i]?=some (some v)/\Q v H
def tC(v:V):TE:=fun _ H Q=>Q v H
theorem pe_var {i:Nat} {x:Str} {pos:Pos} (hN:X.N[i]?=some x) (hv:Vis X.env.scope x) (hd:(x == ("__debug__":Str))=false:=by decide) (hcd:(x == ("__classdict__":Str))=false:=by decide):PE X (.Name x pos) (tVar i):=by
 intro pins s σ H Q I h;obtain ⟨v,e,h⟩:=h;obtain ⟨m,hn,hl⟩:=I.loc;obtain ⟨u,r,l⟩:=hl i x v hN e hv;have fin:EP X pins σ Q u s:=⟨v,H,I,r,h⟩;rcases l with⟨hk,hm⟩ | ⟨hk,c,hc,hcell⟩
 ·exact wpAny_Name (wpAny_loadName_local I.ok.kind hk hn hm fin) hd
 ·rcases hk with hk | hk
  ·exact wpAny_Name (wpAny_loadName_cell I.ok.kind hk hc hcell fin) hd
  ·exact wpAny_Name (wpAny_loadName_free I.ok.kind hk hc hcell fin hcd) hd
theorem pe_int{i j pos}:PE X (.Constant (.int i) j pos) (tC (.int i)):=fun _ _ _ H _ I h=>wpAny_Constant_int ⟨.int i,H,I.tok _,⟨_,rfl⟩,h⟩
theorem pe_bl{b j pos}:PE X (.Constant (.bool b) j pos) (tC (.bl b)):=fun _ _ _ H _ I h=>Constant_bool ⟨.bl b,H,I,rfl,h⟩
theorem pe_non{j pos}:PE X (.Constant .none j pos) (tC .non):=fun _ _ _ H _ I h=>Constant_none ⟨.non,H,I,rfl,h⟩
theorem pe_str{x j pos}:PE X (.Constant (.str x) j pos) (tC (.str x)):=fun _ _ _ H _ I h=>Calls.Constant_str ⟨.str x,H,I.tok _,⟨_,rfl⟩,h⟩
def Gl(X:Cx)(x:Str):Prop:=X.env.kindOf x=some .globalImplicit
theorem ld_glob{E:Value->Shared->Prop}{pins:List (Addr × Obj)}{s:Shared}{σ:St}{H:Hp}{x:Str}{u:Value}{pos:Pos}{Q:Value->Shared->Prop}(I:Inv X pins σ H s)(hg:Gl X x)(hm:X.mg x=some u)(h:Q u s)
  (hd:(x == ("__debug__":Str))=false:=by decide):wpAny (model X.prog X.w) X.A (eval (.Name x pos) X.env) Q E s:=
 Calls.Name_function_global I.ok.kind hg (Calls.loadGlobal_global (by rw[I.ok.glob];exact I.mod.glob.keeps I.bk) hm h) hd
theorem ld_blt{E:Value->Shared->Prop}{pins:List (Addr × Obj)}{s:Shared}{σ:St}{H:Hp}{x:Str}{u:Value}{pos:Pos}{Q:Value->Shared->Prop}(I:Inv X pins σ H s)(hg:Gl X x)(hm:X.mg x=none)(hv:bootBuiltins x=some u)(h:Q u s)
  (hn:x≠"__name__":=by decide) (hd:(x == ("__debug__":Str))=false:=by decide):wpAny (model X.prog X.w) X.A (eval (.Name x pos) X.env) Q E s:=by
 obtain ⟨mb,h1,h2⟩:=I.mod.blt;exact Calls.Name_function_global I.ok.kind hg (Calls.loadGlobal_builtin (by rw[I.ok.glob];exact I.mod.glob.keeps I.bk) hm (by rw[I.ok.blt];exact h1.keeps I.bk) ((h2 x hn).trans hv) h) hd
theorem pe_glob {x:Str} {v:V} {u:Value} {pos:Pos} (hg:Gl X x) (hm:X.mg x=some u) (r:RelV v u) (hd:(x == ("__debug__":Str))=false:=by decide):PE X (.Name x pos) (tC v):=
 fun _ _ _ H _ I h=>ld_glob I hg hm ⟨v,H,I,r,h⟩ hd
theorem pe_bltn {x:Str} {v:V} {u:Value} {pos:Pos} (hg:Gl X x) (hm:X.mg x=none) (hv:bootBuiltins x=some u) (r:RelV v u) (hn:x≠"__name__":=by decide) (hd:(x == ("__debug__":Str))=false:=by decide):PE X (.Name x pos) (tC v):=
 fun _ _ _ H _ I h=>ld_blt I hg hm hv ⟨v,H,I,r,h⟩ hn hd
variable {a b:Expr}{ta tb:TE}{pos:Pos}
def PC(X:Cx)(op:CmpOp)(a b:Expr)(t:TE):Prop:=
 ∀ (pins:List (Addr × Obj)) (s:Shared) (σ:St) (H:Hp) (Q:VK),Inv X pins σ H s->t σ H Q ->
  wpAny (model X.prog X.w) X.A (eval a X.env) (fun v s₁=>wpAny (model X.prog X.w) X.A (eval b X.env) (fun u s₂=>wpAny (model X.prog X.w) X.A (compareOp op v u) (EP X pins σ Q) X.xe s₂) X.xe s₁) X.xe s
theorem qBF(b:Expr){op:CmpOp}(h:op≠.In)(h2:op≠.NotIn):behindInMarks op b=false:=by
 have e1:(op == CmpOp.In)=false:=by cases op <;> first | rfl | exact absurd rfl h
 have e2:(op == CmpOp.NotIn)=false:=by cases op <;> first | rfl | exact absurd rfl h2
 cases b <;> simp[behindInMarks,e1,e2]
def tIsN(ta:TE):TE:=fun σ H Q=>ta σ H fun x H1=>Q (.bl (decide (x=.non))) H1
def tNotN(ta:TE):TE:=fun σ H Q=>ta σ H fun x H1=>Q (.bl (!decide (x=.non))) H1
theorem RelV.none_iff{x:V}{v:Value}(r:RelV x v):(v == Value.none)=decide (x=.non):=by
 cases x with
 |non=>cases r;rfl
 |bl _=>cases r;rfl
 |int _=>obtain ⟨t,rfl⟩:=r;rfl
 |str _=>obtain ⟨t,rfl⟩:=r;rfl
 |byt _=>obtain ⟨t,rfl⟩:=r;rfl
 |flt _=>obtain ⟨t,rfl⟩:=r;rfl
 |ref _=>cases r;rfl
 |ty _=>cases r;rfl
theorem pc_isN{j pos'}(ha:PE X a ta):PC X .Is a (.Constant .none j pos') (tIsN ta):=by
 intro pins s σ H Q I h;refine thn (ha pins s σ H _ I h) fun v s1 ⟨x,H1,I1,r1,q1⟩=>?_;exact Constant_none (is_none_gen ⟨.bl _,H1,I1,by rw[r1.none_iff];rfl,q1⟩)
theorem pc_notN{j pos'}(ha:PE X a ta):PC X .IsNot a (.Constant .none j pos') (tNotN ta):=by
 intro pins s σ H Q I h;refine thn (ha pins s σ H _ I h) fun v s1 ⟨x,H1,I1,r1,q1⟩=>?_;exact Constant_none (isnot_none_gen ⟨.bl _,H1,I1,by rw[r1.none_iff];rfl,q1⟩)
def tB(t:TE):TT:=fun σ H Q=>t σ H fun x H1=>∃ c,x=.bl c/\Q c H1
theorem pe_cmp{op:CmpOp}{t:TE}(h:PC X op a b t)(h1:behindInMarks op b=false:=by first | exact qBF _ (by decide) (by decide) | rfl):PE X (.Compare a [op] [b] pos) t:=fun pins s σ H Q I hw=>wpAny_Compare1 (h pins s σ H Q I hw) h1
theorem pt_cmp{op:CmpOp}{t:TE}(h:PC X op a b t)(h1:behindInMarks op b=false:=by first | exact qBF _ (by decide) (by decide) | rfl):PT X (.Compare a [op] [b] pos) (tB t):=by
 intro pins s σ H Q I hw;refine wpAny_isTrue_Compare1 (thn (h pins s σ H _ I hw) fun v s1 h1=>thn h1 fun u s2 h2=>thn h2 fun c s3 ⟨x,H1,I1,r1,q1⟩=>?_) h1;obtain ⟨d,rfl,q⟩:=q1;cases r1;exact wpAny_truthy_bool ⟨H1,I1,q⟩
variable {tA tB':TT}{rest:List Expr}
def qFV(t u:TT):TT:=fun σ H Q=>t σ H fun c H1=>if c=true then u σ H1 Q else Q false H1
def tOr(t u:TT):TT:=fun σ H Q=>t σ H fun c H1=>if c=true then Q true H1 else u σ H1 Q
def qFJ(t:TT):TT:=fun σ H Q=>t σ H fun c H1=>Q (!c) H1
theorem pw_and1(ha:PT X a tA):PW X (.BoolOp .And [a] pos) tA:=by
 intro wh pins s σ H Q I h;refine isTrue_and (thn (ha pins s σ H Q I h) fun c s1 e=>?_);cases c with
 |true=>exact isTrue_and_nil e
 |false=>exact e
theorem pw_or1(ha:PT X a tA):PW X (.BoolOp .Or [a] pos) tA:=by
 intro wh pins s σ H Q I h;refine isTrue_or (thn (ha pins s σ H Q I h) fun c s1 e=>?_);cases c with
 |false=>exact isTrue_or_nil e
 |true=>exact e
theorem pw_and(ha:PT X a tA)(hb:PW X (.BoolOp .And (b::rest) pos) tB'):PW X (.BoolOp .And (a::b::rest) pos) (qFV tA tB'):=by
 intro wh pins s σ H Q I h;refine isTrue_and (thn (ha pins s σ H _ I h) fun c s1 ⟨H1,I1,q1⟩=>?_);cases c with
 |true=>exact hb wh pins s1 σ H1 Q I1 q1
 |false=>exact⟨H1,I1,q1⟩
theorem pw_or(ha:PT X a tA)(hb:PW X (.BoolOp .Or (b::rest) pos) tB'):PW X (.BoolOp .Or (a::b::rest) pos) (tOr tA tB'):=by
 intro wh pins s σ H Q I h;refine isTrue_or (thn (ha pins s σ H _ I h) fun c s1 ⟨H1,I1,q1⟩=>?_);cases c with
 |true=>exact⟨H1,I1,q1⟩
 |false=>exact hb wh pins s1 σ H1 Q I1 q1
theorem pt_not(ha:PT X a tA):PT X (.UnaryOp .Not a pos) (qFJ tA):=by
 intro pins s σ H Q I h;exact isTrue_not (ha pins s σ H (fun c H1=>Q (!c) H1) I h)
def qFU(ta tb:TE):TE:=fun σ H Q=>ta σ H fun x H1=>∃ c,x=.bl c/\if c=true then tb σ H1 Q else Q (.bl false) H1
def qFI(ta tb:TE):TE:=fun σ H Q=>ta σ H fun x H1=>∃ c,x=.bl c/\if c=true then Q (.bl true) H1 else tb σ H1 Q
theorem pe_one{op}{t:TE}(h:PE X a t):PE X (.BoolOp op [a] pos) t:=fun pins s σ H Q I hw=>BoolOp_one (h pins s σ H Q I hw)
theorem pe_and(ha:PE X a ta)(hb:PE X (.BoolOp .And (b::rest) pos) tb):PE X (.BoolOp .And (a::b::rest) pos) (qFU ta tb):=by
 intro pins s σ H Q I h;refine BoolOp_and (thn (ha pins s σ H _ I h) fun v s1 ⟨x,H1,I1,r1,q1⟩=>?_);obtain ⟨c,rfl,q1⟩:=q1;cases r1;refine wpAny_truthy_bool ?_;cases c with
 |true=>exact hb pins s1 σ H1 Q I1 q1
 |false=>exact⟨.bl false,H1,I1,rfl,q1⟩
theorem pe_or(ha:PE X a ta)(hb:PE X (.BoolOp .Or (b::rest) pos) tb):PE X (.BoolOp .Or (a::b::rest) pos) (qFI ta tb):=by
 intro pins s σ H Q I h;refine BoolOp_or (thn (ha pins s σ H _ I h) fun v s1 ⟨x,H1,I1,r1,q1⟩=>?_);obtain ⟨c,rfl,q1⟩:=q1;cases r1;refine wpAny_truthy_bool ?_;cases c with
 |false=>exact hb pins s1 σ H1 Q I1 q1
 |true=>exact⟨.bl true,H1,I1,rfl,q1⟩
def tIf(t:TT)(ta tb:TE):TE:=fun σ H Q=>t σ H fun c H1=>if c=true then ta σ H1 Q else tb σ H1 Q
theorem pe_ifExp{c:Expr}(hc:PT X c tA)(ha:PE X a ta)(hb:PE X b tb):PE X (.IfExp c a b pos) (tIf tA ta tb):=by
 intro pins s σ H Q I h;refine wpAny_IfExp (thn (hc pins s σ H _ I h) fun d s1 ⟨H1,I1,q1⟩=>?_);cases d with
 |true=>exact ha pins s1 σ H1 Q I1 q1
 |false=>exact hb pins s1 σ H1 Q I1 q1
end
def SqL(K:PySem.W.Frag)(H:Hp)(a:Addr)(xs:List V):Prop:=
 Rd H a (.lst xs) \/
  ∃ (o:Obj) (its:Array Value) (n:Nat),K.lookup a=some o/\o.cls=.type "list"/\o.dict=none/\o.data=.seq its n/\its.size<=sizeLine/\Vals xs its.toList
def SqT(K:PySem.W.Frag)(H:Hp)(a:Addr)(xs:List V):Prop:=
 Rd H a (.tup xs) \/
  ∃ (o:Obj) (its:Array Value) (n:Nat),K.lookup a=some o/\o.cls=.type "tuple"/\o.data=.seq its n/\its.size<=sizeLine/\Vals xs its.toList
def qRe:Value->Option V
 | .none=>some .non
 | .bool b=>some (.bl b)
 | .int i _=>some (.int i)
 | .str x _=>some (.str x)
 | .bytes b _=>some (.byt b)
 | .float b _=>some (.flt b)
 | .ref a=>some (.ref a)
 | .type n=>some (.ty n)
 |_=>none
theorem RelV.abs{x:V}{u:Value}(r:RelV x u):qRe u=some x:=by
 cases x with
 |non=>cases r;rfl
 |bl _=>cases r;rfl
 |int _=>obtain ⟨t,rfl⟩:=r;rfl
 |str _=>obtain ⟨t,rfl⟩:=r;rfl
 |byt _=>obtain ⟨t,rfl⟩:=r;rfl
 |flt _=>obtain ⟨t,rfl⟩:=r;rfl
 |ref _=>cases r;rfl
 |ty _=>cases r;rfl
theorem RelV.inj{x y:V}{u:Value}(r:RelV x u)(q:RelV y u):x=y:=Option.some.inj (r.abs.symm.trans q.abs)
theorem Vals.inj:∀ {xs ys:List V} {us:List Value},Vals xs us->Vals ys us->xs=ys
 |_,_,_,.nil,.nil=>rfl
 |_,_,_,.cons r t,.cons r' t'=>by rw[r.inj r',Vals.inj t t']
section
variable {X:Cx}{pins:List (Addr × Obj)}{σ:St}{H:Hp}{s:Shared}{a:Addr}{xs ys:List V}
theorem SqL.of{K:PySem.W.Frag}(h:H a=some (.lst xs)):SqL K H a xs:=.inl (.inl h)
theorem SqT.of{K:PySem.W.Frag}(h:H a=some (.tup xs)):SqT K H a xs:=.inl (.inl h)
theorem Inv.list(I:Inv X pins σ H s)(h:SqL X.K H a xs):∃ its:List Value,Vals xs its/\PlainL s.heap a its.toArray/\xs.length<=sizeLine:=by
 rcases h with h | ⟨o,its,n,hk,hc,hd,hs,hz,r⟩
 ·obtain ⟨z,its,n,r,e⟩:=h.ok I.hok
  exact⟨its,r,⟨_,n,e,rfl,rfl,rfl⟩,z⟩
 ·refine⟨its.toList,r,⟨o,n,I.kIn a o hk,hc,hd,by simpa using hs⟩,?_⟩;have e:=r.length;simp only[Array.length_toList] at e;omega
theorem Inv.tuple(I:Inv X pins σ H s)(h:SqT X.K H a xs):∃ its:List Value,Vals xs its/\IsTup s.heap a its.toArray/\xs.length<=sizeLine:=by
 rcases h with h | ⟨o,its,n,hk,hc,hs,hz,r⟩
 ·obtain ⟨z,its,r,p⟩:=h.ok I.hok
  exact⟨its,r,p,z⟩
 ·refine⟨its.toList,r,⟨o,I.kIn a o hk,hc,n,by simpa using hs⟩,?_⟩;have e:=r.length;simp only[Array.length_toList] at e;omega
theorem Inv.list_inj(I:Inv X pins σ H s)(h:SqL X.K H a xs)(h':SqL X.K H a ys):xs=ys:=by
 obtain ⟨its,r,⟨o,n,e,_,_,d⟩,_⟩:=I.list h;obtain ⟨its',r',⟨o',n',e',_,_,d'⟩,_⟩:=I.list h';rw[e] at e';cases e';rw[d] at d';injection d' with d1 _
 have:its=its':=by simpa using congrArg Array.toList d1
 subst this;exact r.inj r'
theorem Inv.tuple_inj(I:Inv X pins σ H s)(h:SqT X.K H a xs)(h':SqT X.K H a ys):xs=ys:=by
 obtain ⟨its,r,⟨o,e,_,n,d⟩,_⟩:=I.tuple h;obtain ⟨its',r',⟨o',e',_,n',d'⟩,_⟩:=I.tuple h';rw[e] at e';cases e';rw[d] at d';injection d' with d1 _
 have:its=its':=by simpa using congrArg Array.toList d1
 subst this;exact r.inj r'
end
abbrev Cx.wish(X:Cx)(E:Value->Shared->Prop):Cx:={ X with xe:=E }
abbrev Cx.nox(X:Cx):Cx:=X.wish fun _ _=>False
theorem Cx.Ok.wish{X:Cx}(ok:X.Ok)(E:Value->Shared->Prop):(X.wish E).Ok:=
 ⟨ok.mod,ok.kind,ok.glob,ok.blt,ok.above,ok.inj,ok.has,ok.cab,ok.hd,ok.frames,ok.stk,ok.exf,ok.bs,ok.bsz,ok.noex,ok.exfs,ok.funs,ok.frf⟩
theorem Cx.Ok.unwish{X:Cx}{E:Value->Shared->Prop}(ok:(X.wish E).Ok):X.Ok:=
 ⟨ok.mod,ok.kind,ok.glob,ok.blt,ok.above,ok.inj,ok.has,ok.cab,ok.hd,ok.frames,ok.stk,ok.exf,ok.bs,ok.bsz,ok.noex,ok.exfs,ok.funs,ok.frf⟩
section
variable {X:Cx}{pins:List (Addr × Obj)}{σ:St}{H:Hp}{s:Shared}{E:Value->Shared->Prop}
theorem Inv.wish(I:Inv X pins σ H s)(E:Value->Shared->Prop):Inv (X.wish E) pins σ H s:=⟨I.ok.wish E,I.os,I.bare,I.base,I.loc,I.cell,I.free,I.freeC,I.pin,I.hok,I.len⟩
theorem Inv.unwish(I:Inv (X.wish E) pins σ H s):Inv X pins σ H s:=⟨I.ok.unwish,I.os,I.bare,I.base,I.loc,I.cell,I.free,I.freeC,I.pin,I.hok,I.len⟩
theorem SP.unwish{D:Ends}{f:Flow}{s':Shared}(h:SP (X.wish E) pins D f s'):SP X pins D f s':=by
 cases f with
 |next=>obtain ⟨σ',H',I,q⟩:=h;exact⟨σ',H',I.unwish,q⟩
 |brk=>obtain ⟨σ',H',I,q⟩:=h;exact⟨σ',H',I.unwish,q⟩
 |cont=>obtain ⟨σ',H',I,q⟩:=h;exact⟨σ',H',I.unwish,q⟩
 |ret u=>obtain ⟨v,σ',H',I,r,q⟩:=h;exact⟨v,σ',H',I.unwish,r,q⟩
end
section
variable {X:Cx}{st:Stmt}{rest:List Stmt}{t u:TS}{e:Expr}{te:TE}{pos:Pos}
def qAA:TS:=fun D σ H=>D.nx σ H
def qFE(t u:TS):TS:=fun D σ H=>t { D with nx:=u D } σ H
theorem pss_nil:PSs X [] qAA:=fun _ _ σ H _ I h=>wpAny_execs_nil ⟨σ,H,I,h⟩
theorem pss_cons(h1:PS X st t)(h2:PSs X rest u):PSs X (st::rest) (qFE t u):=by
 intro pins s σ H D I h;refine wpAny_execs_cons (thn (h1 pins s σ H { D with nx:=u D } I h) fun f s1 q=>?_);cases f with
 |next=>obtain ⟨σ',H',I',q⟩:=q;exact h2 pins s1 σ' H' D I' q
 |ret v=>exact q
 |brk=>exact q
 |cont=>exact q
theorem pss_one(h1:PS X st t):PSs X [st] t:=by
 intro pins s σ H D I h;refine wpAny_execs_cons (thn (h1 pins s σ H D I h) fun f s1 q=>?_);cases f with
 |next=>exact wpAny_execs_nil q
 |ret v=>exact q
 |brk=>exact q
 |cont=>exact q
def qFT:TS:=fun D σ H=>D.bk σ H
def qFS:TS:=fun D σ H=>D.ct σ H
theorem ps_pass:PS X (.Pass pos) qAA:=fun _ _ σ H _ I h=>wpAny_Pass ⟨σ,H,I,h⟩
theorem ps_break:PS X (.Break pos) qFT:=fun _ _ σ H _ I h=>wpAny_Break ⟨σ,H,I,h⟩
theorem ps_continue:PS X (.Continue pos) qFS:=fun _ _ σ H _ I h=>wpAny_Continue ⟨σ,H,I,h⟩
theorem Inv.quiet{pins:List (Addr × Obj)}{σ:St}{H:Hp}{s:Shared}(I:Inv X pins σ H s):interactive X.env=false:=by simp[interactive,I.ok.kind]
def qFP(te:TE):TS:=fun D σ H=>te σ H fun _ H1=>D.nx σ H1
theorem ps_expr(he:PE X e te)(hs:swapsWith e none pos.line X.env=pure false:=by rfl):PS X (.Expr e pos) (qFP te):=by
 intro pins s σ H D I h;exact wpAny_Expr_any (thn (he pins s σ H _ I h) fun v s1 ⟨x,H1,I1,r1,q1⟩=>⟨σ,H1,I1,q1⟩) I.quiet hs
def qFG(te:TE):TS:=fun D σ H=>te σ H D.rt
theorem ps_ret(he:PE X e te):PS X (.Return (some e) pos) (qFG te):=by
 intro pins s σ H D I h;exact wpAny_Return_some (thn (he pins s σ H _ I h) fun v s1 ⟨x,H1,I1,r1,q1⟩=>⟨x,σ,H1,I1,r1,q1⟩)
def qFF:TS:=fun D _ H=>D.rt .non H
theorem ps_retN:PS X (.Return none pos) qFF:=fun _ _ σ H _ I h=>wpAny_Return_none ⟨.non,σ,H,I,rfl,h⟩
def qFM(c:TT)(t u:TS):TS:=fun D σ H=>c σ H fun b H1=>if b=true then t D σ H1 else u D σ H1
theorem ps_if{c:Expr}{a b:List Stmt}{tc:TT}(hc:PT X c tc)(ha:PSs X a t)(hb:PSs X b u):PS X (.If c a b pos) (qFM tc t u):=by
 intro pins s σ H D I h;refine wpAny_If (thn (hc pins s σ H _ I h) fun d s1 ⟨H1,I1,q1⟩=>?_);cases d with
 |true=>exact ha pins s1 σ H1 D I1 q1
 |false=>exact hb pins s1 σ H1 D I1 q1
end
abbrev TG:=V->St->Hp->(St->Hp->Prop)->Prop
abbrev TGs:=List V->St->Hp->(St->Hp->Prop)->Prop
def PG(X:Cx)(target:Expr)(t:TG):Prop:=
 ∀ (pins:List (Addr × Obj)) (s:Shared) (σ:St) (H:Hp) (v:V) (u:Value) (Q:St->Hp->Prop),Inv X pins σ H s->RelV v u->t v σ H Q ->
  wpAny (model X.prog X.w) X.A (assign target X.env u) (fun _ s'=>∃ σ' H',Inv X pins σ' H' s'/\Q σ' H') X.xe s
abbrev tI:=V->V->V->Hp->(Hp->Prop)->Prop
def PSet(X:Cx)(t:tI):Prop:=
 ∀ (pins:List (Addr × Obj)) (s:Shared) (σ:St) (H:Hp) (o i v:V) (ov iv u:Value) (Q:Hp->Prop),Inv X pins σ H s->RelV o ov->RelV i iv->RelV v u->t o i v H Q ->
  wpAny (model X.prog X.w) X.A (setItem ov iv u) (fun _ s'=>∃ H',Inv X pins σ H' s'/\Q H') X.xe s
section
variable {X:Cx}{pos:Pos}
def gName(i:Nat):TG:=fun v σ H Q=>Q (σ.set i (some v)) H
theorem pg_name{i:Nat}{x:Str}(hN:X.N.Nodup)(hi:X.N[i]?=some x)(hx:Loc X.env.scope x)(hf:X.fn x=true\/X.env.scope.names.lookup x=some .local:=by first | exact .inl rfl | exact .inr rfl | assumption):PG X (.Name x pos) (gName i):=by
 intro pins s σ H v u Q I r h;exact wpAny_assign_Name (wQ I hN hi hx r (fun s' I'=>⟨_,H,I',h⟩) hf)
def gNil:TGs:=fun vs σ H Q=>vs=[]/\Q σ H
def gCons(t:TG)(u:TGs):TGs:=fun vs σ H Q=>∃ v r,vs=v::r/\t v σ H fun σ' H'=>u r σ' H' Q
def gTup(K:PySem.W.Frag)(n:Nat)(t:TGs):TG:=fun v σ H Q=>∃ a xs,v=.ref a/\SqT K H a xs/\xs.length=n/\t xs σ H Q
def qMA(to ti:TE)(t:tI):TG:=fun v σ H Q=>to σ H fun o H1=>ti σ H1 fun i H2=>t o i v H2 fun H3=>Q σ H3
theorem pg_sub{o i:Expr}{to ti:TE}{t:tI}(ho:PE X o to)(hi:PE X i ti)(hs:PSet X t)
  (ha:∀ v,assign (.Subscript o i pos) X.env v=(do
   let ov <- holding [v] (eval o X.env)
   let iv <- holding [v,ov] (eval i X.env)
   standAt pos
   holding [v,ov,iv] (setItem ov iv v)
   release [v,ov,iv] []):=by intro _;rfl):PG X (.Subscript o i pos) (qMA to ti t):=by
 intro pins s σ H v u Q I r h;rw[ha];refine wpAny_bind (wpAny_holding (thn (ho pins s σ H _ I h) fun ov s1 ⟨x,H1,I1,r1,q1⟩=>?_));refine wpAny_bind (wpAny_holding (thn (hi pins s1 σ H1 _ I1 q1) fun iv s2 ⟨y,H2,I2,r2,q2⟩=>?_));refine wpAny_bind (wpAny_standAt (wpAny_bind (wpAny_holding (thn (hs pins s2 σ H2 x y v ov iv u _ I2 r1 r2 r q2) fun _ s3 ⟨H3,I3,q3⟩=>?_))));exact wpAny_release ⟨σ,H3,I3,q3⟩
def qAB(te:TE)(g:TG):TS:=fun D σ H=>te σ H fun x H1=>g x σ H1 D.nx
theorem ps_asg{tg e:Expr}{te:TE}{g:TG}(he:PE X e te)(hg:PG X tg g)(hs:swapsWithSole [tg] e pos.line X.env=pure false:=by rfl)(hw:swappedStores [tg] e X.env=pure none:=by rfl)
  (h1:(assignEach [tg] X.env).map (·.2)=[assign tg X.env]:=by rfl):PS X (.Assign [tg] e pos) (qAB te g):=by
 intro pins s σ H D I h;refine wpAny_Assign_stores (thn (he pins s σ H _ I h) fun v s1 ⟨x,H1,I1,r1,q1⟩=>?_) hs hw;rw[h1];exact thn (hg pins s1 σ H1 x v _ I1 r1 q1) fun _ s2 q=>q
theorem ps_set{i:Nat}{x:Str}{e:Expr}{te:TE}{pos':Pos}(hN:X.N.Nodup)(hi:X.N[i]?=some x)(hx:Loc X.env.scope x)(he:PE X e te)(hs:swapsWith e (some (.Name x pos')) pos.line X.env=pure false:=by rfl)(hf:X.fn x=true\/X.env.scope.names.lookup x=some .local:=by first | exact .inl rfl | exact .inr rfl | assumption) :
  PS X (.Assign [.Name x pos'] e pos) (qAB te (gName i)):=by
 intro pins s σ H D I h;refine wpAny_Assign_Name (thn (he pins s σ H _ I h) fun v s1 ⟨y,H1,I1,r1,q1⟩=>?_) hs;exact wQ I1 hN hi hx r1 (fun s2 I2=>⟨_,H1,I2,q1⟩) hf
end
section
variable {X:Cx}{pos:Pos}
def qFC(c:TT)(tb:TS):TS:=fun D σ H=>∃ W:Nat->St->Hp->Prop,(∃ m,W m σ H)/\∀ m σ H,W m σ H ->
 c σ H fun b H1=>if b=true then ∃ N:St->Hp->Prop,(∀ σ' H',N σ' H'->∃ m',m'<m/\W m' σ' H')/\tb { D with nx:=N,ct:=N,bk:=D.nx } σ H1 else D.nx σ H1
theorem ps_while{c:Expr}{body:List Stmt}{tc:TT}{tb:TS}(hp:PassesOwn (model X.prog X.w) X.A X.env X.xe)(hc:PT X c tc)(hb:PSs X body tb):PS X (.While c body [] pos) (qFC tc tb):=by
 intro pins s σ H D I h;obtain ⟨W,⟨m0,w0⟩,turn⟩:=h;refine wpAny_While (codeAny_whileLoop (fun n s'=>∃ σ' H',Inv X pins σ' H' s'/\W n σ' H') ?_ m0 ⟨σ,H,I,w0⟩)
 rintro n s1 ⟨σ1,H1,I1,w1⟩
 refine wpAny_passesOwn hp (thn (hc pins s1 σ1 H1 _ I1 (turn n σ1 H1 w1)) fun b s2 ⟨H2,I2,q2⟩=>?_);cases b with
 |true=>
  obtain ⟨N,hN,q2⟩:=q2;rw[if_pos rfl];refine wpAny_passesOwn hp (thn (hb pins s2 σ1 H2 _ I2 q2) fun f s3 q3=>?_);cases f with
  |next=>
   obtain ⟨σ3,H3,I3,n3⟩:=q3;obtain ⟨m',hm,w3⟩:=hN σ3 H3 n3
   exact⟨m',hm,σ3,H3,I3,w3⟩
  |cont=>
   obtain ⟨σ3,H3,I3,n3⟩:=q3;obtain ⟨m',hm,w3⟩:=hN σ3 H3 n3
   exact⟨m',hm,σ3,H3,I3,w3⟩
  |brk=>exact q3
  |ret v=>exact q3
 |false=>rw[if_neg Bool.false_ne_true];exact wpAny_execs_nil ⟨σ1,H2,I2,q2⟩
end
structure It where
 go:Nat->Hp->Prop
 yld:Nat->Hp->V->Hp->Prop
 stop:Nat->Hp->Prop
def qP(X:Cx)(pins:List (Addr × Obj))(H:Hp)(b:Addr):Prop:=
 H b=none/\b≠X.env.locals/\b∉X.fs/\(b∈X.ex\/X.s₀.heap.objs.size<=b)/\(∀ x c,X.env.cells.lookup x=some c->c≠b)/\∀ p∈X.pn++pins,p.1≠b
theorem Inv.fpOk{X:Cx}{pins:List (Addr × Obj)}{σ:St}{H H':Hp}{s:Shared}{b:Addr}(I:Inv X pins σ H s)(hb:s.heap.objs.size<=b)(hn:H' b=none):qP X pins H' b:=by
 refine⟨hn,Nat.ne_of_gt (Nat.lt_of_lt_of_le I.lt hb),I.nofs hb,.inr (Nat.le_trans I.sz hb),fun x c e z=>?_,fun p hp z=>?_⟩
 ·obtain ⟨v,q⟩:=I.cell x c e;exact absurd (Nat.lt_of_lt_of_le q.lt (by rw[z];exact hb)) (Nat.lt_irrefl _)
 ·exact absurd (Nat.lt_of_lt_of_le (Heap.lt_size (I.pin p hp).1) (by rw[z];exact hb)) (Nat.lt_irrefl _)
structure Turn (P:Program) (w:World) (K:PySem.W.Frag) (tg:Expr) (J:It) (fp:List Addr) (it:Addr) (tn:Nat->Heap->Prop):Prop where
 mem:it∈fp
 obj:∀ i h,tn i h->∀ b∈fp,∃ o,h.get? b=some o/\∀ v,o.data≠.cell v
 keep:∀ i h h',tn i h->(∀ b∈fp,∀ o,h.get? b=some o->h'.get? b=some o)->tn i h'
 item:∀ (X:Cx),X.prog=P->X.w=w->X.K=K->X.calm=true->∀ (i:Nat) (pins:List (Addr × Obj)) (s:Shared) (σ:St) (H:Hp) (E:Value->Shared->Prop),Inv X pins σ H s->(∀ b∈fp,qP X pins H b)->tn i s.heap->J.go i H ->
  wpAny (model P w) X.A (pyNext (.ref it)) (fun r s1=>∃ u,r=some u /\
   wpAny (model P w) X.A (letOwnedTupleGo tg (.ref it) u) (fun _ s2=>∃ x H',Inv X pins σ H' s2/\RelV x u/\J.yld i H x H'/\tn (i+1) s2.heap/\∀ b∈fp,H' b=none) E s1) E s
 done:∀ (X:Cx),X.prog=P->X.w=w->X.K=K->X.calm=true->∀ (i:Nat) (pins:List (Addr × Obj)) (s:Shared) (σ:St) (H:Hp) (E:Value->Shared->Prop),Inv X pins σ H s->(∀ b∈fp,qP X pins H b)->tn i s.heap->J.stop i H ->
  wpAny (model P w) X.A (pyNext (.ref it)) (fun r s1=>r=none/\Inv X pins σ H s1) E s
 self:∀ (A:Around) (i:Nat) (s:Shared) (Q:Value->Shared->Prop) (E:Value->Shared->Prop),tn i s.heap->Q (.ref it) s->wpAny (model P w) A (pyIter (.ref it)) Q E s
abbrev TI:=St->Hp->(It->Hp->Prop)->Prop
def PIE(X:Cx)(pins:List (Addr × Obj))(σ:St)(tg:Expr)(R:It->Hp->Prop)(itv:Value)(s2:Shared):Prop:=
 ∃ (it:Addr) (fp:List Addr) (tn:Nat->Heap->Prop) (J:It) (H':Hp),itv=.ref it/\Inv X pins σ H' s2/\Turn X.prog X.w X.K tg J fp it tn/\tn 0 s2.heap/\(∀ b∈fp,qP X pins H' b)/\R J H'
def PI(X:Cx)(tg iter:Expr)(wi:TI):Prop:=
 ∀ (pins:List (Addr × Obj)) (s:Shared) (σ:St) (H:Hp) (R:It->Hp->Prop),Inv X pins σ H s->wi σ H R ->
  wpAny (model X.prog X.w) X.A (eval iter X.env) (fun v s1=>wpAny (model X.prog X.w) X.A (pyIter v) (PIE X pins σ tg R) X.xe s1) X.xe s
theorem go_of{M:Model}{A:Around}{E:Value->Shared->Prop}{s:Shared}{tg:Expr}{it:Addr}{u:Value}{o:Obj}{n:String}{vs:Array Value}{Q:Unit->Shared->Prop}(ho:s.heap.get? it=some o)(hc:o.cls=.type n)(hd:o.data=.fields vs)
    (hn:["enumerate","zip","dict_itemiterator","dict_reverseitemiterator","odict_iterator","itertools.zip_longest","itertools.pairwise"].contains n=false) (hQ:Q () s):wpAny M A (letOwnedTupleGo tg (.ref it) u) Q E s:=by
  unfold letOwnedTupleGo
  cases tg <;> first
    |exact wpAny_pure hQ
    | (cases u <;> first
        |exact wpAny_pure hQ
        | (refine wpAny_bind (wpAny_load ho ?_)
           rw[hc,hd];show wpAny M A (if (["enumerate","zip","dict_itemiterator","dict_reverseitemiterator","odict_iterator","itertools.zip_longest","itertools.pairwise"].contains n&&vs[0]? == some (rawInt _))=true then _ else _) Q E s;rw[if_neg (by intro h;rw[hn,Bool.false_and] at h;cases h)]
           exact wpAny_pure hQ))
def Itl(K:PySem.W.Frag)(a:Addr):It:=
 ⟨fun i H=>∃ xs x,SqL K H a xs/\xs[i]?=some x,fun i H x H'=>H'=H/\∀ xs,SqL K H a xs->xs[i]?=some x,fun i H=>∃ xs,SqL K H a xs/\xs.length<=i⟩
def Itt(K:PySem.W.Frag)(a:Addr):It:=
 ⟨fun i H=>∃ xs x,SqT K H a xs/\xs[i]?=some x,fun i H x H'=>H'=H/\∀ xs,SqT K H a xs->xs[i]?=some x,fun i H=>∃ xs,SqT K H a xs/\xs.length<=i⟩
def Itr(lo:Int)(n:Nat):It:=⟨fun i _=>i<n,fun i H x H'=>H'=H/\x=.int (lo+i),fun i _=>n<=i⟩
theorem turn_list{P:Program}{w:World}{K:PySem.W.Frag}{tg:Expr}(a it:Addr):Turn P w K tg (Itl K a) [it] it (fun i h=>h.IsListIter it a i) where
 mem:=by simp
 obj:=fun i h st b hb=>by
  have e:b=it:=by simpa using hb
  subst e;obtain ⟨o,e,c,d⟩:=st
  exact⟨o,e,fun v z=>by rw[d] at z;cases z⟩
 keep:=fun i h h' st k=>st.at fun o e=>k it (by simp) o e
 item:=by
  intro X hP hw hK hc i pins s σ H E I hf st hg;subst hP hw hK;obtain ⟨xs,x,hq,hx⟩:=hg;obtain ⟨its,rv,p,hz⟩:=I.list hq;obtain ⟨u,hu,ru⟩:=rv.get hx;obtain ⟨f0,f1,f2,f3,f4,f5⟩:=hf it (by simp);refine wpAny_pyNext_list_item st p.isList (x:=u) (by simpa using hu) fun h' st' sb=>?_;have I1:Inv X pins σ H { s with heap:=h' }:=I.turned (t':=s.toks) (fun b o hb e=>(sb.2 b hb).trans e) f0 f1 f3 f4 f5;obtain ⟨o,e,c,d⟩:=id st'
  exact⟨u,rfl,go_of (s:={ s with heap:=h' }) e c d (by decide) ⟨x,H,I1,ru,⟨rfl,fun ys hy=>by rw[I.list_inj hy hq];exact hx⟩,st',fun b hb=>(hf b hb).1⟩⟩
 done:=by
  intro X hP hw hK hc i pins s σ H E I hf st hg;subst hP hw hK;obtain ⟨xs,hq,hx⟩:=hg;obtain ⟨its,rv,p,hz⟩:=I.list hq;obtain ⟨f0,f1,f2,f3,f4,f5⟩:=hf it (by simp);have hl:=rv.length;exact wpAny_pyNext_list_end (I.ok.hd hc) st p.isList (by simp;omega) fun h' eb=>⟨rfl,I.turned (t':=s.toks) (fun b o hb e=>eb b o hb e) f0 f1 f3 f4 f5⟩
 self:=fun _ _ _ _ _ st h=>wpAny_pyIter_listiter st h
theorem turn_tuple{P:Program}{w:World}{K:PySem.W.Frag}{tg:Expr}(a it:Addr):Turn P w K tg (Itt K a) [it] it (fun i h=>h.IsTupleIter it a i) where
 mem:=by simp
 obj:=fun i h st b hb=>by
  have e:b=it:=by simpa using hb
  subst e;obtain ⟨o,e,c,d⟩:=st
  exact⟨o,e,fun v z=>by rw[d] at z;cases z⟩
 keep:=fun i h h' st k=>st.at fun o e=>k it (by simp) o e
 item:=by
  intro X hP hw hK hc i pins s σ H E I hf st hg;subst hP hw hK;obtain ⟨xs,x,hq,hx⟩:=hg;obtain ⟨its,rv,p,hz⟩:=I.tuple hq;obtain ⟨u,hu,ru⟩:=rv.get hx;obtain ⟨f0,f1,f2,f3,f4,f5⟩:=hf it (by simp);refine wpAny_pyNext_tuple_item st (show s.heap.IsTuple a its.toArray from p) (x:=u) (by simpa using hu) fun h' st' sb=>?_;have I1:Inv X pins σ H { s with heap:=h' }:=I.turned (t':=s.toks) (fun b o hb e=>(sb.2 b hb).trans e) f0 f1 f3 f4 f5;obtain ⟨o,e,c,d⟩:=id st'
  exact⟨u,rfl,go_of (s:={ s with heap:=h' }) e c d (by decide) ⟨x,H,I1,ru,⟨rfl,fun ys hy=>by rw[I.tuple_inj hy hq];exact hx⟩,st',fun b hb=>(hf b hb).1⟩⟩
 done:=by
  intro X hP hw hK hc i pins s σ H E I hf st hg;subst hP hw hK;obtain ⟨xs,hq,hx⟩:=hg;obtain ⟨its,rv,p,hz⟩:=I.tuple hq;obtain ⟨f0,f1,f2,f3,f4,f5⟩:=hf it (by simp);have hl:=rv.length;exact wpAny_pyNext_tuple_end (I.ok.hd hc) st (show s.heap.IsTuple a its.toArray from p) (by simp;omega) fun h' eb=>⟨rfl,I.turned (t':=s.toks) (fun b o hb e=>eb b o hb e) f0 f1 f3 f4 f5⟩
 self:=fun _ _ _ _ _ st h=>wpAny_pyIter_tupleiter st h
theorem qEz{P:Program}{w:World}{K:PySem.W.Frag}{tg:Expr}(it:Addr)(lo:Int)(n:Nat):Turn P w K tg (Itr lo n) [it] it (fun i h=>IsRangeIter h it (lo+(i:Nat)*1) ((n:Int)-(i:Nat)) 1) where
 mem:=by simp
 obj:=fun i h st b hb=>by
  have e:b=it:=by simpa using hb
  subst e
  exact⟨_,st,fun v z=>by
   have z':Data.fields _=Data.cell v:=z
   cases z'⟩
 keep:=fun i h h' st k=>k it (by simp) _ st
 item:=by
  intro X hP hw hK hc i pins s σ H E I hf st hg;subst hP hw hK;obtain ⟨f0,f1,f2,f3,f4,f5⟩:=hf it (by simp);have W:=Walks.range (prog:=X.prog) (w:=X.w) (I.ok.hd hc) it lo 1 n;refine W.item i s _ _ hg st fun v h' tk hv st' kk=>?_;obtain ⟨t,rfl⟩:=hv;have I1:Inv X pins σ H { s with heap:=h',toks:=tk }:=I.turned (fun b o hb e=>kk b o (by simpa using hb) e) f0 f1 f3 f4 f5;refine⟨_,rfl,go_of (s:={ s with heap:=h',toks:=tk }) (n:="range_iterator") st' rfl rfl (by decide) ⟨.int (lo+i),H,I1,⟨t,?_⟩,⟨rfl,rfl⟩,st',fun b hb=>(hf b hb).1⟩⟩;rw[Int.mul_one]
 done:=by
  intro X hP hw hK hc i pins s σ H E I hf st hg;subst hP hw hK;obtain ⟨f0,f1,f2,f3,f4,f5⟩:=hf it (by simp);exact wpAny_pyNext_range_end (I.ok.hd hc) st (by have:n<=i:=hg;omega) fun h' eb=>⟨rfl,I.turned (t':=s.toks) (fun b o hb e=>eb b o hb e) f0 f1 f3 f4 f5⟩
 self:=fun _ _ _ _ _ st h=>wpAny_pyIter_rangeiter st h
section
variable {X:Cx}{tg:Expr}
theorem qAp{pins:List (Addr × Obj)}{σ:St}{H:Hp}{s:Shared}{R:It->Hp->Prop}{E:Value->Shared->Prop}{lo hi:Int}{t u v:Tok}{tk:Nat}(I:Inv X pins σ H s)(h1:-(2 ^ 62)<=lo)(h2:lo<2 ^ 62)(h3:-(2 ^ 62)<=hi)(h4:hi<2 ^ 62)
  (q:R (Itr lo (hi-lo).toNat) H):wpAny (model X.prog X.w) X.A (pyIter (.ref s.heap.objs.size)) (PIE X pins σ tg R) E { s with heap:=s.heap.push { cls:=.type "range",data:=.fields #[.int lo t,.int hi u,.int 1 v] },toks:=tk }:=by
 refine wpAny_pyIter_range (IsRange.new ..) (small_one h1 h2 h3 h4) ?_;have I1:Inv X pins σ H { s with heap:=s.heap.push { cls:=.type "range",data:=.fields #[.int lo t,.int hi u,.int 1 v] },toks:=tk }:=I.kept fun b o e=>Heap.get?_push_of_some _ e
 refine⟨(s.heap.push { cls:=.type "range",data:=.fields #[.int lo t,.int hi u,.int 1 v] }).objs.size,[(s.heap.push { cls:=.type "range",data:=.fields #[.int lo t,.int hi u,.int 1 v] }).objs.size],_,_,H,rfl,
  I1.kept (t':=tk) fun b o e=>Heap.get?_push_of_some _ e,qEz _ lo (hi-lo).toNat,?_,fun b hb=>?_,q⟩
 ·have e1:lo+((0:Nat):Int)*1=lo:=by simp
  have e2:(((hi-lo).toNat:Nat):Int)-((0:Nat):Int)=Builtin.Range.rangeSize lo hi 1:=by rw[rangeSize_one];split <;> omega
  show IsRangeIter _ _ (lo+((0:Nat):Int)*1) ((((hi-lo).toNat:Nat):Int)-((0:Nat):Int)) 1;rw[e1,e2];exact Heap.get?_push_size _ rfl
 ·have e:b=(s.heap.push { cls:=.type "range",data:=.fields #[.int lo t,.int hi u,.int 1 v] }).objs.size:=by simpa using hb
  subst e;exact I1.fpOk (Nat.le_refl _) (I1.hok.fresh (Nat.le_refl _))
def qLe(ta:TA):TI:=fun σ H R=>ta σ H fun vs H1=>∃ j:Int,vs=[.int j]/\-(2 ^ 62)<=j/\j<2 ^ 62/\R (Itr 0 j.toNat) H1
def qLd(ta:TA):TI:=fun σ H R=>ta σ H fun vs H1=>∃ i j:Int,vs=[.int i,.int j]/\(-(2 ^ 62)<=i/\i<2 ^ 62/\-(2 ^ 62)<=j/\j<2 ^ 62)/\R (Itr i (j-i).toNat) H1
theorem pi_range1 {a:Expr} {ta:TA} {p pos:Pos} (hg:Gl X "range") (hm:X.mg "range"=none) (ha:PA X [a] ta) (hs:starEach [a] X.env=[(false,eval a X.env)]:=by rfl):PI X tg (.Call (.Name "range" p) [a] [] pos) (qLe ta):=by
 intro pins s σ H R I h;refine Call_ (ld_blt I hg hm boot_range (PyProof.Rows.callWith_type1 (thn (ha pos pins s σ H _ I h) fun us s1 ⟨vs,H1,I1,r1,q1⟩=>?_) hs rfl));obtain ⟨j,e,q1,q2,q⟩:=q1;subst e;cases r1 with
 |cons r rr=>cases rr;obtain ⟨t,rfl⟩:=r;exact call_range_1 (qAp I1 (by omega) (by omega) q1 q2 (by simpa using q))
theorem pi_range2 {a b:Expr} {ta:TA} {p pos:Pos} (hg:Gl X "range") (hm:X.mg "range"=none) (ha:PA X [a,b] ta) (hs:starEach [a,b] X.env=[(false,eval a X.env),(false,eval b X.env)]:=by rfl) (hs2:starEach [b] X.env=[(false,eval b X.env)]:=by rfl) :
  PI X tg (.Call (.Name "range" p) [a,b] [] pos) (qLd ta):=by
 intro pins s σ H R I h;refine Call_ (ld_blt I hg hm boot_range (PyProof.Rows.callWith_type1 (thn (ha pos pins s σ H _ I h) fun us s1 ⟨vs,H1,I1,r1,q1⟩=>?_) (by rw[hs,hs2]) (by rw[hs2];rfl)));obtain ⟨i,j,e,⟨q1,q2,q3,q4⟩,q⟩:=q1;subst e;cases r1 with
 |cons r rr=>
  cases rr with
  |cons r' rr=>cases rr;obtain ⟨t,rfl⟩:=r;obtain ⟨t',rfl⟩:=r';exact call_range_2 (qAp I1 q1 q2 q3 q4 q)
def qFN(wi:TI)(g:TG)(tb:TS):TS:=fun D σ H=>wi σ H fun J H1=>∃ W:Nat->Nat->St->Hp->Prop,(∃ m,W 0 m σ H1)/\∀ i m σ H,W i m σ H ->
 (J.stop i H/\D.nx σ H)\/(J.go i H/\∃ N:St->Hp->Prop,(∀ σ' H',N σ' H'->∃ m',m'<m/\W (i+1) m' σ' H')/\∀ x H',J.yld i H x H'->g x σ H' fun σ2 H2=>tb { D with nx:=N,ct:=N,bk:=D.nx } σ2 H2)
def pinsAt(fp:List Addr)(h:Heap):List (Addr × Obj):=fp.filterMap fun b=>(h.get? b).map fun o=>(b,o)
theorem mem_pinsAt{fp:List Addr}{h:Heap}{b:Addr}{o:Obj}(hb:b∈fp)(e:h.get? b=some o):(b,o)∈pinsAt fp h:=List.mem_filterMap.mpr ⟨b,hb,by rw[e];rfl⟩
theorem qG6{fp:List Addr}{h:Heap}{p:Addr × Obj}(hp:p∈pinsAt fp h):p.1∈fp/\h.get? p.1=some p.2:=by
 obtain ⟨b,hb,e⟩:=List.mem_filterMap.mp hp;cases q:h.get? b with
 |none=>rw[q] at e;cases e
 |some o=>
  rw[q] at e;have e':(b,o)=p:=Option.some.inj e;subst e'
  exact⟨hb,q⟩
theorem Inv.pinned{pins:List (Addr × Obj)}{σ:St}{H:Hp}{s:Shared}{fp:List Addr}(I:Inv X pins σ H s)(hf:∀ b∈fp,qP X pins H b)(ho:∀ b∈fp,∃ o,s.heap.get? b=some o/\∀ v,o.data≠.cell v):Inv X (pins++pinsAt fp s.heap) σ H s:=
 I.pins_of fun p hp=>(List.mem_append.mp hp).elim (fun z=>I.pin p (List.mem_append_right _ z)) fun z=>by
  obtain ⟨hb,e⟩:=qG6 z;obtain ⟨f0,f1,f2,_⟩:=hf p.1 hb;obtain ⟨o,e',d⟩:=ho p.1 hb;rw[e] at e';cases e'
  exact⟨e,f0,f1,f2,d⟩
theorem Inv.unpinned{pins pl:List (Addr × Obj)}{σ:St}{H:Hp}{s:Shared}(I:Inv X (pins++pl) σ H s):Inv X pins σ H s:=I.pins_of fun p hp=>I.pin p (List.mem_append_right _ (List.mem_append_left _ hp))
theorem ps_for{iter:Expr}{body:List Stmt}{wi:TI}{g:TG}{tb:TS}{pos:Pos}(hp:PassesOwn (model X.prog X.w) X.A X.env X.xe)(hc:X.calm=true)(hi:PI X tg iter wi)(hg:PG X tg g)(hb:PSs X body tb)
  (hs:∀ x,foldedSetIterable iter X.env x=pure x:=by intro _;rfl):PS X (.For tg iter body [] pos) (qFN wi g tb):=by
 intro pins s σ H D I h;refine wpAny_For (thn (hi pins s σ H _ I h) fun v s1 h1=>thn h1 fun itv s2 h2=>?_) hs;obtain ⟨it,fp,tn,J,H2,e,I2,T,st2,f2,W,⟨m0,w0⟩,turn⟩:=h2;subst e;have stat:∀ {H':Hp},(∀ b∈fp,H' b=none)->∀ b∈fp,qP X pins H' b:=fun hn b hb=>⟨hn b hb,(f2 b hb).2⟩;refine codeAny_forLoop_any (fun n s'=>∃ i σ' H',Inv X pins σ' H' s'/\tn i s'.heap/\(∀ b∈fp,H' b=none)/\W i n σ' H') ?_ m0 ⟨0,σ,H2,I2,st2,fun b hb=>(f2 b hb).1,w0⟩
 rintro n s3 ⟨i,σ3,H3,I3,st3,fr3,w3⟩
 rcases turn i n σ3 H3 w3 with⟨stop,qn⟩ | ⟨go,N,hN,step⟩
 ·refine wpAny_passesOwn hp (thn (T.done X rfl rfl rfl hc i pins s3 σ3 H3 X.xe I3 (stat fr3) st3 stop) fun r s4 ⟨hr,I4⟩=>?_);subst hr;exact wpAny_execs_nil ⟨σ3,H3,I4,qn⟩
 ·refine wpAny_passesOwn hp (thn (T.item X rfl rfl rfl hc i pins s3 σ3 H3 X.xe I3 (stat fr3) st3 go) fun r s4 ⟨u,hr,h4⟩=>?_);subst hr;refine wpAny_passesOwn hp (thn h4 fun _ s5 ⟨x,H5,I5,r5,y5,st5,fr5⟩=>?_);have I5':=I5.pinned (stat fr5) (T.obj _ _ st5);refine wpAny_passesOwn hp (thn (hg _ s5 σ3 H5 x u _ I5' r5 (step x H5 y5)) fun _ s6 ⟨σ6,H6,I6,q6⟩=>?_);refine wpAny_passesOwn hp (thn (hb _ s6 σ6 H6 _ I6 q6) fun f s7 q7=>?_)
  have again:∀ {σ7:St} {H7:Hp},Inv X (pins++pinsAt fp s5.heap) σ7 H7 s7->N σ7 H7->∃ m,m<n/\∃ i σ' H',Inv X pins σ' H' s7/\tn i s7.heap/\(∀ b∈fp,H' b=none)/\W i m σ' H':=fun {σ7 H7} I7 n7=>by
   obtain ⟨m',hm,w7⟩:=hN σ7 H7 n7;refine⟨m',hm,i+1,σ7,H7,I7.unpinned,T.keep _ _ _ st5 fun b hb o e=>(I7.pin (b,o) (List.mem_append_right _ (List.mem_append_right _ (mem_pinsAt hb e)))).1,fun b hb=>?_,w7⟩;obtain ⟨o,e,d⟩:=T.obj _ _ st5 b hb;exact (I7.pin (b,o) (List.mem_append_right _ (List.mem_append_right _ (mem_pinsAt hb e)))).2.1
  cases f with
  |next=>obtain ⟨σ7,H7,I7,n7⟩:=q7;exact again I7 n7
  |cont=>obtain ⟨σ7,H7,I7,n7⟩:=q7;exact again I7 n7
  |brk=>obtain ⟨σ7,H7,I7,q7⟩:=q7;exact⟨σ7,H7,I7.unpinned,q7⟩
  |ret v=>obtain ⟨x7,σ7,H7,I7,r7,q7⟩:=q7;exact⟨x7,σ7,H7,I7.unpinned,r7,q7⟩
end
abbrev R2:=V->V->Hp->VK->Prop
def OpR(X:Cx)(f:Value->Value->Sem Value)(r:R2):Prop:=
 ∀ (pins:List (Addr × Obj)) (s:Shared) (σ:St) (H:Hp) (x y:V) (v u:Value) (Q:VK),Inv X pins σ H s->RelV x v->RelV y u->r x y H Q ->
  wpAny (model X.prog X.w) X.A (f v u) (EP X pins σ Q) X.xe s
def UnR(X:Cx)(f:Value->Sem Value)(r:V->Hp->VK->Prop):Prop:=
 ∀ (pins:List (Addr × Obj)) (s:Shared) (σ:St) (H:Hp) (x:V) (v:Value) (Q:VK),Inv X pins σ H s->RelV x v->r x H Q ->
  wpAny (model X.prog X.w) X.A (f v) (EP X pins σ Q) X.xe s
def qL(X:Cx)(f:Value)(r:List V->Hp->VK->Prop):Prop:=
 ∀ (pins:List (Addr × Obj)) (s:Shared) (σ:St) (H:Hp) (xs:List V) (us:List Value) (Q:VK),Inv X pins σ H s->Vals xs us->r xs H Q ->
  wpAny (model X.prog X.w) X.A (call f us) (EP X pins σ Q) X.xe s
def qRi(X:Cx)(r:V->Hp->(Bool->Hp->Prop)->Prop):Prop:=
 ∀ (pins:List (Addr × Obj)) (s:Shared) (σ:St) (H:Hp) (x:V) (v:Value) (Q:Bool->Hp->Prop),Inv X pins σ H s->RelV x v->r x H Q ->
  wpAny (model X.prog X.w) X.A (truthy v) (TP X pins σ Q) X.xe s
def tOp(r:R2)(ta tb:TE):TE:=fun σ H Q=>ta σ H fun x H1=>tb σ H1 fun y H2=>r x y H2 Q
def tUn(r:V->Hp->VK->Prop)(ta:TE):TE:=fun σ H Q=>ta σ H fun x H1=>r x H1 Q
def rI(C:Int->Int->Prop)(g:Int->Int->V):R2:=fun x y H Q=>∃ i j,x=.int i/\y=.int j/\C i j/\Q (g i j) H
def rI0(g:Int->Int->V):R2:=fun x y H Q=>∃ i j,x=.int i/\y=.int j/\Q (g i j) H
def rU(g:Int->V):V->Hp->VK->Prop:=fun x H Q=>∃ i,x=.int i/\Q (g i) H
section
variable {X:Cx}{a b c:Expr}{ta tb tc:TE}{pos:Pos}
theorem nU(ha:PE X a ta)(hb:PE X b tb){pins:List (Addr × Obj)}{s:Shared}{σ:St}{H:Hp}{R:V->V->Hp->Prop}(I:Inv X pins σ H s)
  (h:ta σ H fun x H1=>tb σ H1 fun y H2=>R x y H2) {Q:Value->Shared->Prop} {f:Value->Value->Sem Value}
  (hf:∀ v u s2 x y H2,Inv X pins σ H2 s2->RelV x v->RelV y u->R x y H2->wpAny (model X.prog X.w) X.A (f v u) Q X.xe s2) :
  wpAny (model X.prog X.w) X.A (eval a X.env) (fun v s₁=>wpAny (model X.prog X.w) X.A (eval b X.env) (fun u s₂=>wpAny (model X.prog X.w) X.A (f v u) Q X.xe s₂) X.xe s₁) X.xe s:=by
 refine thn (ha pins s σ H _ I h) fun v s1 ⟨x,H1,I1,r1,q1⟩=>?_;refine thn (hb pins s1 σ H1 _ I1 q1) fun u s2 ⟨y,H2,I2,r2,q2⟩=>?_;exact hf v u s2 x y H2 I2 r1 r2 q2
theorem pe_op{op:Operator}{r:R2}(ho:OpR X (binaryOp op) r)(ha:PE X a ta)(hb:PE X b tb):PE X (.BinOp a op b pos) (tOp r ta tb):=by
 intro pins s σ H Q I h;exact wpAny_BinOp (nU ha hb I h fun v u s2 x y H2 I2 rx ry q=>ho pins s2 σ H2 x y v u Q I2 rx ry q)
theorem pe_un{op:UnaryOp}{r:V->Hp->VK->Prop}(ho:UnR X (unaryOp op) r)(ha:PE X a ta):PE X (.UnaryOp op a pos) (tUn r ta):=by
 intro pins s σ H Q I h;exact UnaryOp_ (thn (ha pins s σ H _ I h) fun v s1 ⟨x,H1,I1,r1,q1⟩=>ho pins s1 σ H1 x v Q I1 r1 q1)
theorem opI{f:Value->Value->Sem Value}{C:Int->Int->Prop}{g:Int->Int->Int}
  (rule:∀ (i j:Int) (t u:Tok) (s:Shared) (Q:Value->Shared->Prop) (E:Value->Shared->Prop),C i j->Q (.int (g i j) s.toks) { s with toks:=s.toks+1 }->wpAny (model X.prog X.w) X.A (f (.int i t) (.int j u)) Q E s) :
  OpR X f (rI C fun i j=>.int (g i j)):=by
 intro pins s σ H x y v u Q I rx ry h;obtain ⟨i,j,rfl,rfl,hc,q⟩:=h;obtain ⟨t,rfl⟩:=rx;obtain ⟨t',rfl⟩:=ry;exact rule i j t t' s _ _ hc ⟨.int (g i j),H,I.tok _,⟨_,rfl⟩,q⟩
theorem qA6{f:Value->Value->Sem Value}{g:Int->Int->Int}
  (rule:∀ (i j:Int) (t u:Tok) (s:Shared) (Q:Value->Shared->Prop) (E:Value->Shared->Prop),Q (.int (g i j) s.toks) { s with toks:=s.toks+1 }->wpAny (model X.prog X.w) X.A (f (.int i t) (.int j u)) Q E s) :
  OpR X f (rI0 fun i j=>.int (g i j)):=by
 intro pins s σ H x y v u Q I rx ry h;obtain ⟨i,j,rfl,rfl,q⟩:=h;obtain ⟨t,rfl⟩:=rx;obtain ⟨t',rfl⟩:=ry;exact rule i j t t' s _ _ ⟨.int (g i j),H,I.tok _,⟨_,rfl⟩,q⟩
theorem gU{f:Value->Value->Sem Value}{g:Int->Int->Bool}
  (rule:∀ (i j:Int) (t u:Tok) (s:Shared) (Q:Value->Shared->Prop) (E:Value->Shared->Prop),Q (.bool (g i j)) s->wpAny (model X.prog X.w) X.A (f (.int i t) (.int j u)) Q E s) :
  OpR X f (rI0 fun i j=>.bl (g i j)):=by
 intro pins s σ H x y v u Q I rx ry h;obtain ⟨i,j,rfl,rfl,q⟩:=h;obtain ⟨t,rfl⟩:=rx;obtain ⟨t',rfl⟩:=ry;exact rule i j t t' s _ _ ⟨.bl (g i j),H,I,rfl,q⟩
def qRl(i j:Int):Prop:=0<j/\j<1073741824
def CMul(i j:Int):Prop:=(-(2 ^ 64)<i/\i<2 ^ 64)\/(-(2 ^ 64)<j/\j<2 ^ 64)
theorem CMul.ok{i j:Int}(h:CMul i j):IntMulOk i j:=by
 rcases h with⟨h1,h2⟩ | ⟨h1,h2⟩
 ·exact .of_left (intBits_le_64 h1 h2)
 ·exact .of_right (intBits_le_64 h1 h2)
theorem op_add:OpR X (binaryOp .Add) (rI0 fun i j=>.int (i+j)):=qA6 fun _ _ _ _ _ _ _ q=>add_int q
theorem op_sub:OpR X (binaryOp .Sub) (rI0 fun i j=>.int (i-j)):=qA6 fun _ _ _ _ _ _ _ q=>sub_int q
theorem op_mul:OpR X (binaryOp .Mult) (rI CMul fun i j=>.int (i*j)):=opI fun _ _ _ _ _ _ _ hc q=>mul_int q hc.ok
theorem op_fdiv:OpR X (binaryOp .FloorDiv) (rI qRl fun i j=>.int (i / j)):=opI fun i j _ _ _ _ _ hc q=>by
 have h1:(0:Int)<j:=hc.1;have h2:j<1073741824:=hc.2;exact floordiv_int (by omega) (by rw[Int.fdiv_eq_ediv_of_nonneg i (by omega)];exact q) (.inl (PyProof.noPylong_small (by omega)))
theorem op_mod:OpR X (binaryOp .Mod) (rI (fun _ j=>0<j) fun i j=>.int (i % j)):=opI fun i j _ _ _ _ _ hc q=>by
 have h1:(0:Int)<j:=hc;exact mod_int' (by omega) (by rw[Int.fmod_eq_emod_of_nonneg i (by omega)];exact q)
theorem unI{f:Value->Sem Value}{g:Int->Int}
  (rule:∀ (i:Int) (t:Tok) (s:Shared) (Q:Value->Shared->Prop) (E:Value->Shared->Prop),Q (.int (g i) s.toks) { s with toks:=s.toks+1 }->wpAny (model X.prog X.w) X.A (f (.int i t)) Q E s) :
  UnR X f (rU fun i=>.int (g i)):=by
 intro pins s σ H x v Q I rx h;obtain ⟨i,rfl,q⟩:=h;obtain ⟨t,rfl⟩:=rx;exact rule i t s _ _ ⟨.int (g i),H,I.tok _,⟨_,rfl⟩,q⟩
theorem un_neg:UnR X (unaryOp .USub) (rU fun i=>.int (-i)):=unI fun _ _ _ _ _ q=>neg_int q
end
section
variable {X:Cx}{a b c:Expr}{ta tb tc:TE}{pos:Pos}
theorem op_lt:OpR X (compareOp .Lt) (rI0 fun i j=>.bl (decide (i<j))):=gU fun _ _ _ _ _ _ _ q=>lt_int q
theorem op_le:OpR X (compareOp .LtE) (rI0 fun i j=>.bl (decide (i<=j))):=gU fun _ _ _ _ _ _ _ q=>le_int q
theorem op_gt:OpR X (compareOp .Gt) (rI0 fun i j=>.bl (decide (j<i))):=gU fun _ _ _ _ _ _ _ q=>gt_int q
theorem op_ge:OpR X (compareOp .GtE) (rI0 fun i j=>.bl (decide (j<=i))):=gU fun _ _ _ _ _ _ _ q=>ge_int q
theorem qRn(b:Expr){op:CmpOp}(h:op≠.In:=by decide)(h2:op≠.NotIn:=by decide):behindInMarks op b=false:=by
 have e1:(op == CmpOp.In)=false:=by cases op <;> first | rfl | exact absurd rfl h
 have e2:(op == CmpOp.NotIn)=false:=by cases op <;> first | rfl | exact absurd rfl h2
 cases b <;> simp[behindInMarks,e1,e2]
theorem pe_cmpR{op:CmpOp}{r:R2}(ho:OpR X (compareOp op) r)(ha:PE X a ta)(hb:PE X b tb)(hm:behindInMarks op b=false):PE X (.Compare a [op] [b] pos) (tOp r ta tb):=by
 intro pins s σ H Q I h;exact wpAny_Compare1 (nU ha hb I h fun v u s2 x y H2 I2 rx ry q=>ho pins s2 σ H2 x y v u Q I2 rx ry q) hm
def tZ(t:TE):TT:=fun σ H Q=>t σ H fun x H'=>∃ k,x=.bl k/\Q k H'
theorem pt_cmpR{op:CmpOp}{r:R2}(ho:OpR X (compareOp op) r)(ha:PE X a ta)(hb:PE X b tb)(hm:behindInMarks op b=false):PT X (.Compare a [op] [b] pos) (tZ (tOp r ta tb)):=by
 intro pins s σ H Q I h
 refine wpAny_isTrue_Compare1 (thn (ha pins s σ H _ I h) fun v s1 ⟨x,H1,I1,r1,q1⟩=>thn (hb pins s1 σ H1 _ I1 q1) fun u s2 ⟨y,H2,I2,r2,q2⟩=>
  thn (ho pins s2 σ H2 x y v u _ I2 r1 r2 q2) fun c s3 ⟨z,H3,I3,r3,k,e,q3⟩=>?_) hm
 subst e;cases r3;exact wpAny_truthy_bool ⟨H3,I3,q3⟩
def tChain(r r':R2)(ta tb tc:TE):TE:=fun σ H Q=>ta σ H fun x H1=>tb σ H1 fun y H2=>r x y H2 fun z H3=>∃ k,z=.bl k /\
 (if k=true then tc σ H3 fun w' H4=>r' y w' H4 Q else Q (.bl false) H3)
theorem pe_chain{op op':CmpOp}{r r':R2}(ho:OpR X (compareOp op) r)(ho':OpR X (compareOp op') r')(ha:PE X a ta)(hb:PE X b tb)(hc:PE X c tc)
  (hm:lastMarks [op,op'] [b,c]=false:=by with_unfolding_all rfl):PE X (.Compare a [op,op'] [b,c] pos) (tChain r r' ta tb tc):=by
 intro pins s σ H Q I h
 refine Compare_chain (thn (ha pins s σ H _ I h) fun v s1 ⟨x,H1,I1,r1,q1⟩=>chain_link (thn (hb pins s1 σ H1 _ I1 q1) fun u s2 ⟨y,H2,I2,r2,q2⟩=>
  thn (ho pins s2 σ H2 x y v u _ I2 r1 r2 q2) fun d s3 ⟨z,H3,I3,r3,k,e,q3⟩=>?_)) hm
 subst e;cases r3;refine wpAny_truthy_bool ?_;cases k with
 |false=>exact ite_ff ⟨.bl false,H3,I3,rfl,q3⟩
 |true=>exact ite_tt (chain_last (thn (hc pins s3 σ H3 _ I3 q3) fun w' s4 ⟨z',H4,I4,r4,q4⟩=>ho' pins s4 σ H4 y z' u w' Q I4 r2 r4 q4))
theorem pt_chain{op op':CmpOp}{r r':R2}(ho:OpR X (compareOp op) r)(ho':OpR X (compareOp op') r')(ha:PE X a ta)(hb:PE X b tb)(hc:PE X c tc)
  (hm:lastMarks [op,op'] [b,c]=false:=by with_unfolding_all rfl):PT X (.Compare a [op,op'] [b,c] pos) (tZ (tChain r r' ta tb tc)):=by
 intro pins s σ H Q I h
 refine isTrue_chain (thn (ha pins s σ H _ I h) fun v s1 ⟨x,H1,I1,r1,q1⟩=>test_link (thn (hb pins s1 σ H1 _ I1 q1) fun u s2 ⟨y,H2,I2,r2,q2⟩=>
  thn (ho pins s2 σ H2 x y v u _ I2 r1 r2 q2) fun d s3 ⟨z,H3,I3,r3,k,e,q3⟩=>?_)) hm
 subst e;cases r3;refine wpAny_truthy_bool ?_;cases k with
 |false=>obtain ⟨k',e',q'⟩:=q3;cases e';exact ite_ff ⟨H3,I3,q'⟩
 |true=>refine ite_tt (test_last (thn (hc pins s3 σ H3 _ I3 q3) fun w' s4 ⟨z',H4,I4,r4,q4⟩=>thn (ho' pins s4 σ H4 y z' u w' _ I4 r2 r4 q4) fun d' s5 ⟨z2,H5,I5,r5,k2,e2,q5⟩=>?_));subst e2;cases r5;exact wpAny_truthy_bool ⟨H5,I5,q5⟩
def TruV(K:PySem.W.Frag)(x:V)(H:Hp)(k:Bool):Prop:=
 match x with
 | .non=>k=false
 | .bl b=>k=b
 | .int i=>k=(i != 0)
 | .str y=>y.length<=sizeLine/\k=((y.length:Int) != 0)
 | .byt y=>y.size<=sizeLine/\k=((y.size:Int) != 0)
 | .ref p=>(∃ xs,SqL K H p xs/\k=!xs.isEmpty)\/(∃ xs,SqT K H p xs/\k=!xs.isEmpty)\/∃ kvs,H p=some (.dK kvs)/\k=!kvs.isEmpty
 |_=>False
theorem qKj{κ:Type}{kvs:List (κ × V)}{vs:List (κ × Value)}(r:KV kvs vs):(!vs.isEmpty)=!kvs.isEmpty:=by
 cases r <;> rfl
theorem qCE{xs:List V}{its:List Value}(r:Vals xs its):(!its.toArray.isEmpty)=!xs.isEmpty:=by
 cases r <;> simp
theorem yA:(sizeLine:Nat)<2 ^ 63:=by rw[sizeLine_eq];decide
theorem tru_ok:qRi X (fun x H Q=>∃ k,TruV X.K x H k/\Q k H):=by
 intro pins s σ H x v Q I rx h;obtain ⟨k,e,q⟩:=h;have hl:=yA;have hs:sizeLine=16777216:=sizeLine_eq;cases x with
 |non=>cases rx;have e':k=false:=e;subst e';exact truthy_none ⟨H,I,q⟩
 |bl b=>cases rx;have e':k=b:=e;subst e';exact wpAny_truthy_bool ⟨H,I,q⟩
 |int i=>obtain ⟨t,rfl⟩:=rx;have e':k=(i != 0):=e;subst e';exact PySem.P.truthy_int ⟨H,I,q⟩
 |str y=>obtain ⟨t,rfl⟩:=rx;obtain ⟨hy,e'⟩:y.length<=sizeLine/\k=((y.length:Int) != 0):=e;subst e';exact PySem.P.truthy_str (by omega) ⟨H,I.tok _,q⟩
 |byt y=>obtain ⟨t,rfl⟩:=rx;obtain ⟨hy,e'⟩:y.size<=sizeLine/\k=((y.size:Int) != 0):=e;subst e';exact PySem.W.truthy_bytes (by omega) ⟨H,I.tok _,q⟩
 |ref p=>
  cases rx;have e':(∃ xs,SqL X.K H p xs/\k=!xs.isEmpty)\/(∃ xs,SqT X.K H p xs/\k=!xs.isEmpty)\/∃ kvs,H p=some (.dK kvs)/\k=!kvs.isEmpty:=e;rcases e' with⟨xs,hx,e'⟩ | ⟨xs,hx,e'⟩ | ⟨kvs,hx,e'⟩
  ·subst e';obtain ⟨its,r,pl,hz⟩:=I.list hx;have hlen:=r.length;exact wpAny_truthy_list pl.isList (by simp only[List.size_toArray];omega) ⟨H,I.tok _,by rw[qCE r];exact q⟩
  ·subst e';obtain ⟨its,r,pl,hz⟩:=I.tuple hx;have hlen:=r.length;exact truthy_tuple pl (by simp only[List.size_toArray];omega) ⟨H,I.tok _,by rw[qCE r];exact q⟩
  ·subst e';obtain ⟨hz,hS,vs,r,m⟩:kvs.length<=sizeLine/\(p == sysModules)=false/\∃ vs,KV kvs vs/\s.heap.DictOf (mixKind X.prog X.w) p vs:=I.hok p _ hx;have hlen:kvs.length=vs.length:=Paired.length r;exact wpAny_truthy_dict hS m (by omega) ⟨H,I.tok _,by rw[qKj r];exact q⟩
 |_=>exact (show False from e).elim
theorem pt_truth(ha:PE X a ta)(he:∀ whole,isTrue a X.env whole=(do let v <- whole;standAt a.pos;holding [v] (truthy v))) :
  PT X a (fun σ H Q=>ta σ H fun x H'=>∃ k,TruV X.K x H' k/\Q k H'):=by
 intro pins s σ H Q I h;exact isTrue_plain (thn (ha pins s σ H _ I h) fun v s1 ⟨x,H1,I1,r1,q1⟩=>tru_ok pins s1 σ H1 x v Q I1 r1 q1) (he _)
theorem op_add_str:OpR X (binaryOp .Add) (fun x y H Q=>∃ i j,x=.str i/\y=.str j/\i.length+j.length<=sizeLine/\Q (.str (i++j)) H):=by
 intro pins s σ H x y v u Q I rx ry h;obtain ⟨i,j,rfl,rfl,hz,q⟩:=h;obtain ⟨t,rfl⟩:=rx;obtain ⟨t',rfl⟩:=ry;exact add_str (fun t' tk=>⟨.str (i++j),H,I.tok _,⟨_,rfl⟩,q⟩) hz
theorem vals1{x:V}{us:List Value}(r:Vals [x] us):∃ u,us=[u]/\RelV x u:=by
 cases r with
 |cons r1 r2=>cases r2;exact⟨_,rfl,r1⟩
theorem tN{x y:V}{us:List Value}(r:Vals [x,y] us):∃ u w',us=[u,w']/\RelV x u/\RelV y w':=by
 cases r with
 |cons r1 r2=>
  cases r2 with
  |cons r3 r4=>cases r4;exact⟨_,_,rfl,r1,r3⟩
theorem call_max2 (hc:X.calm=true):qL X (.builtin "max") (fun xs H Q=>∃ i j,xs=[.int i,.int j]/\Q (.int (if j > i then j else i)) H):=by
 intro pins s σ H xs us Q I r h;obtain ⟨i,j,rfl,q⟩:=h;obtain ⟨u,w',rfl,⟨t,rfl⟩,⟨t',rfl⟩⟩:=tN r;refine max_two_ints (I.ok.hd hc) fun h' tk k=>⟨_,H,I.kept k,?_,q⟩
 by_cases hj:j > i
 ·rw[if_pos hj,if_pos hj];exact⟨_,rfl⟩
 ·rw[if_neg hj,if_neg hj];exact⟨_,rfl⟩
theorem call_min2 (hc:X.calm=true):qL X (.builtin "min") (fun xs H Q=>∃ i j,xs=[.int i,.int j]/\Q (.int (if j<i then j else i)) H):=by
 intro pins s σ H xs us Q I r h;obtain ⟨i,j,rfl,q⟩:=h;obtain ⟨u,w',rfl,⟨t,rfl⟩,⟨t',rfl⟩⟩:=tN r;refine min_two_ints (I.ok.hd hc) fun h' tk k=>⟨_,H,I.kept k,?_,q⟩
 by_cases hj:j<i
 ·rw[if_pos hj,if_pos hj];exact⟨_,rfl⟩
 ·rw[if_neg hj,if_neg hj];exact⟨_,rfl⟩
theorem call_int1:qL X (.type "int") (fun xs H Q=>(∃ i,xs=[.int i]/\Q (.int i) H)\/∃ k,xs=[.bl k]/\Q (.int (if k then 1 else 0)) H):=by
 intro pins s σ H xs us Q I r h;rcases h with⟨i,rfl,q⟩ | ⟨k,rfl,q⟩
 ·obtain ⟨u,rfl,t,rfl⟩:=vals1 r;exact call_int_int ⟨.int i,H,I,⟨_,rfl⟩,q⟩
 ·obtain ⟨u,rfl,r1⟩:=vals1 r;cases r1;exact call_int_bool ⟨.int (if k then 1 else 0),H,I.tok _,⟨_,rfl⟩,q⟩
theorem call_str_int:qL X (.type "str") (fun xs H Q=>∃ i,xs=[.int i]/\i.natAbs.log2<1920/\Q (.str (toString i)) H):=by
 intro pins s σ H xs us Q I r h;obtain ⟨i,rfl,hz,q⟩:=h;obtain ⟨u,rfl,t,rfl⟩:=vals1 r;exact PySem.P.str_of_int hz ⟨.str _,H,I.tok _,⟨_,rfl⟩,q⟩
theorem call_ord:qL X (.builtin "ord") (fun xs H Q=>∃ x,xs=[.str x]/\x.length=1/\Q (.int (x.cps.getD 0 0:Nat)) H):=by
 intro pins s σ H xs us Q I r h;obtain ⟨x,rfl,hz,q⟩:=h;obtain ⟨u,rfl,t,rfl⟩:=vals1 r;exact ord_of_one hz ⟨.int _,H,I.tok _,⟨_,rfl⟩,q⟩
def qRj(K:PySem.W.Frag)(x:V)(H:Hp)(n:Nat):Prop:=
 match x with
 | .str y=>y.length<=sizeLine/\n=y.length
 | .byt y=>y.size<=sizeLine/\n=y.size
 | .ref p=>(∃ xs,SqL K H p xs/\n=xs.length)\/∃ xs,SqT K H p xs/\n=xs.length
 |_=>False
theorem call_len:qL X (.builtin "len") (fun xs H Q=>∃ x n,xs=[x]/\qRj X.K x H n/\Q (.int n) H):=by
 intro pins s σ H xs us Q I r h;obtain ⟨x,n,rfl,e,q⟩:=h;obtain ⟨u,rfl,rx⟩:=vals1 r;have hl:=yA;have hs:sizeLine=16777216:=sizeLine_eq;cases x with
 |str y=>obtain ⟨t,rfl⟩:=rx;obtain ⟨hy,e'⟩:y.length<=sizeLine/\n=y.length:=e;subst e';exact len_str (by omega) ⟨.int _,H,I.tok _,⟨_,rfl⟩,q⟩
 |byt y=>obtain ⟨t,rfl⟩:=rx;obtain ⟨hy,e'⟩:y.size<=sizeLine/\n=y.size:=e;subst e';exact PySem.W.len_bytes (by omega) ⟨.int _,H,I.tok _,⟨_,rfl⟩,q⟩
 |ref p=>
  cases rx;have e':(∃ xs,SqL X.K H p xs/\n=xs.length)\/∃ xs,SqT X.K H p xs/\n=xs.length:=e;rcases e' with⟨xs,hx,e'⟩ | ⟨xs,hx,e'⟩
  ·subst e';obtain ⟨its,r',pl,hz⟩:=I.list hx;have hlen:=r'.length;exact Calls.call_len_list pl.isList (by simp only[List.size_toArray];omega) ⟨.int xs.length,H,I.tok _,⟨_,by simp only[List.size_toArray];rw[hlen]⟩,q⟩
  ·subst e';obtain ⟨its,r',pl,hz⟩:=I.tuple hx;have hlen:=r'.length;exact len_tuple pl (by simp only[List.size_toArray];omega) ⟨.int xs.length,H,I.tok _,⟨_,by simp only[List.size_toArray];rw[hlen]⟩,q⟩
 |_=>exact (show False from e).elim
end
structure ObjM (h:Heap) (x dx C:Addr) (mA:Str->Option Value):Prop where
 obj:h.get? x=some (PySem.W.instObj C dx)
 ns:h.Ns1 dx mA
 ne:dx≠x
theorem qJv{h:Heap}{dx:Addr}{mA:Str->Option Value}(n:h.Ns1 dx mA):∃ od,h.get? dx=some od/\∀ name,PySem.W.lookIn name od=some (mA name):=by
 obtain ⟨o,es,ep,ho,hd,hk,_,hm⟩:=n;refine⟨o,ho,fun name=>?_⟩;have e:=hm name;unfold nsFind findBy at e;rw[<- Array.find?_toList] at e;unfold PySem.W.lookIn;rw[hd];dsimp only;split
 ·rename_i y q;rw[q] at e;exact congrArg some e
 ·rename_i q;rw[q] at e
  have a:es.toList.any (·.refKey)=false:=by
   rw[List.any_eq_false];intro y hy;obtain ⟨z,t,hkey⟩:=hk y (Array.mem_toList_iff.mp hy);simp[DictEntry.refKey,hkey]
  have a':¬ es.toList.any (·.refKey)=true:=by rw[a];exact Bool.false_ne_true
  rw[if_neg a'];exact congrArg some e
theorem ObjM.look{h:Heap}{x dx C:Addr}{mA:Str->Option Value}(I:ObjM h x dx C mA):∃ od,PySem.W.InstAt h x (PySem.W.instObj C dx) C (some od)/\∀ name,PySem.W.lookIn name od=some (mA name):=
 let ⟨od,ho,hl⟩:=qJv I.ns
 ⟨od,⟨I.obj,rfl,rfl,ho⟩,hl⟩
section
variable {prog:Program}{w:World}{A:Around}{E:Value->Shared->Prop}{s:Shared}{K:PySem.W.Frag}{x dx C f:Addr}{mA:Str->Option Value}{name:Str}{v:Value}
theorem qL9{expr:Bool}{Q:Value->Shared->Prop}(X:K.In s.heap)(I:ObjM s.heap x dx C mA)(hg:PySem.W.plainGet K C name=true)(hh:PySem.W.hasDictIn K C=true)
  (ha:PySem.W.findIn K (.ref C) name=some none) (hv:mA name=some v) (hv':PySem.W.handedIn v=true) (h:Q v { s with toks:=s.toks+1 }) :
  wpAny (model prog w) A (getAttr (.ref x) name expr) Q E s:=by
 obtain ⟨od,J,hl⟩:=I.look;exact PySem.W.get_value X J (PySem.W.plainGet_of hg).1 (PySem.W.findObj_own hh ha rfl (by rw[hl,hv])) hv' h
theorem qL8{pl:Sem Bool}{Q:Value × List Value->Shared->Prop}(X:K.In s.heap)(I:ObjM s.heap x dx C mA)(hg:PySem.W.plainGet K C name=true)
  (hf:PySem.W.findIn K (.ref C) name=some (some (.ref f))) (ht:PySem.W.isFn K (.ref f)=true) (hv:mA name=none) (h:Q (.ref f,[.ref x]) s) :
  wpAny (model prog w) A (getMethod (.ref x) name pl) Q E s:=by
 obtain ⟨od,J,hl⟩:=I.look;exact PySem.W.method_fn X J (PySem.W.plainGet_of hg).1 (PySem.W.plainGet_of hg).2 hf (beq_iff_eq.mp ht) (by show (PySem.W.lookIn name od).map (·.isSome)=some false;rw[hl,hv];rfl) h
theorem qFt{ns:List Str}{Q:Unit->Shared->Prop}(X:K.In s.heap)(I:ObjM s.heap x dx C mA)
  (hs:PySem.W.findIn K (.ref C) "__setattr__"=some (some (.builtin "object.__setattr__"))) (hp:PySem.W.plainOver K C=true) (ht:PySem.W.takerIn K C name=some none) (hh:PySem.W.hasDictIn K C=true)
  (hw:PySem.Within mA ns) (hsz:ns.length<=sizeLine)
  (h:∀ h',ObjM h' x dx C (fun y=>if y=name then some v else mA y)->Heap.SameBut dx s.heap h'->Q () { s with heap:=h',toks:=s.toks+2 }) :
  wpAny (model prog w) A (setAttr (.ref x) name v) Q E s:=by
 obtain ⟨od,J,hl⟩:=I.look;refine PySem.W.set_plain X J hs (PySem.W.osa_open (s:={ s with toks:=s.toks+1 }) (r:=none) X J hp ht fun b=>?_);obtain ⟨cd,hc,hd'⟩:=PySem.W.any_some hh;have hx:s.heap.get? x=some ⟨.ref C,some dx,.plain,#[]⟩:=I.obj;refine wpAny_bind (wpAny_pure (wpAny_bind (wpAny_bind (wpAny_loadPart hx (wpAny_bind (PySem.W.Looks.here (s:={ s with toks:=s.toks+1 }) (PySem.W.looks_clsIn X hc) ?_))))));rw[hd'];refine wpAny_pure (a:=some dx) (wpAny_bind (wpAny_pure (wpAny_bind ?_)));refine wpAny_nsSet1 (s:={ s with toks:=s.toks+1 }) I.ns fun h' hn2 hs2=>?_;obtain ⟨oD,esD,epD,hoD,hdD,hcD⟩:=hn2.count (PySem.Within.cons name v hw);refine wpAny_bind (wpAny_lookBehind hoD (by rw[hdD];exact pastItsLine_dict (Nat.le_trans hcD (by rw[List.length_cons];omega))) ?_);exact wpAny_pure (h _ ⟨(hs2.2 _ (Ne.symm I.ne)).trans I.obj,hn2,I.ne⟩ hs2)
theorem make_map{R:Result->Shared->Prop}{vs:List Value}{kw:List (Str × Value)}(X:K.In s.heap)(hm:PySem.W.makesIn K C=true)
  (hi:PySem.W.findIn K (.ref C) "__init__"=some (some (.ref f))) (hf:PySem.W.typeIn K (.ref f)=some (.type "function"))
  (h:codeAny (model prog w) (A.under (.builtin "type.__call__" ⟨.ref C::vs,kw⟩)) (.call (.ref f) ⟨.ref (s.heap.objs.size+1)::vs,kw⟩) (PySem.W.InitBack (s.heap.objs.size+1) R)
   { s with heap:=(s.heap.push PySem.W.emptyDict).push (PySem.W.instObj C s.heap.objs.size) }) :
  codeAny (model prog w) A (.call (.ref C) ⟨vs,kw⟩) R s:=by
 obtain ⟨hh,g,d,t,os⟩:=s;exact PySem.W.make_core (PySem.W.makes_of X hm) (PySem.W.looks_findIn X hi) (fun self=>PySem.W.bind_fn X self hf) (.inl rfl) h
end
def putF(f:Str)(v:V):List (Str × V)->List (Str × V)
 | []=>[(f,v)]
 | (g,x)::r=>if g=f then (g,v)::r else (g,x)::putF f v r
theorem qBm(f g:Str)(v:V):∀ fs:List (Str × V),(putF f v fs).lookup g=if g=f then some v else fs.lookup g
 | []=>by
  show List.lookup g [(f,v)]=_
  by_cases h:g=f
  ·have hb:(g == f)=true:=beq_iff_eq.mpr h;simp only[List.lookup,hb,if_pos h]
  ·have hb:(g == f)=false:=beq_eq_false_iff_ne.mpr h;simp only[List.lookup,hb,if_neg h]
 | (k,x)::r=>by
  have ih:=qBm f g v r;rw[show putF f v ((k,x)::r)=(if k=f then (k,v)::r else (k,x)::putF f v r) from rfl]
  by_cases hk:k=f
  ·rw[if_pos hk]
   by_cases h:g=k
   ·have hb:(g == k)=true:=beq_iff_eq.mpr h;simp only[List.lookup,hb,if_pos (h.trans hk)]
   ·have hb:(g == k)=false:=beq_eq_false_iff_ne.mpr h;simp only[List.lookup,hb,if_neg (fun e:g=f=>h (e.trans hk.symm))]
  ·rw[if_neg hk]
   by_cases h:g=k
   ·have hb:(g == k)=true:=beq_iff_eq.mpr h;simp only[List.lookup,hb,if_neg (fun e:g=f=>hk (h.symm.trans e))]
   ·have hb:(g == k)=false:=beq_eq_false_iff_ne.mpr h;simp only[List.lookup,hb];exact ih
theorem eY(f:Str)(v:V):∀ fs:List (Str × V),f∈(putF f v fs).map (·.1)/\∀ g,g∈fs.map (·.1)->g∈(putF f v fs).map (·.1)
 | []=>⟨by simp[putF],fun g h=>by simp at h⟩
 | (k,x)::r=>by
  obtain ⟨i1,i2⟩:=eY f v r;rw[show putF f v ((k,x)::r)=(if k=f then (k,v)::r else (k,x)::putF f v r) from rfl]
  by_cases hk:k=f
  ·rw[if_pos hk];subst hk
   exact⟨by simp,fun g h=>by simpa using h⟩
  ·rw[if_neg hk];refine⟨?_,fun g h=>?_⟩
   ·rw[List.map_cons];exact List.mem_cons_of_mem _ i1
   ·rw[List.map_cons] at h ⊢;rcases List.mem_cons.mp h with e | e
    ·exact List.mem_cons.mpr (.inl e)
    ·exact List.mem_cons_of_mem _ (i2 g e)
theorem qBn(f:Str)(v:V):∀ fs:List (Str × V),(putF f v fs).length<=fs.length+1
 | []=>by simp[putF]
 | (k,x)::r=>by
  have ih:=qBn f v r;rw[show putF f v ((k,x)::r)=(if k=f then (k,v)::r else (k,x)::putF f v r) from rfl]
  by_cases hk:k=f
  ·rw[if_pos hk,List.length_cons,List.length_cons];omega
  ·rw[if_neg hk,List.length_cons,List.length_cons];omega
theorem RelO.some_of{v:V}{o:Option Value}(r:RelO (some v) o):∃ u,o=some u/\RelV v u:=by
 cases o with
 |none=>exact (show False from r).elim
 |some u=>exact⟨u,rfl,r⟩
theorem RelO.none_of{o:Option Value}(r:RelO none o):o=none:=by
 cases o with
 |none=>rfl
 |some u=>exact (show False from r).elim
theorem qLt{v:V}{u:Value}(r:RelV v u):PySem.W.handedIn u=true:=by
 cases v with
 |non=>cases (show u=Value.none from r);rfl
 |bl b=>cases (show u=Value.bool b from r);rfl
 |int i=>obtain ⟨t,e⟩:=(show ∃ t,u=Value.int i t from r);cases e;rfl
 |str x=>obtain ⟨t,e⟩:=(show ∃ t,u=Value.str x t from r);cases e;rfl
 |byt b=>obtain ⟨t,e⟩:=(show ∃ t,u=Value.bytes b t from r);cases e;rfl
 |flt b=>obtain ⟨t,e⟩:=(show ∃ t,u=Value.float b t from r);cases e;rfl
 |ref a=>cases (show u=Value.ref a from r);rfl
 |ty n=>cases (show u=Value.type n from r);rfl
section
variable {P:Program}{w:World}{H H':Hp}{h h':Heap}{a C dx:Addr}{fs fs':List (Str × V)}
theorem fS(hok:HOk P w H h)(e:H a=some (.ins C dx fs)):∃ mA,ObjM h a dx C mA/\(∀ f,RelO (fs.lookup f) (mA f))/\PySem.Within mA (fs.map (·.1))/\fs.length<=1000/\H dx=some (.own a):=by
 obtain ⟨d,z,ne,ob,mA,n,r,q⟩:=(show ObjOk P w H h a (.ins C dx fs) from hok a _ e)
 exact⟨mA,⟨ob,n,ne⟩,r,q,z,d⟩
end
structure Cls (K:PySem.W.Frag) (C:Addr):Prop where
 pg:PySem.W.plainGet K C Str.empty=true
 hd:PySem.W.hasDictIn K C=true
 po:PySem.W.plainOver K C=true
 sa:PySem.W.findIn K (.ref C) "__setattr__"=some (some (.builtin "object.__setattr__"))
theorem Cls.get{K:PySem.W.Frag}{C:Addr}(c:Cls K C)(f:Str):PySem.W.plainGet K C f=true:=c.pg
def NoAttr(K:PySem.W.Frag)(C:Addr)(f:Str):Prop:=PySem.W.findIn K (.ref C) f=some none
theorem NoAttr.taker{K:PySem.W.Frag}{C:Addr}{f:Str}(n:NoAttr K C f):PySem.W.takerIn K C f=some none:=by
 unfold PySem.W.takerIn;rw[show PySem.W.findIn K (.ref C) f=some none from n];rfl
structure Meth (K:PySem.W.Frag) (C:Addr) (m:Str) (f:Addr):Prop where
 at_:PySem.W.findIn K (.ref C) m=some (some (.ref f))
 fn:PySem.W.isFn K (.ref f)=true
 kp:PySem.W.keepIn K (.ref f)=true
section
variable {X:Cx}{pins:List (Addr × Obj)}{σ:St}{H:Hp}{s:Shared}{a C dx:Addr}{fs:List (Str × V)}{f:Str}{v:V}{A:Around}{E:Value->Shared->Prop}
theorem qL7{b:Bool}{Q:Value->Shared->Prop}(I:Inv X pins σ H s)(e:H a=some (.ins C dx fs))(c:Cls X.K C)(n:NoAttr X.K C f)(l:fs.lookup f=some v)
  (h:∀ u s',Inv X pins σ H s'->RelV v u->Q u s'):wpAny (model X.prog X.w) A (getAttr (.ref a) f b) Q E s:=by
 obtain ⟨mA,O,r,_,_,_⟩:=fS I.hok e;obtain ⟨u,hu,ru⟩:=RelO.some_of (v:=v) (o:=mA f) (by rw[<- l];exact r f);exact qL9 I.kIn O (c.get f) c.hd n hu (qLt ru) (h u _ (I.tok _) ru)
theorem getmeth_ok{m:Str}{g:Addr}{pl:Sem Bool}{Q:Value × List Value->Shared->Prop}(I:Inv X pins σ H s)(e:H a=some (.ins C dx fs))(c:Cls X.K C)(k:Meth X.K C m g)(l:fs.lookup m=none)
  (h:Q (.ref g,[.ref a]) s):wpAny (model X.prog X.w) A (getMethod (.ref a) m pl) Q E s:=by
 obtain ⟨mA,O,r,_,_,_⟩:=fS I.hok e;have hn:mA m=none:=RelO.none_of (by rw[<- l];exact r m);exact qL8 I.kIn O (c.get m) k.at_ k.fn hn h
theorem qFr{y:V}{u:Value}{Q:Unit->Shared->Prop}(I:Inv X pins σ H s)(e:H a=some (.ins C dx fs))(c:Cls X.K C)(n:NoAttr X.K C f)(hl:fs.length<1000)(ry:RelV y u)
  (h:∀ s',Inv X pins σ (upd H a (.ins C dx (putF f y fs))) s'->Q () s'):wpAny (model X.prog X.w) A (setAttr (.ref a) f u) Q E s:=by
 obtain ⟨mA,O,r,wi,_,ho⟩:=fS I.hok e;have hz:(fs.map (·.1)).length<=sizeLine:=by rw[List.length_map,sizeLine_eq];omega
 refine qFt I.kIn O c.sa c.po n.taker c.hd wi hz fun h' O' sb=>h _ ?_;have hd:∃ o,h'.get? dx=some o:=let ⟨o,_,_,e',_⟩:=O'.ns;⟨o,e'⟩;refine I.write (x:=a) (e:=dx) (by rw[e];exact True.intro) (.inr ho) (fun b q hb z=>(sb.2 b hb).trans z) hd ?_;refine⟨by rw[qG O.ne];exact ho,?_,O.ne,O'.obj,_,O'.ns,fun g=>?_,fun g hg=>?_⟩
 ·have:=qBn f y fs;omega
 ·show RelO ((putF f y fs).lookup g) (if g=f then some u else mA g);rw[qBm]
  by_cases q:g=f
  ·rw[if_pos q,if_pos q];exact ry
  ·rw[if_neg q,if_neg q];exact r g
 ·by_cases q:g=f
  ·rw[q];exact (eY f y fs).1
  ·refine (eY f y fs).2 g (wi g fun z=>hg ?_);show (if g=f then some u else mA g)=none;rw[if_neg q];exact z
theorem Inv.made(I:Inv X pins σ H s):Inv X pins σ (upd (upd H s.heap.objs.size (.own (s.heap.objs.size+1))) (s.heap.objs.size+1) (.ins C s.heap.objs.size []))
  { s with heap:=(s.heap.push PySem.W.emptyDict).push (PySem.W.instObj C s.heap.objs.size) }:=by
 have e1:(s.heap.push PySem.W.emptyDict).get? s.heap.objs.size=some PySem.W.emptyDict:=Heap.get?_push_size s.heap rfl
 have e2:((s.heap.push PySem.W.emptyDict).push (PySem.W.instObj C s.heap.objs.size)).get? (s.heap.objs.size+1)=some (PySem.W.instObj C s.heap.objs.size):=by
  have:=Heap.get?_push_size (s.heap.push PySem.W.emptyDict) (o:=PySem.W.instObj C s.heap.objs.size) rfl
  rwa [Heap.size_push] at this
 have e3:(s.heap.push PySem.W.emptyDict).Ns s.heap.objs.size (fun _=>none):=⟨PySem.W.emptyDict,#[],_,e1,rfl,(fun e he=>absurd he (by simp)),fun _=>rfl⟩;have I1:=I.laid (a:=s.heap.objs.size) (o:=.own (s.heap.objs.size+1)) (h':=s.heap.push PySem.W.emptyDict) (t':=s.toks) (fun b u q=>Heap.get?_push_of_some _ q) (Nat.le_refl _) ⟨_,e1⟩;refine I1.laid (a:=s.heap.objs.size+1) (o:=.ins C s.heap.objs.size []) (t':=s.toks) (fun b u q=>Heap.get?_push_of_some _ q) (Nat.le_of_eq (Heap.size_push _ _)) ?_;have ne:s.heap.objs.size≠s.heap.objs.size+1:=Nat.ne_of_lt (Nat.lt_succ_self _);refine⟨by rw[qG ne,qI],Nat.zero_le _,ne,e2,fun _=>none,(Heap.Ns1.of_empty e3).at fun o q=>Heap.get?_push_of_some _ q,fun _=>True.intro,fun y hy=>absurd rfl hy⟩
theorem qRU{prog:Program}{w:World}{env:Env}{e:Expr}{f:Str}{pos:Pos}{s:Shared}{Q:Value->Shared->Prop}(hb:attributeBase e f env (eval e env)=eval e env)
  (h:wpAny (model prog w) A (eval e env) (fun o s₁=>wpAny (model prog w) A (getAttr o f true) Q E s₁) E s):wpAny (model prog w) A (eval (.Attribute e f pos) env) Q E s:=
 Attribute_any_ h (by rw[arm_eval_Attribute,hb])
end
def qFO(K:PySem.W.Frag)(ta:TE)(f:Str):TE:=fun σ H Q=>ta σ H fun x H1=>∃ a C dx fs v,x=.ref a/\H1 a=some (.ins C dx fs)/\Cls K C/\NoAttr K C f/\fs.lookup f=some v/\Q v H1
def qGL(K:PySem.W.Frag)(ta tv:TE)(f:Str):TS:=fun D σ H=>tv σ H fun y H1=>ta σ H1 fun x H2=>∃ a C dx fs,x=.ref a/\H2 a=some (.ins C dx fs)/\Cls K C/\NoAttr K C f/\fs.length<1000 /\
 D.nx σ (upd H2 a (.ins C dx (putF f y fs)))
section
variable {X:Cx}{o e value:Expr}{f:Str}{pos pos' tpos:Pos}{ta tv:TE}
theorem pe_fld(he:PE X e ta)(hb:attributeBase e f X.env (eval e X.env)=eval e X.env):PE X (.Attribute e f pos) (qFO X.K ta f):=by
 intro pins s σ H Q I h;refine qRU hb (thn (he pins s σ H _ I h) fun u s1 ⟨x,H1,I1,rx,a,C,dx,fs,v,ex,ea,c,n,l,q⟩=>?_);subst ex;obtain rfl:u=Value.ref a:=rx;exact qL7 I1 ea c n l fun u' s2 I2 ru=>⟨v,H1,I2,ru,q⟩
theorem ps_fld(ha:PE X o ta)(hv:PE X value tv)(hs:swapsWith value (some (.Attribute o f pos')) pos.line X.env=pure false):PS X (.Assign [.Attribute o f pos'] value pos) (qGL X.K ta tv f):=by
 intro pins s σ H D I h;refine plainObj_wpAny_Assign_Attribute (thn (hv pins s σ H _ I h) fun u s1 ⟨y,H1,I1,ry,q⟩=>thn (ha pins s1 σ H1 _ I1 q) fun ov s2 ⟨x,H2,I2,rx,a,C,dx,fs,ex,ea,c,n,l,q2⟩=>?_) hs;subst ex;obtain rfl:ov=Value.ref a:=rx;exact qFr I2 ea c n l ry fun s3 I3=>⟨σ,_,I3,q2⟩
end
section
variable {X:Cx}{pins:List (Addr × Obj)}{σ:St}{H:Hp}{s:Shared}{A:Around}{E:Value->Shared->Prop}{Q:Value->Shared->Prop}{c:Value}{b:Bool}
end
structure Room (k:Nat) (A:Around):Prop where
 hd:A.handled=none
 dp:A.depth+3*k+5<recursionLimit
 un:A.units+16*k+200<cLine
theorem Room.mono{j k:Nat}{A:Around}(r:Room k A)(h:j<=k):Room j A:=⟨r.hd,by have:=r.dp;omega,by have:=r.un;omega⟩
theorem Room.deeper{k:Nat}{A:Around}(r:Room (k+1) A)(env:Env):Room k (A.deeper env):=
 ⟨r.hd,by have:=r.dp;show A.depth+1+3*k+5<_;omega,by have:=r.un;show A.units+3+16*k+200<_;omega⟩
theorem qJC {A:Around} {C:Addr} {us:List Value} {kw:List (Str × Value)}:(A.under (.builtin "type.__call__" ⟨.ref C::us,kw⟩)).depth=A.depth+1:=by
 first | rfl | simp[Around.under,Code.weight,Code.isCreation,Code.isGuard,Code.isCaller,Code.frames,Code.isFrame,guardIds]
theorem qJA {A:Around} {C:Addr} {us:List Value} {kw:List (Str × Value)}:(A.under (.builtin "type.__call__" ⟨.ref C::us,kw⟩)).units=A.units+1:=by
 first | rfl | simp[Around.under,Code.cUnits,Code.frames,Code.isFrame]
theorem Room.make {k:Nat} {A:Around} (r:Room (k+1) A) (C:Addr) (us:List Value) (kw:List (Str × Value)):Room k (A.under (.builtin "type.__call__" ⟨.ref C::us,kw⟩)):=
 ⟨r.hd,by have:=r.dp;rw[qJC];omega,by have:=r.un;rw[qJA];omega⟩
theorem Room.depth{k:Nat}{A:Around}(r:Room k A):A.depth<recursionLimit:=by have:=r.dp;omega
theorem Room.units{k:Nat}{A:Around}(r:Room k A):A.units+64<cLine:=by have:=r.un;omega
def tNil:TA:=fun _ H Q=>Q [] H
def tCons(ta:TE)(tr:TA):TA:=fun σ H Q=>ta σ H fun x H1=>tr σ H1 fun xs H2=>Q (x::xs) H2
section
variable {X:Cx}{e:Expr}{es:List Expr}{te:TE}{t:TA}{pos:Pos}
theorem pa_nil:PA X [] tNil:=fun _ _ _ _ H Q I h=>Calls.spliced_nil ⟨[],H,I,.nil,h⟩
theorem pa_cons(ha:PE X e te)(hr:PA X es t)(hs:starEach (e::es) X.env=(false,eval e X.env)::starEach es X.env:=by rfl):PA X (e::es) (tCons te t):=by
 intro pos pins s σ H Q I h;rw[hs];show wpAny _ _ (spliced ((false,eval e X.env)::backTo pos (starEach es X.env))) _ _ s;refine Calls.spliced_cons (thn (ha pins s σ H _ I h) fun u s1 ⟨x,H1,I1,r1,q1⟩=>?_);exact thn (hr pos pins s1 σ H1 _ I1 q1) fun us s2 ⟨xs,H2,I2,r2,q2⟩=>⟨x::xs,H2,I2,.cons r1 r2,q2⟩
def qFD(t:TA):TE:=fun σ H Q=>t σ H fun xs H1=>xs.length<=sizeLine/\∀ p,H1 p=none->Q (.ref p) (upd H1 p (.tup xs))
def qFL(t:TA):TE:=fun σ H Q=>t σ H fun xs H1=>xs.length<=sizeLine/\∀ p,H1 p=none->Q (.ref p) (upd H1 p (.lst xs))
theorem pe_tup{x1}(h:PA X es t):PE X (.Tuple es x1 pos) (qFD t):=by
 intro pins s σ H Q I hq;refine wpAny_Tuple_spliced (thn (h pos pins s σ H _ I hq) fun us s1 ⟨xs,H1,I1,r,z,q⟩=>⟨by rw[<- r.length];exact z,?_⟩);have hf:H1 s1.heap.objs.size=none:=I1.hok.fresh (Nat.le_refl _);refine⟨.ref s1.heap.objs.size,upd H1 s1.heap.objs.size (.tup xs),I1.laid (t':=s1.toks) (fun b u e=>Heap.get?_push_of_some _ e) (Nat.le_refl _) ?_,rfl,q _ hf⟩
 exact⟨z,us,r,⟨_,Heap.get?_push_size _ rfl,rfl,_,rfl⟩⟩
theorem pe_lst(h:PA X es t):PE X (.List es pos) (qFL t):=by
 intro pins s σ H Q I hq;refine wpAny_List_spliced (thn (h pos pins s σ H _ I hq) fun us s1 ⟨xs,H1,I1,r,z,q⟩=>⟨by rw[<- r.length];exact z,?_⟩);have hf:H1 s1.heap.objs.size=none:=I1.hok.fresh (Nat.le_refl _);refine⟨.ref s1.heap.objs.size,upd H1 s1.heap.objs.size (.lst xs),I1.laid (t':=s1.toks) (fun b u e=>Heap.get?_push_of_some _ e) (Nat.le_refl _) ?_,rfl,q _ hf⟩
 exact⟨z,us,0,r,Heap.get?_push_size _ rfl⟩
end
abbrev Sp:=List V->Hp->VK->XK->Prop
abbrev CXT:=List Env->Hp->Shared->XK->Value->Shared->Prop
structure Env0 (P:Program) (w:World) (K:PySem.W.Frag) (mg:Str->Option Value) (base:Heap) (A:Around) (outer:List Env) (s:Shared) (H:Hp):Prop where
 frames:A.frames=some outer
 mod:Mod K mg base
 bs:∀ b o,base.get? b=some o->s.heap.get? b=some o/\H b=none
 bsz:base.objs.size<=s.heap.objs.size
 funs:s.heap.FunFrames base outer
 frf:∀ b∈frs outer,H b=none
 hok:HOk P w H s.heap
 bare:AllBare s.gens
def CE(outer:List Env)(P:Program)(w:World)(H:Hp)(s:Shared)(Q:VK)(u:Value)(s':Shared):Prop:=
 ∃ v H',s'.os=s.os/\AllBare s'.gens/\Un (frs outer) [] H H' s.heap s'.heap/\HOk P w H' s'.heap/\RelV v u/\Q v H'
def CR(CX:CXT)(outer:List Env)(P:Program)(w:World)(H:Hp)(s:Shared)(Q:VK)(E:XK)(r:Result)(s':Shared):Prop:=
 match r with
 | .ok (.ret u)=>CE outer P w H s Q u s'
 | .ok _=>False
 | .error e=>CX outer H s E e s'
structure FnOk (P:Program) (w:World) (K:PySem.W.Frag) (mg:Str->Option Value) (base:Heap) (CX:CXT) (k:Nat) (f:Addr) (fd:FuncData) (ps:List Str) (sp:Sp):Prop where
 len:∀ vs H Q E,sp vs H Q E->vs.length=ps.length
 run:∀ (A:Around) (outer:List Env) (s:Shared) (H:Hp) (args:Args) (us:List Value) (vs:List V) (Q:VK) (E:XK),Room k A->Env0 P w K mg base A outer s H->BindsTo s fd args (ps.zip us)->Vals vs us->sp vs H Q E ->
  codeAny (model P w) A (.call (.ref f) args) (CR CX outer P w H s Q E) s
theorem Env0.make{P:Program}{w:World}{K:PySem.W.Frag}{mg:Str->Option Value}{base:Heap}{A:Around}{outer:List Env}{s:Shared}{H:Hp}(e:Env0 P w K mg base A outer s H)(C:Addr)(us:List Value)(kw:List (Str × Value)) :
  Env0 P w K mg base (A.under (.builtin "type.__call__" ⟨.ref C::us,kw⟩)) outer s H:=⟨by first | exact e.frames | (simpa [Around.under,Code.envs,Code.isFrame,pushEnvs] using e.frames),e.mod,e.bs,e.bsz,e.funs,e.frf,e.hok,e.bare⟩
section
variable {X:Cx}{pins:List (Addr × Obj)}{σ:St}{H:Hp}{s s':Shared}
theorem Inv.env0(I:Inv X pins σ H s):Env0 X.prog X.w X.K X.mg X.base X.A X.stack s H:=
 ⟨I.ok.frames,I.ok.mod,I.bs,Nat.le_trans I.ok.bsz I.sz,I.stack,I.stkFree,I.hok,I.bare⟩
theorem Inv.after{Q:VK}{u:Value}(I:Inv X pins σ H s)(h:CE X.stack X.prog X.w H s Q u s'):EP X pins σ Q u s':=by
 obtain ⟨v,H',os,bare,un,hok,r,q⟩:=h;obtain ⟨hh,g,d,t,os'⟩:=s';obtain rfl:os'=s.os:=os
 exact⟨v,H',I.call (h':=hh) (g':=g) (d':=d) (t':=t) (ch:=[]) un hok bare (fun b z=>absurd z (by simp)),r,q⟩
end
def Binds(K:PySem.W.Frag)(fd:FuncData)(ps:List Str)(ds:List Value):Prop:=
 ∀ (s:Shared) (us:List Value),K.In s.heap->(us++ds).length=ps.length->BindsTo s fd ⟨us,[]⟩ (ps.zip (us++ds))
theorem Binds.all{K:PySem.W.Frag}{fd:FuncData}{ps:List Str}(h:∀ us:List Value,us.length=ps.length->bindArgs fd ⟨us,[]⟩=pure (ps.zip us)):Binds K fd ps []:=fun s us _ hl=>by
 rw[List.append_nil] at hl ⊢;exact .of_eq (h us hl)
section
variable {X:Cx}{CX:CXT}{k:Nat}{f C:Addr}{fd:FuncData}{ps:List Str}{sp:Sp}{dvs:List V}{ds:List Value}{E:XK}{x m:Str}{p pos apos:Pos}{e o:Expr}{es:List Expr}{ta:TE}{t:TA}
structure Mk (K:PySem.W.Frag) (C f:Addr):Prop where
 makes:PySem.W.makesIn K C=true
 init:PySem.W.findIn K (.ref C) "__init__"=some (some (.ref f))
 fn:PySem.W.isFn K (.ref f)=true
 kp:PySem.W.keepIn K (.ref C)=true
end
section
variable {X:Cx}{CX:CXT}{k:Nat}{f C:Addr}{fd:FuncData}{ps ks:List Str}{sp:Sp}{E:XK}{x m:Str}{p pos apos kpos:Pos}{e o:Expr}{es:List Expr}{kws:List Keyword}{te ta:TE}{t tk:TA}{nm:Option Str}
variable {g:List Value->List Value->List Value}{gV:List V->List V->List V}
end
structure FnScope (N P:List Str) (sc:Scope):Prop where
 kind:sc.kind=.function
 co:sc.isCoroutine=false
 gen:sc.isGenerator=false
 nd:N.Nodup
 pre:N.take P.length=P
 par:∀ x∈P,sc.names.lookup x=some .local\/sc.names.lookup x=some .cell
 nofree:∀ y∈sc.names,y.2≠.free
theorem qDI{kindOf:Str->Option NameKind}{x:Str}:∀ {binds:List (Str × Value)} {m:Str->Option Value},(∀ v,(x,v)∉binds)->bindL kindOf binds m x=m x
 | [],_,_=>rfl
 | (n,v)::r,m,h=>by
  unfold bindL;rw[qDI fun w hw=>h w (List.mem_cons_of_mem _ hw)];split
  ·have:x≠n:=by rintro rfl;exact h v List.mem_cons_self
   simp[this]
  ·rfl
theorem qDK{kindOf:Str->Option NameKind}{x:Str}:∀ {binds:List (Str × Value)} {m:Str->Option Value},(∀ v,(x,v)∉binds)->bindC kindOf binds m x=m x
 | [],_,_=>rfl
 | (n,v)::r,m,h=>by
  unfold bindC;rw[qDK fun w hw=>h w (List.mem_cons_of_mem _ hw)];split
  ·rfl
  ·have:x≠n:=by rintro rfl;exact h v List.mem_cons_self
   simp[this]
theorem qDJ{kindOf:Str->Option NameKind}{x:Str}{v:Value}:∀ {P:List Str} {vs:List Value} {i:Nat} {m:Str->Option Value},P.Nodup->P[i]?=some x->vs[i]?=some v->kindOf x=some .local ->
  bindL kindOf (P.zip vs) m x=some v
 | [],_,_,_,_,h,_,_=>by simp at h
 |_::_,[],_,_,_,_,h,_=>by simp at h
 |p::P,w::vs,0,m,nd,h1,h2,hk=>by
  simp at h1 h2;subst h1;subst h2;show bindL kindOf ((p,w)::P.zip vs) m p=_;unfold bindL;rw[qDI fun v hv=>(List.nodup_cons.mp nd).1 (List.of_mem_zip hv).1,if_pos hk];simp
 |p::P,w::vs,i+1,m,nd,h1,h2,hk=>by
  show bindL kindOf ((p,w)::P.zip vs) m x=_;unfold bindL;exact qDJ (i:=i) (List.nodup_cons.mp nd).2 (by simpa using h1) (by simpa using h2) hk
theorem qDL{kindOf:Str->Option NameKind}{x:Str}{v:Value}:∀ {P:List Str} {vs:List Value} {i:Nat} {m:Str->Option Value},P.Nodup->P[i]?=some x->vs[i]?=some v->kindOf x≠some .local ->
  bindC kindOf (P.zip vs) m x=some v
 | [],_,_,_,_,h,_,_=>by simp at h
 |_::_,[],_,_,_,_,h,_=>by simp at h
 |p::P,w::vs,0,m,nd,h1,h2,hk=>by
  simp at h1 h2;subst h1;subst h2;show bindC kindOf ((p,w)::P.zip vs) m p=_;unfold bindC;rw[qDK fun v hv=>(List.nodup_cons.mp nd).1 (List.of_mem_zip hv).1,if_neg hk];simp
 |p::P,w::vs,i+1,m,nd,h1,h2,hk=>by
  show bindC kindOf ((p,w)::P.zip vs) m x=_;unfold bindC;exact qDL (i:=i) (List.nodup_cons.mp nd).2 (by simpa using h1) (by simpa using h2) hk
def start(N:List Str)(vs:List V):St:=vs.map some++List.replicate (N.length-vs.length) none
def cxOf(CX:CXT)(P:Program)(w:World)(K:PySem.W.Frag)(mg:Str->Option Value)(base:Heap)(N:List Str)(qual:Str)(scope:Scope)(f:Addr)(cd:Value)(A:Around)(outer:List Env)(s:Shared)(H:Hp)(E:XK):Cx where
 prog:=P
 w:=w
 K:=K
 mg:=mg
 base:=base
 A:=A.deeper (envOfC qual scope s.heap.objs.size f cd)
 N:=N
 s₀:=s
 H₀:=H
 env:=envOfC qual scope s.heap.objs.size f cd
 outer:=outer
 stack:=envOfC qual scope s.heap.objs.size f cd::outer
 ex:=[]
 calm:=true
 fn:=fun _=>true
 pn:=[]
 xe:=fun e s'=>wpAny (model P w) (A.deeper (envOfC qual scope s.heap.objs.size f cd)) (leaving (envOfC qual scope s.heap.objs.size f cd) e) (fun _ s''=>CX outer H s E e s'') (fun e' s''=>CX outer H s E e' s'') s'
theorem qC3{sc:Scope}{n:Nat}{x:Str}(h:sc.names.lookup x=some .cell):∃ c,(cellsFrom n sc.names []).lookup x=some c:=by
 have q:=PySem.W.cellsFrom_some sc.names n [] (.inl h);exact Option.isSome_iff_exists.mp q
theorem qKk{CX:CXT}{P:Program}{w:World}{K:PySem.W.Frag}{mg:Str->Option Value}{base:Heap}{N ps:List Str}{qual:Str}{scope:Scope}{f:Addr}{cd:Value}{A:Around}{outer:List Env}{s s1:Shared}{H:Hp}{E:XK}{us:List Value}{vs:List V}
  (S:FnScope N ps scope) (hd:A.handled=none) (e0:Env0 P w K mg base A outer s H) (hl:vs.length=ps.length) (r:Vals vs us)
  (x:InCallC s s.heap.objs.size (bindL (envOfC qual scope s.heap.objs.size f cd).kindOf (ps.zip us) fun _=>none) (cellsFrom (s.heap.objs.size+1) scope.names []) (bindC (envOfC qual scope s.heap.objs.size f cd).kindOf (ps.zip us) fun _=>none) s1) :
  Inv (cxOf CX P w K mg base N qual scope f cd A outer s H E) [] (start N vs) H s1:=by
 have hpl:ps.length<=N.length:=by have:=congrArg List.length S.pre;rw[List.length_take] at this;omega
 obtain ⟨h1,tk,rfl,hk⟩:=x.done;have noA:∀ b:Addr,b∉(cxOf CX P w K mg base N qual scope f cd A outer s H E).ex:=fun b z=>absurd (show b∈([]:List Addr) from z) (by simp)
 refine⟨⟨e0.mod,S.kind,rfl,rfl,Nat.le_refl _,fun y z c h1 h2=>?_,fun y hy=>?_,fun y c _ h=>?_,fun _=>hd,Around.frames_deeper e0.frames,.inr ⟨rfl,rfl⟩,fun b z=>absurd z (noA b),e0.bs,e0.bsz,fun b _ _=>noA b,fun b z=>absurd z (noA b),e0.funs,e0.frf⟩,
  rfl,e0.bare,Un.kept hk,⟨_,x.toInCall.ns,fun i y v h1 h2 h3=>?_⟩,fun y c h=>⟨_,x.cell y c h⟩,e0.hok.fresh (Nat.le_refl _),fun y c h=>?_,fun p hp=>absurd (show p∈([]:List (Addr × Obj)) from hp) (by simp),e0.hok.kept hk,?_⟩
 ·exact name_of_addr x.apart (PySem.mem_of_lookup h1) (PySem.mem_of_lookup h2)
 ·have hy:scope.names.lookup y=some .cell\/scope.names.lookup y=some .free:=hy;rcases hy with hy | hy
  ·exact qC3 hy
  ·exact absurd rfl (S.nofree _ (PySem.mem_of_lookup hy))
 ·exact Nat.le_of_lt (x.above y c (PySem.mem_of_lookup h))
 ·have hi:i<vs.length:=by
   unfold start at h2
   by_cases hi:i<vs.length
   ·exact hi
   ·rw[List.getElem?_append_right (by simpa using hi)] at h2;rw[List.getElem?_replicate] at h2;split at h2 <;> cases h2
  have ha:vs[i]?=some v:=by
   unfold start at h2;rw[List.getElem?_append_left (by simpa using hi),List.getElem?_map] at h2;cases e:vs[i]? with
   |none=>rw[e] at h2;cases h2
   |some a=>rw[e] at h2;cases h2;rfl
  obtain ⟨u,hu,rv⟩:=r.get ha
  have hp:ps[i]?=some y:=by
   rw[<- S.pre,List.getElem?_take_of_lt (by omega)];exact h1
  have ndP:ps.Nodup:=by rw[<- S.pre];exact S.nd.sublist (List.take_sublist _ _)
  refine⟨u,rv,?_⟩;rcases S.par y (List.mem_of_getElem? hp) with k | k
  ·exact .inl ⟨k,qDJ ndP hp hu k⟩
  ·obtain ⟨c,e⟩:=qC3 (n:=s.heap.objs.size+1) k;refine .inr ⟨.inl k,c,e,?_⟩;have q:=x.cell y c e;rw[qDL ndP hp hu (by show scope.names.lookup y≠_;rw[k];decide)] at q;exact q
 ·exact e0.hok.fresh (Nat.le_of_lt (x.above y c (PySem.mem_of_lookup h)))
 ·unfold start;show _=N.length;rw[List.length_append,List.length_map,List.length_replicate];omega
theorem fn_of{CX:CXT}{P:Program}{w:World}{K:PySem.W.Frag}{mg:Str->Option Value}{base:Heap}{k:Nat}{f:Addr}{name qual:Str}{params:Arguments}{body:List Stmt}{scope:Scope}{dV kV doc pm cdv ct oc:Value}{an od:Option Addr}
  {osl:Array (Option Value)} {N ps:List Str} {sp:Sp} (lk:K.lookup f=some ⟨oc,od,.func (PySem.W.fnOf name qual params body scope dV kV doc pm an cdv ct),osl⟩) (hcd:PySem.W.codeIn K cdv qual=true) (S:FnScope N ps scope)
  (len:∀ vs H Q E,sp vs H Q E->vs.length=ps.length)
  (hbody:∀ (A:Around) (outer:List Env) (s:Shared) (H:Hp) (vs:List V) (Q:VK) (E:XK),Room k (A.deeper (envOfC qual scope s.heap.objs.size f cdv))->sp vs H Q E ->
   ∃ t,PSs (cxOf CX P w K mg base N qual scope f cdv A outer s H E) body t/\t { nx:=fun _ H'=>Q .non H',rt:=Q } (start N vs) H) :
  FnOk P w K mg base CX (k+1) f (PySem.W.fnOf name qual params body scope dV kV doc pm an cdv ct) ps sp:=by
 refine⟨len,fun A outer s H args us vs Q E hr e0 hb r hsp=>?_⟩;have hl:=len _ _ _ _ hsp;have KX:K.In s.heap:=e0.mod.kin.keeps fun b o e=>(e0.bs b o e).1;have lim:s.heap.NoLimit:=e0.mod.nolimit.keeps fun b o e=>(e0.bs b o e).1
 have hkind:∀ y∈ps.zip us,scope.names.lookup y.1=some .local\/(scope.names.lookup y.1=some .cell/\((cellsFrom (s.heap.objs.size+1) scope.names []).lookup y.1).isSome=true):=fun⟨n,v⟩ hy=>by
  rcases S.par n (List.of_mem_zip hy).1 with q | q
  ·exact .inl q
  ·exact .inr ⟨q,PySem.W.cellsFrom_some _ _ _ (.inl q)⟩
 refine codeAny_call_function hr.depth (KX _ _ lk) rfl S.co S.gen rfl (PySem.W.codeRec_of KX hcd) (hb _ _ _ _ ?_);refine wpAny_newFunctionEnv_cells S.kind hkind fun env he s1 x=>?_;subst he;refine⟨lim.keeps x.toInCall.keep,codeAny_func ?_⟩;obtain ⟨t,ht,hq⟩:=hbody A outer s H vs Q E (hr.deeper _) hsp;have I:Inv (cxOf CX P w K mg base N qual scope f cdv A outer s H E) [] (start N vs) H s1:=qKk S hr.hd e0 hl r x;refine wpAny_mono (ht [] s1 (start N vs) H _ I hq) (fun fl s' hs=>?_) fun e s' hs=>hs
 have fin:∀ {σ':St} {H':Hp} {v:V} {u:Value},Inv (cxOf CX P w K mg base N qual scope f cdv A outer s H E) [] σ' H' s'->RelV v u->Q v H'->CE outer P w H s Q u s':=
  fun {σ' H' v u} J rv q=>⟨v,H',J.os,J.bare,J.base,J.hok,rv,q⟩
 cases fl with
 |ret u=>obtain ⟨v,σ',H',J,rv,q⟩:=hs;exact fin J rv q
 |next=>obtain ⟨σ',H',J,q⟩:=hs;exact fin (v:=V.non) (u:=Value.none) J rfl q
 |brk=>obtain ⟨_,_,_,q⟩:=hs;exact False.elim q
 |cont=>obtain ⟨_,_,_,q⟩:=hs;exact False.elim q
section
variable {X:Cx}{x:Str}{p pos:Pos}{e:Expr}{es:List Expr}{t:TA}{id T:String}{r:List V->Hp->VK->Prop}
def tCB(r:List V->Hp->VK->Prop)(t:TA):TE:=fun σ H Q=>t σ H fun vs H1=>r vs H1 Q
theorem pe_callB (hc:qL X (.builtin id) r) (hg:Gl X x) (hm:X.mg x=none) (hv:bootBuiltins x=some (.builtin id)) (ha:PA X (e::es) t) (hn:x≠"__name__":=by decide) (hdb:(x == ("__debug__":Str))=false:=by decide)
  (he:starEach (e::es) X.env=(false,eval e X.env)::starEach es X.env:=by rfl) (hpl:(backTo pos (starEach es X.env)).any (·.1)=false:=by rfl):PE X (.Call (.Name x p) (e::es) [] pos) (tCB r t):=by
 intro pins s σ H Q I h;refine wpAny_Call_Name_kw (ld_blt I hg hm hv ?_ hn hdb);exact PyProof.Rows.callWith_builtin1 (thn (ha pos pins s σ H _ I h) fun us s1 ⟨vs,H1,I1,r1,q1⟩=>hc pins s1 σ H1 vs us Q I1 r1 q1) he hpl
theorem pe_callTy (hc:qL X (.type T) r) (hg:Gl X x) (hm:X.mg x=none) (hv:bootBuiltins x=some (.type T)) (ha:PA X (e::es) t) (hn:x≠"__name__":=by decide) (hdb:(x == ("__debug__":Str))=false:=by decide)
  (he:starEach (e::es) X.env=(false,eval e X.env)::starEach es X.env:=by rfl) (hpl:(backTo pos (starEach es X.env)).any (·.1)=false:=by rfl):PE X (.Call (.Name x p) (e::es) [] pos) (tCB r t):=by
 intro pins s σ H Q I h;refine wpAny_Call_Name_kw (ld_blt I hg hm hv ?_ hn hdb);exact PyProof.Rows.callWith_type1 (thn (ha pos pins s σ H _ I h) fun us s1 ⟨vs,H1,I1,r1,q1⟩=>hc pins s1 σ H1 vs us Q I1 r1 q1) he hpl
end
end L2
namespace HT
open PySem PyProof.Rows
section
open PySem.SeqAt
open PySem.AutoSeq1 (wpAny_loadPart')
open PySem.MeetsSeq PySem.MeetsSeq2 PySem.MeetsSeq3
end
section
variable {prog:Program}{w:World}{A:Around}{E:Value->Shared->Prop}{s:Shared}
theorem cat_tup{t b:Addr}{vs ws:List Value}{Q:Value->Shared->Prop}(ht:IsTup s.heap t vs.toArray)(hb:IsTup s.heap b ws.toArray)(hv:vs≠[])
  (h1:ws=[]->Q (.ref t) s) (h2:ws≠[]->Q (.ref s.heap.objs.size) { s with heap:=s.heap.push { cls:=.type "tuple",data:=.seq (vs++ws).toArray } })
  (hsz:vs.length+ws.length<=sizeLine):wpAny (model prog w) A (binaryOp .Add (.ref t) (.ref b)) Q E s:=by
 obtain ⟨⟨cls,dd,data,sl⟩,ho,hc,n,hd⟩:=id ht;obtain ⟨⟨bF,dd2,data2,sl2⟩,ho2,hc2,n2,hd2⟩:=id hb;simp only at hc hd hc2 hd2;subst hc hd hc2 hd2;have e:vs.toArray++ws.toArray=(vs++ws).toArray:=by simp
 by_cases hw:ws=[]
 ·exact concat_meets ⟨_,ho,rfl⟩ ⟨_,ho2,rfl⟩ noFill_tuple_add seq_tuple_add PySem.F.slot_tuple_add PySem.F.entry_tuple_add (PySem.F.args_tuple_add_2 _ _)
   (tuple_addW1 t b vs.toArray ws.toArray n n2 dd dd2 sl sl2 (by simpa using hv) (by simp[hw])) ⟨ho,ho2,h1 hw⟩
 ·refine concat_meets ⟨_,ho,rfl⟩ ⟨_,ho2,rfl⟩ noFill_tuple_add seq_tuple_add PySem.F.slot_tuple_add PySem.F.entry_tuple_add (PySem.F.args_tuple_add_2 _ _)
   (tuple_addW2 t b vs.toArray ws.toArray n n2 dd dd2 sl sl2 (by simpa using hv) (by simpa using hw) (by rw[List.size_toArray,List.size_toArray];exact hsz)) ⟨ho,ho2,?_⟩
  rw[e];exact h2 hw
def sIx(n d:Nat):Option Int->Nat
 |none=>d
 |some v=>if v<0 then (v+(n:Int)).toNat else min v.toNat n
theorem sIx_le(n d:Nat)(hd:d<=n)(o:Option Int):sIx n d o<=n:=by
 cases o with
 |none=>exact hd
 |some v=>
  show (if v<0 then (v+(n:Int)).toNat else min v.toNat n)<=n
  by_cases hv:v<0
  ·rw[if_pos hv];omega
  ·rw[if_neg hv];exact Nat.min_le_right _ _
theorem qC0(v:Int)(n d:Nat):(if v<0 then max (v+(n:Int)) 0 else min v (n:Int))=((sIx n d (some v):Nat):Int):=by
 show (if v<0 then max (v+(n:Int)) 0 else min v (n:Int))=(((if v<0 then (v+(n:Int)).toNat else min v.toNat n):Nat):Int)
 by_cases hv:v<0
 ·simp only[if_pos hv];omega
 ·simp only[if_neg hv];omega
theorem qRd(lo hi:Option Int)(n:Nat):Builtin.Slice.sliceAdjust lo hi 1 (n:Int)=(((sIx n 0 lo:Nat):Int),((sIx n n hi:Nat):Int)):=by
 have h1:¬ ((1:Int)<0):=by omega
 unfold Builtin.Slice.sliceAdjust;simp only[h1,if_false];refine Prod.ext ?_ ?_
 ·cases lo with
  |none=>rfl
  |some v=>exact qC0 v n 0
 ·cases hi with
  |none=>rfl
  |some v=>exact qC0 v n n
theorem qGi(i j:Nat):Builtin.Slice.slicePlaces (i:Int) (j:Int) 1=j-i:=by
 unfold Builtin.Slice.slicePlaces;have h1:(1:Int) > 0:=by omega
 simp only[h1,if_true,Int.ediv_one]
 split <;> omega
theorem qAR{v:Value}{o:Option Int}{Q:Option Int->Shared->Prop}(p:IsPart v o)(h:Q o s):wpAny (model prog w) A (Builtin.Slice.slicePartIndex v) Q E s:=by
 cases p with
 |none=>exact slicePart_none h
 |int i t=>exact slicePart_int h
theorem qAS{sl:Addr}{vl vu:Value}{lo hi:Option Int}{n:Nat}{Q:Int × Int × Nat->Shared->Prop}(hs:s.heap.IsSliceOf sl vl vu .none)(pl:IsPart vl lo)(pu:IsPart vu hi)
  (h:Q (((sIx n 0 lo:Nat):Int),1,sIx n n hi-sIx n 0 lo) s):wpAny (model prog w) A (Builtin.Slice.sliceApplied (.ref sl) (pure (n:Int))) Q E s:=by
 obtain ⟨os,hos,hcs,hds⟩:=id hs;unfold Builtin.Slice.sliceApplied Builtin.Slice.sliceFields;refine wpAny_bind (wpAny_bind (wpAny_field hos hds (x:=vl) rfl (wpAny_bind (wpAny_field hos hds (x:=vu) rfl (wpAny_bind (wpAny_field hos hds (x:=.none) rfl (wpAny_pure ?_)))))));refine wpAny_bind (slicePart_none ?_);show wpAny _ _ (if ((1:Int) == 0)=true then _ else _) _ _ s;rw[if_neg (by decide)];refine wpAny_bind (qAR pl (wpAny_bind (qAR pu (wpAny_bind (wpAny_pure ?_)))));show wpAny _ _ (match Builtin.Slice.sliceAdjust lo hi 1 (n:Int) with | (lo,hi)=>pure (lo,(1:Int),Builtin.Slice.slicePlaces lo hi 1)) _ _ s;rw[qRd lo hi n];show wpAny _ _ (pure (((sIx n 0 lo:Nat):Int),(1:Int),Builtin.Slice.slicePlaces ((sIx n 0 lo:Nat):Int) ((sIx n n hi:Nat):Int) 1)) _ _ s;rw[qGi];exact wpAny_pure h
theorem qGj(xs:Array Value)(i k:Nat):((List.range k).filterMap fun (m:Nat)=>xs[((i:Int)+(m:Int)*1).toNat]?).toArray=((xs.toList.drop i).take k).toArray:=by
 have e:(fun (m:Nat)=>xs[((i:Int)+(m:Int)*1).toNat]?)=fun m=>xs[i+m]?:=by
  funext m
  have:((i:Int)+(m:Int)*1).toNat=i+m:=by omega
  rw[this]
 rw[e]
 have:=pick_run xs i k
 rw[List.filterMap_map] at this;have e2:((fun x=>xs[x]?) ∘ fun x=>i+x)=fun m=>xs[i+m]?:=rfl;rw[e2] at this;rw[this]
theorem getItem_tuple_cut{t sl:Addr}{items:Array Value}{vl vu:Value}{lo hi:Option Int}{Q:Value->Shared->Prop}(ht:IsTup s.heap t items)(hs:s.heap.IsSliceOf sl vl vu .none)(pl:IsPart vl lo)(pu:IsPart vu hi)
  (hw:¬ (sIx items.size 0 lo=0/\sIx items.size items.size hi=items.size))
  (h:Q (.ref s.heap.objs.size) { s with heap:=s.heap.push { cls:=.type "tuple",data:=.seq ((items.toList.drop (sIx items.size 0 lo)).take (sIx items.size items.size hi-sIx items.size 0 lo)).toArray } })
  (hsz:items.size<=sizeLine):wpAny (model prog w) A (getItem (.ref t) (.ref sl)) Q E s:=by
 have htake:sizeOk (.seq ((items.toList.drop (sIx items.size 0 lo)).take (sIx items.size items.size hi-sIx items.size 0 lo)).toArray):=by
  show ((items.toList.drop (sIx items.size 0 lo)).take (sIx items.size items.size hi-sIx items.size 0 lo)).toArray.size<=sizeLine;rw[List.size_toArray,List.length_take,List.length_drop,Array.length_toList];omega
 have hj:sIx items.size items.size hi<=items.size:=sIx_le _ _ (Nat.le_refl _) hi;obtain ⟨os,hos,hcs,hds⟩:=id hs;have hTs:s.TypeIs (.ref sl) "slice":=⟨os,hos,hcs⟩;unfold getItem
 try with_reducible refine wpAny_holding ?_
 first | refine wpAny_bind (wpAny_pure ?_) | skip
 refine wpAny_bind (wpAny_sequenceKey ht.typeIs (by decide) ?_)
 refine wpAny_bind (wpAny_callSpecial?_slot (name:=Str.ofString "__getitem__") ht.typeIs PyProof.Rows.slot_tuple_getitem
  (wpAny_call_entry PyProof.Rows.slot_tuple_getitem ht.typeIs entry_tuple_getitem ?_ (args_tuple_getitem _ _)))
 show wpAny _ _ (Builtin.Tuple.tupleItemsOf (.ref t) >>= _) _ _ s;refine wpAny_bind (tupleItemsOf_ ht ?_);refine wpAny_bind (wpAny_typeOf hTs ?_);rw[if_pos (by decide)];refine wpAny_bind (qAS hs pl pu ?_)
 have hno:¬ ((((sIx items.size 0 lo:Nat):Int) == 0&&(1:Int) == 1&&(sIx items.size items.size hi-sIx items.size 0 lo) == items.size)=true):=by
  intro q;rw[Bool.and_eq_true,Bool.and_eq_true] at q;have q1:((sIx items.size 0 lo:Nat):Int)=0:=eq_of_beq q.1.1;have q2:sIx items.size items.size hi-sIx items.size 0 lo=items.size:=eq_of_beq q.2;exact hw ⟨by omega,by omega⟩
 show wpAny _ _ (if (((sIx items.size 0 lo:Nat):Int) == 0&&(1:Int) == 1&&(sIx items.size items.size hi-sIx items.size 0 lo) == items.size)=true then _ else _) _ _ s;rw[if_neg hno,qGj]
 first
  |exact wpAny_bind (m:=Builtin.Tuple.tupleExact _) (wpAny_newObj_type (wpAny_pure ⟨_,rfl,wpAny_pure h⟩) htake)
  |exact wpAny_bind (m:=Builtin.Tuple.tupleExact _) (wpAny_newObj_type (wpAny_bind (wpAny_pure (wpAny_pure ⟨_,rfl,wpAny_pure h⟩))) htake)
  |exact wpAny_bind (wpAny_bind (m:=Builtin.Tuple.tupleExact _) (wpAny_newObj_type (wpAny_pure (wpAny_pure ⟨_,rfl,wpAny_pure h⟩)) htake))
  |exact wpAny_bind (wpAny_bind (m:=Builtin.Tuple.tupleExact _) (wpAny_newObj_type (wpAny_pure ⟨_,rfl,wpAny_pure h⟩) htake))
end
end HT
namespace L2
open PySem PySem.Spec PyProof.Rows
abbrev TO:=St->Hp->(Option Int->Hp->Prop)->Prop
def PO(X:Cx)(e:Option Expr)(t:TO):Prop:=
 ∀ (pins:List (Addr × Obj)) (s:Shared) (σ:St) (H:Hp) (Q:Option Int->Hp->Prop),Inv X pins σ H s->t σ H Q ->
  wpAny (model X.prog X.w) X.A (evalPart e X.env) (fun u s'=>∃ o H',Inv X pins σ H' s'/\IsPart u o/\Q o H') X.xe s
def qFK:TO:=fun _ H Q=>Q none H
def qFH(t:TE):TO:=fun σ H Q=>t σ H fun x H1=>∃ i,x=.int i/\Q (some i) H1
theorem intsAre_of{ns:List Int}:∀ {us:List Value},Vals (ns.map V.int) us->IntsAre us ns:=by
 induction ns with
 |nil=>intro us r;rw[List.map_nil] at r;cases r;exact .nil
 |cons n ns ih=>
  intro us r;rw[List.map_cons] at r;cases r with
  |cons r1 r2=>obtain ⟨t,e⟩:=r1;subst e;exact .cons n t (ih r2)
section
variable {X:Cx}{e:Expr}{te:TE}{lo hi:Option Expr}{tl th:TO}{pos p2:Pos}
theorem po_none:PO X none qFK:=by
 intro pins s σ H Q I h;rw[evalPart_none];exact wpAny_pure ⟨none,H,I,.none,h⟩
theorem po_some(h:PE X e te):PO X (some e) (qFH te):=by
 intro pins s σ H Q I hw;rw[evalPart_some];refine thn (h pins s σ H _ I hw) fun u s1 ⟨x,H1,I1,r1,q1⟩=>?_;obtain ⟨i,rfl,q⟩:=q1;obtain ⟨t,rfl⟩:=r1
 exact⟨some i,H1,I1,.int i t,q⟩
def SlR(X:Cx)(r:V->Option Int->Option Int->Hp->VK->Prop):Prop:=
 ∀ (pins:List (Addr × Obj)) (s:Shared) (σ:St) (H:Hp) (x:V) (v vl vu:Value) (lo hi:Option Int) (sl:Addr) (Q:VK),Inv X pins σ H s->RelV x v->s.heap.IsSliceOf sl vl vu .none->IsPart vl lo->IsPart vu hi->r x lo hi H Q ->
  ∃ T id,typeLookup (.type T) "__getitem__"=pure (some (.builtin id))/\s.TypeIs v T/\wpAny (model X.prog X.w) X.A (getItem v (.ref sl)) (EP X pins σ Q) X.xe s
def tSl(r:V->Option Int->Option Int->Hp->VK->Prop)(te:TE)(tl th:TO):TE:=fun σ H Q=>te σ H fun x H1=>tl σ H1 fun l H2=>th σ H2 fun u H3=>r x l u H3 Q
theorem pe_slice{r:V->Option Int->Option Int->Hp->VK->Prop}(hr:SlR X r)(he:PE X e te)(hl:PO X lo tl)(hu:PO X hi th):PE X (.Subscript e (.Slice lo hi none p2) pos) (tSl r te tl th):=by
 intro pins s σ H Q I h;refine Subscript_ (thn (he pins s σ H _ I h) fun v s1 ⟨x,H1,I1,r1,q1⟩=>?_);refine wpAny_Slice (thn (hl pins s1 σ H1 _ I1 q1) fun vl s2 ⟨l,H2,I2,pl,q2⟩=>thn (hu pins s2 σ H2 _ I2 q2) fun vu s3 ⟨u,H3,I3,pu,q3⟩=>?_);rw[evalPart_none];refine wpAny_pure ?_;have I4:Inv X pins σ H3 { s3 with heap:=s3.heap.push { cls:=.type "slice",data:=.fields #[vl,vu,.none] } }:=I3.kept (t':=s3.toks) fun b ob q=>Heap.get?_push_of_some _ q;obtain ⟨T,id,hT,ht,hg⟩:=hr pins { s3 with heap:=s3.heap.push { cls:=.type "slice",data:=.fields #[vl,vu,.none] } } σ H3 x v vl vu l u s3.heap.objs.size Q I4 r1 (Heap.IsSliceOf.new ..) pl pu q3;show wpAny (model X.prog X.w) X.A (subscriptTail e (.Slice lo hi none p2) v (.ref s3.heap.objs.size)) (EP X pins σ Q) X.xe { s3 with heap:=s3.heap.push { cls:=.type "slice",data:=.fields #[vl,vu,.none] } };exact tail_any (ops:=[.ref s3.heap.objs.size,v]) ht hT hg (by with_unfolding_all rfl)
def cutV(xs:List V)(lo hi:Option Int):List V:=(xs.drop (HT.sIx xs.length 0 lo)).take (HT.sIx xs.length xs.length hi-HT.sIx xs.length 0 lo)
theorem qCq(xs:List V)(lo hi:Option Int):(cutV xs lo hi).length<=xs.length:=by
 unfold cutV;rw[List.length_take,List.length_drop];omega
def qGU(K:PySem.W.Frag):V->Option Int->Option Int->Hp->VK->Prop:=fun x lo hi H Q=>∃ a xs,x=.ref a/\SqT K H a xs /\
 ¬ (HT.sIx xs.length 0 lo=0/\HT.sIx xs.length xs.length hi=xs.length)/\∀ p,H p=none->Q (.ref p) (upd H p (.tup (cutV xs lo hi)))
theorem sl_tup:SlR X (qGU X.K):=by
 intro pins s σ H x v vl vu lo hi sl Q I rx hs pl pu h;obtain ⟨a,xs,rfl,hx,hw,q⟩:=h;cases rx;obtain ⟨its,r,ht,hz⟩:=I.tuple hx;have hlen:its.toArray.size=xs.length:=by rw[List.size_toArray];exact r.length.symm
 refine⟨"tuple",_,PyProof.Rows.slot_tuple_getitem.lookup,ht.typeIs,?_⟩;refine HT.getItem_tuple_cut ht hs pl pu (by rw[hlen];exact hw) ?_ (by rw[hlen];exact hz);rw[hlen];refine⟨.ref s.heap.objs.size,_,I.laid (t':=s.toks) (o:=.tup (cutV xs lo hi)) (fun b ob q=>Heap.get?_push_of_some _ q) (Nat.le_refl _) ?_,rfl,q _ (I.hok.fresh (Nat.le_refl _))⟩
 exact⟨Nat.le_trans (qCq xs lo hi) hz,_,(r.drop (HT.sIx xs.length 0 lo)).take (HT.sIx xs.length xs.length hi-HT.sIx xs.length 0 lo),IsTup.new _ _⟩
def qGb(K:PySem.W.Frag):R2:=fun x y H Q=>∃ a b xs ys,x=.ref a/\y=.ref b/\SqT K H a xs/\SqT K H b ys/\xs≠[]/\xs.length+ys.length<=sizeLine /\
 (ys=[]->Q (.ref a) H)/\(ys≠[]->∀ p,H p=none->Q (.ref p) (upd H p (.tup (xs++ys))))
theorem Vals.nil_iff{xs:List V}{us:List Value}(r:Vals xs us):us=[]↔xs=[]:=by
 cases r with
 |nil=>simp
 |cons _ _=>simp
theorem op_catT:OpR X (binaryOp .Add) (qGb X.K):=by
 intro pins s σ H x y v u Q I rx ry h;obtain ⟨a,b,xs,ys,rfl,rfl,ha,hb,hx,hz,q1,q2⟩:=h;cases rx;cases ry;obtain ⟨its,r1,p1,_⟩:=I.tuple ha;obtain ⟨its2,r2,p2,_⟩:=I.tuple hb;refine HT.cat_tup p1 p2 (fun z=>hx (r1.nil_iff.mp z)) (fun z=>⟨.ref a,H,I,rfl,q1 (r2.nil_iff.mp z)⟩) (fun z=>?_) (by rw[<- r1.length,<- r2.length];exact hz);refine⟨.ref s.heap.objs.size,_,I.laid (t':=s.toks) (o:=.tup (xs++ys)) (fun b ob q=>Heap.get?_push_of_some _ q) (Nat.le_refl _) ?_,rfl,q2 (fun w=>z (r2.nil_iff.mpr w)) _ (I.hok.fresh (Nat.le_refl _))⟩
 exact⟨by rw[List.length_append];exact hz,_,r1.append r2,IsTup.new _ _⟩
end
def ixN(n:Nat)(i:Int):Option Nat:=if 0<=i then (if i<n then some i.toNat else none) else if -(n:Int)<=i then some (i+n).toNat else none
def atI{α:Type}(xs:List α)(i:Int):Option α:=(ixN xs.length i).bind fun j=>xs[j]?
theorem qB5{n:Nat}{i:Int}{j:Nat}(h:ixN n i=some j):seqIndex? i n=some j/\j<n/\-(n:Int)<=i/\i<n:=by
 unfold ixN at h
 by_cases h0:0<=i
 ·rw[if_pos h0] at h
  by_cases h1:i<n
  ·rw[if_pos h1] at h;have e:i.toNat=j:=Option.some.inj h
   exact⟨by rw[seqIndex_of h0 h1,e],by omega,by omega,h1⟩
  ·rw[if_neg h1] at h;cases h
 ·rw[if_neg h0] at h
  by_cases h1:-(n:Int)<=i
  ·rw[if_pos h1] at h;have e:(i+n).toNat=j:=Option.some.inj h
   exact⟨by rw[seqIndex_neg (by omega) h1,e],by omega,h1,by omega⟩
  ·rw[if_neg h1] at h;cases h
theorem tF{α:Type}{xs:List α}{i:Int}{v:α}(h:atI xs i=some v):∃ j,seqIndex? i xs.length=some j/\xs[j]?=some v/\j<xs.length/\-(xs.length:Int)<=i/\i<xs.length:=by
 unfold atI at h;cases e:ixN xs.length i with
 |none=>rw[e] at h;cases h
 |some j=>
  rw[e] at h;obtain ⟨h1,h2,h3,h4⟩:=qB5 e
  exact⟨j,h1,h,h2,h3,h4⟩
def PlainIx(b:Expr):Prop:=∀ o i,subscripted b false o i=operate [o,i] (getItem o i)
def IxR(X:Cx)(r:R2):Prop:=
 ∀ (value slice:Expr) (pins:List (Addr × Obj)) (s:Shared) (σ:St) (H:Hp) (x y:V) (v u:Value) (Q:VK),Inv X pins σ H s->RelV x v->RelV y u->r x y H Q ->
  subscripted slice false v u=operate [v,u] (getItem v u)->wpAny (model X.prog X.w) X.A (subscriptTail value slice v u) (EP X pins σ Q) X.xe s
def MtR(X:Cx)(id:String)(r:V->List V->Hp->VK->Prop):Prop:=
 ∀ (pins:List (Addr × Obj)) (s:Shared) (σ:St) (H:Hp) (x:V) (xs:List V) (v:Value) (us:List Value) (Q:VK),Inv X pins σ H s->RelV x v->Vals xs us->r x xs H Q ->
  wpAny (model X.prog X.w) X.A (call (.builtin id) (v::us)) (EP X pins σ Q) X.xe s
section
variable {X:Cx}{a b:Expr}{ta tb:TE}{pos:Pos}
theorem pe_ix{r:R2}(hr:IxR X r)(ha:PE X a ta)(hb:PE X b tb)(hs:PlainIx b):PE X (.Subscript a b pos) (tOp r ta tb):=by
 intro pins s σ H Q I h;exact Subscript_ (nU ha hb I h fun v u s2 x y H2 I2 rx ry q=>hr a b pins s2 σ H2 x y v u Q I2 rx ry q (hs _ _))
def qGY(K:PySem.W.Frag):R2:=fun x y H Q=>∃ p xs i v,x=.ref p/\y=.int i/\SqL K H p xs/\atI xs i=some v/\Q v H
def qGW(K:PySem.W.Frag):R2:=fun x y H Q=>∃ p xs i v,x=.ref p/\y=.int i/\SqT K H p xs/\atI xs i=some v/\Q v H
def qGX:R2:=fun x y H Q=>∃ z i c,x=.str z/\y=.int i/\z.length<=sizeLine/\atI z.cps.toList i=some c/\Q (.str ⟨#[c]⟩) H
theorem ix_list:IxR X (qGY X.K):=by
 intro value slice pins s σ H x y v u Q I rx ry h hs;obtain ⟨p,xs,i,z,rfl,rfl,hq,he,q⟩:=h;cases rx;obtain ⟨t,rfl⟩:=ry;obtain ⟨its,r,pl,hz⟩:=I.list hq;obtain ⟨j,h1,h2,h3,h4,h5⟩:=tF he;obtain ⟨w,ew,rw'⟩:=r.get h2;have hl:=r.length;have hn:=yA;have fin:EP X pins σ Q w s:=⟨z,H,I,rw',q⟩
 by_cases h0:0<=i
 ·have hj:i.toNat=j:=by
   rw[seqIndex_of h0 h5] at h1;exact Option.some.inj h1
  exact item_listR pl.isList h0 (by omega) (by rw[hj];simpa using ew) fin hs
 ·have hj:(i+(its.toArray.size:Int)).toNat=j:=by
   rw[seqIndex_neg (by omega) h4] at h1;rw[List.size_toArray,<- hl];exact Option.some.inj h1
  exact subscriptTail_builtinR (x:=w) pl.isList.typeIs slot_list_getitem.lookup
   (wpAny_getItem_list_neg (Q:=fun r s'=>r=w/\EP X pins σ Q r s') pl.isList (by omega) (by rw[List.size_toArray] <;> omega) (by omega) (by rw[hj];simpa using ew) ⟨rfl,fin⟩) hs
theorem ix_tup:IxR X (qGW X.K):=by
 intro value slice pins s σ H x y v u Q I rx ry h hs;obtain ⟨p,xs,i,z,rfl,rfl,hq,he,q⟩:=h;cases rx;obtain ⟨t,rfl⟩:=ry;obtain ⟨its,r,pl,hz⟩:=I.tuple hq;obtain ⟨j,h1,h2,h3,h4,h5⟩:=tF he;obtain ⟨w,ew,rw'⟩:=r.get h2;have hl:=r.length;have hn:=yA;have fin:EP X pins σ Q w s:=⟨z,H,I,rw',q⟩
 exact subscriptTail_builtinR (x:=w) pl.typeIs slot_tuple_getitem.lookup
  (getItem_tuple (j:=j) (Q:=fun r s'=>r=w/\EP X pins σ Q r s') pl (by omega) (by omega) (by rw[List.size_toArray,<- hl];exact h1) (by simpa using ew) ⟨rfl,fin⟩) hs
theorem ix_str:IxR X qGX:=by
 intro value slice pins s σ H x y v u Q I rx ry h hs;obtain ⟨z,i,c,rfl,rfl,hz,he,q⟩:=h;obtain ⟨t,rfl⟩:=rx;obtain ⟨t',rfl⟩:=ry;obtain ⟨j,h1,h2,h3,h4,h5⟩:=tF he;have hl:z.cps.toList.length=z.length:=by simp[Str.length]
 rw[hl] at h1 h4 h5;have hn:=yA
 exact tail_any (typeIs_str s z t) slot_str_getitem.lookup (getItem_str (c:=c) (by
  have e1:decide (i < -(2 ^ 63:Int))=false:=decide_eq_false (by omega);have e2:decide (i ≥ 2 ^ 63)=false:=decide_eq_false (by omega)
  rw[e1,e2,Bool.or_false]) (by rw[h1];simpa using h2) ⟨.str ⟨#[c]⟩,H,I.tok _,⟨_,rfl⟩,q⟩) hs
theorem qI7(its:List Value)(n j:Nat)(u:Value):Obj.mapSeq (·.setIfInBounds j u) { cls:=.type "list",data:=.seq its.toArray n }={ cls:=.type "list",data:=.seq (its.set j u).toArray n }:=by
 simp[Obj.mapSeq]
theorem Inv.lst{pins:List (Addr × Obj)}{σ:St}{H:Hp}{s:Shared}{p:Addr}{xs:List V}(I:Inv X pins σ H s)(h:H p=some (.lst xs)) :
  ∃ (its:List Value) (n:Nat),Vals xs its/\s.heap.get? p=some { cls:=.type "list",data:=.seq its.toArray n }/\xs.length<=sizeLine:=by
 obtain ⟨z,its,n,r,e⟩:=I.hok p _ h
 exact⟨its,n,r,e,z⟩
theorem Inv.lstUpd{pins:List (Addr × Obj)}{σ:St}{H:Hp}{s:Shared}{p:Addr}{xs ys:List V}{its its':List Value}{n n':Nat}{f:Obj->Obj}(I:Inv X pins σ H s)(h:H p=some (.lst xs))
  (ho:s.heap.get? p=some { cls:=.type "list",data:=.seq its.toArray n }) (hf:f { cls:=.type "list",data:=.seq its.toArray n }={ cls:=.type "list",data:=.seq its'.toArray n' }) (r:Vals ys its') (hz:ys.length<=sizeLine) (t:Nat) :
  Inv X pins σ (upd H p (.lst ys)) { s with heap:=s.heap.update p f,toks:=t }:=by
 have e:(s.heap.update p f).get? p=some { cls:=.type "list",data:=.seq its'.toArray n' }:=by
  rw[Heap.get?_update_self f ho (by rw[hf] <;> rfl),hf]
 refine I.write (x:=p) (e:=p) (by rw[h];trivial) (.inl rfl) (fun b u hb q=>(Heap.get?_update_other _ _ (Ne.symm hb)).trans q) ⟨_,e⟩ ?_
 exact⟨hz,its',n',r,e⟩
def rSetL:V->V->V->Hp->(Hp->Prop)->Prop:=fun o i v H Q=>∃ p xs k j,o=.ref p/\i=.int k/\H p=some (.lst xs)/\ixN xs.length k=some j/\Q (upd H p (.lst (xs.set j v)))
theorem set_list:PSet X rSetL:=by
 intro pins s σ H o i v ov iv u Q I ro ri rv h;obtain ⟨p,xs,k,j,rfl,rfl,hp,hj,q⟩:=h;cases ro;obtain ⟨t,rfl⟩:=ri;obtain ⟨its,n,r,ho,hz⟩:=I.lst hp;obtain ⟨h1,h2,h3,h4⟩:=qB5 hj;have hl:=r.length;have hn:=yA
 have I':Inv X pins σ (upd H p (.lst (xs.set j v))) { s with heap:=s.heap.update p (Obj.mapSeq (·.setIfInBounds j u)) }:=
  I.lstUpd hp ho (qI7 its n j u) (r.set rv j) (by rw[List.length_set];exact hz) s.toks
 by_cases h0:0<=k
 ·have hk:k.toNat=j:=by
   rw[seqIndex_of h0 h4] at h1;exact Option.some.inj h1
  exact PySem.W.ki_setAt ho h0 (by omega) (by rw[List.size_toArray,<- hl];exact h4) (by rw[hk];exact⟨_,I',q⟩)
 ·have hk:(k+(its.toArray.size:Int)).toNat=j:=by
   rw[seqIndex_neg (by omega) h3] at h1;rw[List.size_toArray,<- hl];exact Option.some.inj h1
  exact PySem.W.ki_setBack ho (by omega) (by rw[List.size_toArray,<- hl];exact h3) (by omega) (by rw[hk];exact⟨_,I',q⟩)
theorem qFn(lo hi:Option Int)(n:Nat):(sliceBounds lo hi none n).1=((HT.sIx n 0 lo:Nat):Int)/\(sliceBounds lo hi none n).2.1=((HT.sIx n n hi:Nat):Int)/\(sliceBounds lo hi none n).2.2=1:=by
 refine⟨?_,?_,rfl⟩
 ·cases lo with
  |none=>simp[sliceBounds,HT.sIx]
  |some i=>
   simp only[sliceBounds,HT.sIx,Option.getD_none,show (1:Int) > 0 by decide,if_true]
   by_cases h:i<0
   ·simp only[h,if_true] <;> omega
   ·simp only[h,if_false] <;> omega
 ·cases hi with
  |none=>simp[sliceBounds,HT.sIx]
  |some i=>
   simp only[sliceBounds,HT.sIx,Option.getD_none,show (1:Int) > 0 by decide,if_true]
   by_cases h:i<0
   ·simp only[h,if_true] <;> omega
   ·simp only[h,if_false] <;> omega
theorem qFo(its:List Value)(lo hi:Option Int):slicePick its.toArray lo hi none=((its.drop (HT.sIx its.length 0 lo)).take (HT.sIx its.length its.length hi-HT.sIx its.length 0 lo)).toArray:=by
 obtain ⟨h1,h2,h3⟩:=qFn lo hi its.toArray.size;unfold slicePick;rw[h1,h2,h3];simp only[sliceRange_one,pick_run,List.size_toArray] <;> rfl
def qGV(K:PySem.W.Frag):V->Option Int->Option Int->Hp->VK->Prop:=fun x lo hi H Q=>∃ a xs,x=.ref a/\SqL K H a xs/\∀ p,H p=none->Q (.ref p) (upd H p (.lst (cutV xs lo hi)))
theorem sl_list:SlR X (qGV X.K):=by
 intro pins s σ H x v vl vu lo hi sl Q I rx hs pl pu h;obtain ⟨a,xs,rfl,hx,q⟩:=h;cases rx;obtain ⟨its,r,ht,hz⟩:=I.list hx;have hlen:=r.length;refine⟨"list",_,slot_list_getitem.lookup,ht.isList.typeIs,?_⟩;refine wpAny_getItem_list_slice ht.isList hs pl pu .none (by simp) ?_ (by rw[List.size_toArray] <;> omega);rw[qFo,<- hlen];refine⟨.ref s.heap.objs.size,_,I.laid (t':=s.toks) (o:=.lst (cutV xs lo hi)) (fun b ob q=>Heap.get?_push_of_some _ q) (Nat.le_refl _) ?_,rfl,q _ (I.hok.fresh (Nat.le_refl _))⟩
 exact⟨Nat.le_trans (qCq xs lo hi) hz,_,0,(r.drop (HT.sIx xs.length 0 lo)).take (HT.sIx xs.length xs.length hi-HT.sIx xs.length 0 lo),Heap.get?_push_size _ rfl⟩
def flatV:V->Bool
 | .non=>true
 | .bl _=>true
 | .int _=>true
 | .str _=>true
 |_=>false
def eqV:V->V->Bool
 | .non,.non=>true
 | .bl a,.bl b=>a == b
 | .bl a,.int b=>(if a then 1 else 0) == b
 | .int a,.bl b=>a == (if b then 1 else 0)
 | .int a,.int b=>a == b
 | .str a,.str b=>a == b
 |_,_=>false
theorem qMM{A:Around}{s:Shared}{y x:V}{u v:Value}(ry:RelV y u)(rx:RelV x v)(fy:flatV y=true)(fx:flatV x=true):SeqAt.EqAt A s u v (eqV y x):=by
 cases y with
 |non=>
  cases ry;cases x with
  |non=>cases rx;exact SeqAt.EqAt.same _
  |bl b=>cases rx;exact SeqAt.EqAt.none_bool b
  |int b=>obtain ⟨t,rfl⟩:=rx;exact SeqAt.EqAt.none_int b t
  |str b=>obtain ⟨t,rfl⟩:=rx;exact SeqAt.EqAt.none_str b t
  |_=>exact absurd (show false=true from fx) Bool.false_ne_true
 |bl a=>
  cases ry;cases x with
  |non=>cases rx;exact SeqAt.EqAt.bool_none a
  |bl b=>cases rx;exact SeqAt.EqAt.bool_bool a b
  |int b=>obtain ⟨t,rfl⟩:=rx;exact SeqAt.EqAt.bool_int a b t
  |str b=>obtain ⟨t,rfl⟩:=rx;exact SeqAt.EqAt.bool_str a b t
  |_=>exact absurd (show false=true from fx) Bool.false_ne_true
 |int a=>
  obtain ⟨t',rfl⟩:=ry;cases x with
  |non=>cases rx;exact SeqAt.EqAt.int_none a t'
  |bl b=>cases rx;exact SeqAt.EqAt.int_bool a t' b
  |int b=>obtain ⟨t,rfl⟩:=rx;exact SeqAt.EqAt.int_int a t' b t
  |str b=>obtain ⟨t,rfl⟩:=rx;exact SeqAt.EqAt.int_str a t' b t
  |_=>exact absurd (show false=true from fx) Bool.false_ne_true
 |str a=>
  obtain ⟨t',rfl⟩:=ry;cases x with
  |non=>cases rx;exact SeqAt.EqAt.str_none a t'
  |bl b=>cases rx;exact SeqAt.EqAt.str_bool a t' b
  |int b=>obtain ⟨t,rfl⟩:=rx;exact SeqAt.EqAt.str_int a t' b t
  |str b=>obtain ⟨t,rfl⟩:=rx;exact SeqAt.EqAt.str_str a t' b t
  |_=>exact absurd (show false=true from fx) Bool.false_ne_true
 |_=>exact absurd (show false=true from fy) Bool.false_ne_true
def eqU(x:V)(u:Value):Bool:=match u with
 | .none=>eqV .non x
 | .bool b=>eqV (.bl b) x
 | .int i _=>eqV (.int i) x
 | .str z _=>eqV (.str z) x
 |_=>false
theorem qCk{x y:V}{u:Value}(r:RelV y u)(f:flatV y=true):eqU x u=eqV y x:=by
 cases y with
 |non=>cases r;rfl
 |bl b=>cases r;rfl
 |int i=>obtain ⟨t,rfl⟩:=r;rfl
 |str z=>obtain ⟨t,rfl⟩:=r;rfl
 |_=>exact absurd (show false=true from f) Bool.false_ne_true
theorem tG{x:V}:∀ {xs:List V} {us:List Value},Vals xs us->xs.all flatV=true->us.any (eqU x)=xs.any fun y=>eqV y x
 |_,_,.nil,_=>rfl
 |y::xs,u::us,.cons r t,f=>by
  rw[List.all_cons,Bool.and_eq_true] at f;rw[List.any_cons,List.any_cons,qCk r f.1,tG t f.2]
theorem eK{A:Around}{s:Shared}{x:V}{v:Value}(rx:RelV x v)(fx:flatV x=true):∀ {xs:List V} {us:List Value},Vals xs us->xs.all flatV=true->∀ u∈us,SeqAt.EqAt A s u v (eqU x u)
 |_,_,.nil,_=>fun u hu=>by cases hu
 |y::xs,u::us,.cons r t,f=>fun u' hu=>by
  rw[List.all_cons,Bool.and_eq_true] at f;rcases List.mem_cons.mp hu with rfl | hu
  ·rw[qCk r f.1];exact qMM r rx f.1 fx
  ·exact eK rx fx t f.2 u' hu
def inV(x:V)(xs:List V):Bool:=xs.any fun y=>eqV y x
def rIn(K:PySem.W.Frag)(neg:Bool):R2:=fun x y H Q=>∃ p xs,y=.ref p/\(SqL K H p xs\/SqT K H p xs)/\flatV x=true/\xs.all flatV=true/\Q (.bl (if neg then !inV x xs else inV x xs)) H
theorem op_notIn_seq:OpR X (compareOp .NotIn) (rIn X.K true):=by
 intro pins s σ H x y v u Q I rx ry h;obtain ⟨p,xs,rfl,hq,fx,fs,q⟩:=h;cases ry;rcases hq with hq | hq
 ·obtain ⟨its,r,pl,hz⟩:=I.list hq;refine SeqAt.notIn_listAt (eqU x) pl.isList (fun w hw=>eK rx fx r fs w (by simpa using hw)) ⟨.bl _,H,I,rfl,?_⟩;rw[show its.toArray.any (eqU x)=its.any (eqU x) by simp,tG r fs];exact q
 ·obtain ⟨its,r,pl,hz⟩:=I.tuple hq;refine SeqAt.notIn_tupleAt (eqU x) pl (fun w hw=>eK rx fx r fs w (by simpa using hw)) ⟨.bl _,H,I,rfl,?_⟩;rw[show its.toArray.any (eqU x)=its.any (eqU x) by simp,tG r fs];exact q
theorem call_list_of:qL X (.type "list") (fun xs H Q=>∃ p ys,xs=[.ref p]/\(SqL X.K H p ys\/SqT X.K H p ys)/\∀ l,H l=none->Q (.ref l) (upd H l (.lst ys))):=by
 intro pins s σ H xs us Q I r h;obtain ⟨p,ys,rfl,hq,q⟩:=h;obtain ⟨u,rfl,rx⟩:=vals1 r;cases rx
 have fin:∀ (its:List Value),Vals ys its->ys.length<=sizeLine->∀ (h':Heap) (c':Nat),(∀ b o',s.heap.get? b=some o'->h'.get? b=some o') ->
   h'.get? s.heap.objs.size=some { cls:=.type "list",dict:=none,data:=.seq its.toArray c',slots:=#[] }->EP X pins σ Q (.ref s.heap.objs.size) { s with heap:=h' }:=fun its r' hz h' c' kp e=>
  ⟨.ref s.heap.objs.size,_,I.laid (t':=s.toks) kp (Nat.le_refl _) (show ObjOk X.prog X.w _ h' _ (.lst ys) from ⟨hz,its,c',r',e⟩),rfl,q _ (I.hok.fresh (Nat.le_refl _))⟩
 rcases hq with hq | hq
 ·obtain ⟨its,r',pl,hz⟩:=I.list hq;have hlen:=r'.length;obtain ⟨o,ho,hc,n,hd⟩:=pl.isList;exact call_list_seq p (.inl rfl) ho hc hd (fun h' c' kp e=>fin its r' hz h' c' kp e) (by simp only[List.size_toArray] <;> omega)
 ·obtain ⟨its,r',pl,hz⟩:=I.tuple hq;have hlen:=r'.length;obtain ⟨o,ho,hc,n,hd⟩:=pl;exact call_list_seq p (.inr rfl) ho hc hd (fun h' c' kp e=>fin its r' hz h' c' kp e) (by simp only[List.size_toArray] <;> omega)
theorem call_tuple_of:qL X (.type "tuple") (fun xs H Q=>∃ p ys,xs=[.ref p]/\((SqL X.K H p ys/\∀ l,H l=none->Q (.ref l) (upd H l (.tup ys)))\/(SqT X.K H p ys/\Q (.ref p) H))):=by
 intro pins s σ H xs us Q I r h;obtain ⟨p,ys,rfl,h⟩:=h;obtain ⟨u,rfl,rx⟩:=vals1 r;cases rx;rcases h with⟨hq,q⟩ | ⟨hq,q⟩
 ·obtain ⟨its,r',pl,hz⟩:=I.list hq;have hlen:=r'.length;refine call_tuple_list pl.isList (fun h' kp=>?_) (by simp only[List.size_toArray] <;> omega);have I1:Inv X pins σ H { s with heap:=h' }:=I.kept (t':=s.toks) kp
  have I2:Inv X pins σ (upd H h'.objs.size (.tup ys)) { s with heap:=h'.push { cls:=.type "tuple",data:=.seq its.toArray } }:=
   I1.laid (t':=s.toks) (fun b o e=>Heap.get?_push_of_some _ e) (Nat.le_refl _) (show ObjOk X.prog X.w _ _ _ (.tup ys) from ⟨hz,its,r',IsTup.new _ _⟩)
  exact⟨.ref h'.objs.size,_,I2,rfl,q _ (I1.hok.fresh (Nat.le_refl _))⟩
 ·obtain ⟨its,r',pl,hz⟩:=I.tuple hq;exact call_tuple_same pl ⟨.ref p,H,I,rfl,q⟩
def tyV(K:PySem.W.Frag)(T:String)(x:V)(H:Hp):Prop:=match x with
 | .str _=>T="str"
 | .int _=>T="int"
 | .ref p=>(T="list"/\∃ xs,SqL K H p xs)\/(T="tuple"/\∃ o,K.lookup p=some o/\o.cls=.type "tuple"/\o.dict=none) \/
   (T="dict"/\((∃ kvs,H p=some (.dK kvs))\/∃ kvs,H p=some (.dT kvs)))\/(T="set"/\∃ S n,H p=some (.set S n))
 |_=>False
theorem qEt{pins:List (Addr × Obj)}{σ:St}{H:Hp}{s:Shared}{T:String}{x:V}{v:Value}(I:Inv X pins σ H s)(r:RelV x v)(ty:tyV X.K T x H) :
  s.TypeIs v T/\∀ a,v=.ref a->∃ ob,s.heap.get? a=some ob/\ob.dict=none:=by
 cases x with
 |str z=>
  obtain ⟨t,rfl⟩:=r;cases (show T="str" from ty)
  exact⟨typeIs_str s z t,fun _ e=>nomatch e⟩
 |int i=>
  obtain ⟨t,rfl⟩:=r;cases (show T="int" from ty)
  exact⟨typeIs_int s i t,fun _ e=>nomatch e⟩
 |ref p=>
  cases r;rcases ty with⟨rfl,xs,hq⟩ | ⟨rfl,o,hk,hc,hd⟩ | ⟨rfl,hk⟩ | ⟨rfl,S,n,hk⟩
  ·obtain ⟨its,_,pl,_⟩:=I.list hq;refine⟨pl.isList.typeIs,fun a e=>?_⟩;cases e;obtain ⟨o,n,e,c,hd,_⟩:=pl
   exact⟨o,e,hd⟩
  ·refine⟨⟨o,I.kIn p o hk,hc⟩,fun a e=>?_⟩;cases e
   exact⟨o,I.kIn _ o hk,hd⟩
  ·have z:∃ o,s.heap.get? p=some o/\o.ExactDict:=by
    rcases hk with⟨kvs,hk⟩ | ⟨kvs,hk⟩
    ·obtain ⟨_,_,_,_,o,_,_,e,ex,_⟩:=I.hok p _ hk
     exact⟨o,e,ex⟩
    ·obtain ⟨_,_,_,_,o,_,_,e,ex,_⟩:=I.hok p _ hk
     exact⟨o,e,ex⟩
   obtain ⟨o,e,ex⟩:=z;refine⟨⟨o,e,ex.1⟩,fun a e2=>?_⟩;cases e2
   exact⟨o,e,ex.2.1⟩
  ·obtain ⟨o,_,_,_,e,ex,_⟩:=I.hok p _ hk;refine⟨⟨o,e,ex.1⟩,fun a e2=>?_⟩;cases e2
   exact⟨o,e,ex.2.1⟩
 |_=>exact False.elim ty
def tBM(K:PySem.W.Frag)(T:String)(r:V->List V->Hp->VK->Prop)(to:TE)(t:TA):TE:=fun σ H Q=>to σ H fun x H1=>tyV K T x H1/\t σ H1 fun xs H2=>r x xs H2 Q
variable {o e:Expr}{es:List Expr}{to:TE}{t:TA}{name:Str}{apos cpos:Pos}{T id:String}{r:V->List V->Hp->VK->Prop}
theorem pe_bm (pa:PlainAttrs T) (slot:Slot T name id) (hty:typeOf (.builtin id)=pure (.type "method_descriptor")) (hm:MtR X id r) (ho:PE X o to) (ha:PA X (e::es) t)
  (hbase:attributeBase o name X.env (eval o X.env)=eval o X.env:=by rfl)
  (hfew:((backTo cpos (starEach (e::es) X.env)).all (fun x=>!x.1)&&(backToKw cpos (keywordEach [] X.env)).all (fun x=>x.1.isSome)
  &&decide ((e::es).length+([]:List Keyword).length+(if ([]:List Keyword).isEmpty then 0 else 1)<30))=true:=by rfl)
  (hline:(apos.endLine == cpos.line)=true:=by rfl) (hs:starEach (e::es) X.env=(false,eval e X.env)::starEach es X.env:=by rfl) (hplain:(backTo cpos (starEach es X.env)).any (·.1)=false:=by rfl) :
  PE X (.Call (.Attribute o name apos) (e::es) [] cpos) (tBM X.K T r to t):=by
 intro pins s σ H Q I h;refine wpAny_Call_method_late hbase hfew hline rfl (thn (ho pins s σ H _ I h) fun v s1 ⟨x,H1,I1,r1,ty,q1⟩=>?_);obtain ⟨h1,h2⟩:=qEt I1 r1 ty;refine⟨T,id,pa,slot,hty,h1,h2,?_⟩;have hA:=ha cpos pins s1 σ H1 _ I1 q1;rw[hs] at hA ⊢;refine Calls.callWith_builtin (by show (false || (backTo cpos (starEach es X.env)).any (·.1))=false;rw[hplain] <;> rfl) (Calls.evalArgs_plain ?_);exact thn hA fun us s2 ⟨vs,H2,I2,r2,q2⟩=>hm pins s2 σ H2 x vs v us Q I2 r1 r2 q2
end
def MtM(X:Cx)(id:String)(r:V->List V->Hp->VK->Prop):Prop:=
 ∀ (pins:List (Addr × Obj)) (s:Shared) (σ:St) (H:Hp) (x:V) (xs:List V) (v:Value) (us:List Value) (Q:VK),Inv X pins σ H s->RelV x v->Vals xs us->r x xs H Q ->
  wpAny (model X.prog X.w) X.A (call (.builtin id) (v::us)) (EP X pins σ Q) X.xe s
theorem Vals.one:∀ {x:V} {us:List Value},Vals [x] us->∃ u,us=[u]/\RelV x u
 |_,_,.cons r .nil=>⟨_,rfl,r⟩
theorem Vals.two:∀ {x y:V} {us:List Value},Vals [x,y] us->∃ u v,us=[u,v]/\RelV x u/\RelV y v
 |_,_,_,.cons r (.cons q .nil)=>⟨_,_,rfl,r,q⟩
section
variable {X:Cx}{pins:List (Addr × Obj)}{σ:St}{H:Hp}{s:Shared}{l b:Addr}{xs ys zs:List V}
theorem Inv.lset{its its':List Value}{n:Nat}{f:Array Value->Array Value}{t':Nat}(I:Inv X pins σ H s)(hH:H l=some (.lst xs))
  (e:s.heap.get? l=some { cls:=.type "list",data:=.seq its.toArray n }) (hf:f its.toArray=its'.toArray) (hv:Vals ys its') (hz:ys.length<=sizeLine) :
  Inv X pins σ (upd H l (.lst ys)) { s with heap:=s.heap.update l (Obj.mapSeq f),toks:=t' }:=by
 have q:=PySem.IsL.update e f;rw[hf] at q;refine I.write (x:=l) (e:=l) (by rw[hH];exact trivial) (.inl rfl) (fun b' u hb hu=>(Heap.get?_update_other s.heap (Obj.mapSeq f) (Ne.symm hb)).trans hu) ⟨_,q⟩ ?_
 exact⟨hz,its',_,hv,q⟩
theorem Inv.lnew{its:List Value}{t':Nat}(I:Inv X pins σ H s)(hv:Vals ys its)(hz:ys.length<=sizeLine) :
  Inv X pins σ (upd H s.heap.objs.size (.lst ys)) { s with heap:=s.heap.push { cls:=.type "list",data:=.seq its.toArray },toks:=t' }:=
 I.laid (fun _ _ q=>Heap.get?_push_of_some _ q) (Nat.le_refl _) ⟨hz,its,0,hv,Heap.get?_push_size _ rfl⟩
theorem Inv.fresh(I:Inv X pins σ H s):H s.heap.objs.size=none:=I.hok.fresh (Nat.le_refl _)
theorem Inv.lstM(I:Inv X pins σ H s)(hH:H l=some (.lst xs)):xs.length<=sizeLine/\∃ (its:List Value) (n:Nat),Vals xs its/\xs.length=its.length/\s.heap.get? l=some { cls:=.type "list",data:=.seq its.toArray n }:=by
 obtain ⟨z,its,n,r,e⟩:=I.hok l _ hH
 exact⟨z,its,n,r,r.length,e⟩
theorem qHg{n:Nat}(h:n<=sizeLine):Builtin.List.listTooLong n=false:=by
 unfold Builtin.List.listTooLong;exact decide_eq_false (by omega)
end
section
variable {X:Cx}
def qGd:V->List V->Hp->VK->Prop:=fun x vs H Q=>∃ l xs y,x=.ref l/\vs=[y]/\H l=some (.lst xs)/\xs.length<sizeLine/\Q .non (upd H l (.lst (xs++[y])))
theorem mt_append:MtM X "list.append" qGd:=by
 intro pins s σ H x vs v us Q I rx rv h;obtain ⟨l,xs,y,rfl,rfl,hH,hz,q⟩:=h;cases rx;obtain ⟨u,rfl,ru⟩:=rv.one;obtain ⟨z,its,n,r,hl,e⟩:=I.lstM hH;refine call_meets F.slot_list_append ⟨_,e,rfl⟩ F.entry_list_append (F.args_list_append_2 _ _) (PySem.list_append l its.toArray n u (by rw[List.size_toArray];omega)) ⟨e,?_⟩;refine⟨.non,_,I.lset (its':=its++[u]) hH e (by simp) (r.append (.cons ru .nil)) ?_,rfl,q⟩;rw[List.length_append,List.length_singleton];omega
def qGa:V->List V->Hp->VK->Prop:=fun x vs H Q=>∃ l b xs zs,x=.ref l/\vs=[.ref b]/\H l=some (.lst xs)/\H b=some (.lst zs)/\xs.length+zs.length<=sizeLine/\Q .non (upd H l (.lst (xs++zs)))
theorem mt_extend:MtM X "list.extend" qGa:=by
 intro pins s σ H x vs v us Q I rx rv h;obtain ⟨l,b,xs,zs,rfl,rfl,hH,hB,hz,q⟩:=h;cases rx;obtain ⟨u,rfl,ru⟩:=rv.one;cases ru;obtain ⟨z,its,n,r,hl,e⟩:=I.lstM hH;obtain ⟨z2,its2,n2,r2,hl2,e2⟩:=I.lstM hB;have hsz:its.toArray.size+its2.toArray.size<=sizeLine:=by rw[List.size_toArray,List.size_toArray];omega
 have hlong:¬ (!its.toArray.isEmpty&&Builtin.List.listTooLong (its.toArray.size+its2.toArray.size))=true:=by
  rw[qHg hsz,Bool.and_false];exact Bool.false_ne_true
 refine call_meets F.slot_list_extend ⟨_,e,rfl⟩ F.entry_list_extend (F.args_list_extend_2 _ _)
  (AutoSeq1.list_extend_list_list_0 l its.toArray n b its2.toArray n2 hlong (by rw[List.size_toArray];omega) (by omega)) ⟨e,e2,?_⟩
 refine⟨.non,_,I.lset (its':=its++its2) hH e (by simp) (r.append r2) ?_,rfl,q⟩;rw[List.length_append];omega
def qGc:R2:=fun x y H Q=>∃ l b xs zs,x=.ref l/\y=.ref b/\H l=some (.lst xs)/\H b=some (.lst zs)/\xs.length+zs.length<=sizeLine/\∀ p,H p=none->Q (.ref p) (upd H p (.lst (xs++zs)))
theorem op_cat:OpR X (binaryOp .Add) qGc:=by
 intro pins s σ H x y v u Q I rx ry h;obtain ⟨l,b,xs,zs,rfl,rfl,hH,hB,hz,q⟩:=h;cases rx;cases ry;obtain ⟨z,its,n,r,hl,e⟩:=I.lstM hH;obtain ⟨z2,its2,n2,r2,hl2,e2⟩:=I.lstM hB;refine PySem.P.add_list e e2 ?_ (by rw[List.size_toArray,List.size_toArray];omega);have ea:its.toArray++its2.toArray=(its++its2).toArray:=by simp
 rw[ea]
 exact⟨.ref _,_,I.lnew (t':=s.toks) (r.append r2) (by rw[List.length_append];omega),rfl,q _ I.fresh⟩
end
section
variable {prog:Program}{w:World}{A:Around}{E:Value->Shared->Prop}{s:Shared}
end
section
variable {X:Cx}
end
end L2
namespace Att
open PySem PySem.W PySem.Calls PyProof.Rows
theorem qKl{P:Params}{h:Heap}:∀ (ns:List Int) (vs:List Value),WellAll P h vs (ns.map WData.int)->IntsAre vs ns:=by
 intro ns
 induction ns with
 |nil=>intro vs w;rw[List.map_nil] at w;cases w;exact .nil
 |cons n ns ih=>
  intro vs w;rw[List.map_cons] at w;cases w with
  |cons a b=>cases a;exact .cons _ _ (ih _ b)
theorem qFx{l:OpenLaw}{n:Nat}(hn:l.most=some n){P:Params}{h:Heap}{args:List WData}{vals:List Value}
  (hpre:l.row.toRowW.claim.pre args=true) (hwl:WellAll P h vals args) :
  ∃ a vs ns,vals=[Value.ref a]/\args=[WData.list (ns.map WData.int)]/\h.get? a=some { cls:=.type "list",data:=.seq vs.toArray }/\IntsAre vs ns/\ns.length<=n:=by
 have hsh:WShape.hasAll [] args [.list .int]=true:=(pre_splitW hpre).1;have hc:l.pre.holds [] { args:=args }=true:=(pre_splitW hpre).2;obtain ⟨d,r,rfl,h1,h2⟩:=hasAllW_cons hsh;obtain rfl:=hasAllW_nil h2;obtain ⟨xs,rfl,h3⟩:=hasW_list h1;obtain ⟨ns,rfl⟩:=items_int h3
 have hlen:ns.length<=n:=by
  unfold OpenLaw.pre at hc
  have h4:(WTm.not (.lt (.lit (.int (n:Int))) (.len (.arg 0)))).holds [] { args:=[.list (ns.map .int)] }=true:=by
   have h4:=(holds_andW hc).1;rw[hn] at h4;exact h4
  have h5:=condW_of h4 (w_not (w_lt w_lit (w_len_list (w_arg rfl))));rw[List.length_map] at h5;refine Nat.le_of_not_lt fun q=>?_;have q':(n:Int)<((ns.length:Nat):Int):=by omega
  first
   | (rw[decide_eq_true q'] at h5;exact absurd h5 (by decide))
   | (simp at h5;omega)
 cases hwl with
 |cons w1 w2=>
  cases w2;cases w1 with
  |list ho hall=>exact⟨_,_,ns,rfl,rfl,ho,qKl ns _ hall,hlen⟩
theorem qGf(l:OpenLaw)(args:List WData):l.row.toRowW.claim.post args (.bool true) args=true:=
 postW_of (r:=l.row.toRowW) (X:=(true == true))
  (show WShape.has [] (.bool true) .bool=true by first | rfl | decide | simp[WShape.has,WShape.arms,WShape.armsAll])
  (show (WTm.eq .res (.lit (.bool true))).value [] { args:=args,res:=some (.bool true),after:=args }=some (.bool (true == true)) from w_eq_bool (w_res rfl) w_lit) rfl
theorem attach_call{l:OpenLaw}{n:Nat}{q:Program}{loose:List Str}{XP:(Str->Option Value)->Heap->Prop}{YP:World->Heap->Prop}{d:DefRec}
  (hn:l.most=some n) (hdf:d.params.defaults=[])
  (call:∀ (w:World) (s₀ s₁:Shared) (mg mb:Str->Option Value) (fa:Addr) (o:Obj) (pm cd doc:Value) (a:Addr) (vs:List Value) (ns:List Int),
   Ground q loose [] XP w s₀ mg mb s₁.heap->YP w s₁.heap ->
   s₁.heap.get? fa=some o->o.data=.func (docDef d.name d.params d.body d.scope pm cd doc)->s₁.heap.CodeRec cd d.name->mg d.name=some (.ref fa) ->
   s₁.heap.get? a=some { cls:=.type "list",data:=.seq vs.toArray }->IntsAre vs ns->ns.length<=n->s₁.gens=#[] ->
   codeAny (model l.prog w) callerA (.call (.ref fa) ⟨[.ref a],[]⟩) (fun r s'=>r=.ok (.ret (.bool true))/\OldK s₁.heap s'.heap/\s'.os=s₁.os/\AllBare s'.gens) s₁) :
  WalkO q loose XP YP l.row.toRowW d [] (fun f vs=>PySem.call f vs):=by
 intro w s₀ s₁ mg mb G Y fa o pm cd doc dV kV ho hd hcd hD hmg hg args vals as hpre hlay hrd hwl hlo;obtain rfl:dV=.none:=Dflts.none hD hdf;obtain rfl:kV=.none:=Dflts.noKw hD;obtain ⟨a,vs,ns,rfl,rfl,hobj,hints,hlen⟩:=qFx hn hpre hwl;refine enter_call (codeAny_mono (call w s₀ s₁ mg mb fa o pm cd doc a vs ns G Y ho (fd_plain hd) hcd hmg hobj hints hlen hg) fun r s' hq=>?_);obtain ⟨rfl,h2,h3,h4⟩:=hq
 exact⟨.inl ⟨.bool true,.bool true,[],rfl,fun _=>rfl,.bool true,qGf l _,fun _=>⟨List.Pairwise.nil,fun _ hm=>(nomatch hm)⟩⟩,h2,h3,h4⟩
section
variable {prog:Program}{w:World}{A:Around}{E:Value->Shared->Prop}{s:Shared}{K:Frag}
def qRo(h:Heap)(L d:Addr):List (Addr × Obj):=(List.range h.objs.size).filterMap fun a=>if a=L\/a=d then none else (h.get? a).map fun o=>(a,o)
end
end Att
namespace L2
open PySem PySem.Spec PyProof.Rows
theorem vals_ints:∀ {vs:List Value} {ns:List Int},IntsAre vs ns->Vals (ns.map V.int) vs
 |_,_,.nil=>.nil
 |_,_,.cons n t h=>.cons ⟨t,rfl⟩ (vals_ints h)
def Only(H:Hp):Prop:=∀ b,H b=none\/∃ o xs,H b=some (.frz o (.lst xs))
theorem qJ2{P:Program}{w:World}{K:PySem.W.Frag}{mg mb:Str->Option Value}{CX:CXT}{k:Nat}{fa a:Addr}{fd:FuncData}{x:Str}{sp:Sp}{s₁:Shared}{vs:List Value}{ns:List Int}
  (KX:K.In s₁.heap) (hns:s₁.heap.Ns mainGlobals mg) (hb:s₁.heap.Ns builtinsNs mb) (hbb:∀ x:Str,x≠"__name__"->mb x=bootBuiltins x) (hlim:s₁.heap.NoLimit) (hg:s₁.gens=#[])
  (ha:s₁.heap.get? a=some { cls:=.type "list",data:=.seq vs.toArray }) (hi:IntsAre vs ns) (hl:ns.length<=sizeLine) (hr:Room k callerA)
  (F:∀ base:Heap,K.In base->base.Ns mainGlobals mg->FnOk P w K mg base CX k fa fd [x] sp) (hbind:∀ (s:Shared) (u:Value),BindsTo s fd ⟨[u],[]⟩ [(x,u)])
  (hsp:∀ H:Hp,Only H->SqL K H a (ns.map V.int)->sp [.ref a] H (fun v _=>v=.bl true) fun _ _ _=>False)
  (hCX:∀ H e s',CX [] H s₁ (fun _ _ _=>False) e s'->False) :
  codeAny (model P w) callerA (.call (.ref fa) ⟨[.ref a],[]⟩) (fun r s'=>r=.ok (.ret (.bool true))/\OldK s₁.heap s'.heap/\s'.os=s₁.os/\AllBare s'.gens) s₁:=by
 have rv:=vals_ints hi;have lenV:=hi.length
 have core:∀ H:Hp,Only H->SqL K H a (ns.map V.int)->HOk P w H s₁.heap->(∀ b,H b≠none->b=a)->(H a≠none->K.lookup a=none) ->
   codeAny (model P w) callerA (.call (.ref fa) ⟨[.ref a],[]⟩) (fun r s'=>r=.ok (.ret (.bool true))/\OldK s₁.heap s'.heap/\s'.os=s₁.os/\AllBare s'.gens) s₁:=by
  intro H hO hS hok hA hK;have base_of:∀ {b:Addr} {o:Obj},s₁.heap.get? b=some o->H b=none->(vE s₁.heap H).get? b=some o:=fun e n=>qLq e n
  have noA:∀ {b:Addr} {o:Obj} {es:Array DictEntry} {ep:Nat},s₁.heap.get? b=some o->o.data=.dict es ep->H b=none:=fun {b o es ep} e d=>by
   cases q:H b with
   |none=>rfl
   |some u=>have e':b=a:=hA b (by rw[q];simp);subst e';rw[ha] at e;cases e;have d':Data.seq vs.toArray _=Data.dict es ep:=d;cases d'
  have nsK:∀ {b:Addr} {m:Str->Option Value},s₁.heap.Ns b m->(vE s₁.heap H).Ns b m:=fun {b m} ⟨o,es,ep,e,d,r⟩=>⟨o,es,ep,base_of e (noA e d),d,r⟩
  have hKb:K.In (vE s₁.heap H):=fun b o e=>base_of (KX b o e) (by
   cases q:H b with
   |none=>rfl
   |some u=>
    have e':b=a:=hA b (by rw[q];simp);subst e'
    rw[hK (by rw[q];simp)] at e;cases e)
  have hM:Mod K mg (vE s₁.heap H):=⟨hKb,nsK hns,⟨mb,nsK hb,hbb⟩,let ⟨mc,h1,h2⟩:=hlim;⟨mc,nsK h1,h2⟩⟩;have e0:Env0 P w K mg (vE s₁.heap H) callerA [] s₁ H:=⟨rfl,hM,fun b o e=>qG7 e,Nat.le_of_eq (qLp _ _),trivial,fun b hb=>absurd (show b∈([]:List Addr) from hb) (by simp),hok,.of_eq hg⟩;refine codeAny_mono ((F _ hKb (nsK hns)).run callerA [] s₁ H ⟨[.ref a],[]⟩ [.ref a] [.ref a] _ _ hr e0 (hbind s₁ (.ref a)) (.cons rfl .nil) (hsp H hO hS)) fun r s' h=>?_;cases r with
  |error e=>exact (hCX H e s' h).elim
  |ok fl=>
   cases fl with
   |next=>exact False.elim h
   |brk=>exact False.elim h
   |cont=>exact False.elim h
   |ret u=>
    obtain ⟨v,H',os,bare,un,hok',r',q⟩:=h;have q':v=.bl true:=q;subst q';obtain rfl:u=Value.bool true:=r';refine⟨rfl,OldK.of_keep fun b o e=>?_,os,bare⟩;cases q:H b with
    |none=>exact un.keep b o e q (by intro z;exact absurd (show b∈([]:List Addr) from z) (by simp)) (by simp)
    |some u=>
     rcases hO b with z | ⟨ob,xs,z⟩
     ·rw[q] at z;cases z
     ·have z2:=un.frzs b ob _ z;obtain ⟨e1,_⟩:=hok b _ z;obtain ⟨e2,_⟩:=hok' b _ z2;rw[e] at e1;cases e1;exact e2
 cases hk:K.lookup a with
 |some o=>have e:=KX a o hk;rw[ha] at e;cases e;refine core (fun _=>none) (fun _=>.inl rfl) (.inr ⟨_,vs.toArray,_,hk,rfl,rfl,rfl,by rw[List.size_toArray,lenV];exact hl,by simpa using rv⟩) (fun b u z=>by have z':(none:Option HO)=some u:=z;cases z') (fun b z=>absurd rfl z) fun z=>absurd rfl z
 |none=>
  refine core (fun b=>if b=a then some (.frz { cls:=.type "list",data:=.seq vs.toArray } (.lst (ns.map V.int))) else none) (fun b=>?_) (.inl (.inr ⟨{ cls:=.type "list",data:=.seq vs.toArray },if_pos rfl⟩)) (fun b u z=>?_) (fun b z=>?_) fun _=>hk
  ·by_cases hb:b=a
   ·exact .inr ⟨_,_,if_pos hb⟩
   ·exact .inl (if_neg hb)
  ·by_cases hb:b=a
   ·have z':=(if_pos hb).symm.trans z;cases z';subst hb
    exact⟨ha,by rw[List.length_map];exact hl,vs,_,rv,ha⟩
   ·have z':=(if_neg hb).symm.trans z;cases z'
  ·by_cases hb:b=a
   ·exact hb
   ·exact absurd (if_neg hb) z
abbrev KOf{K:PySem.W.Frag}{h:Heap}(_:K.In h):PySem.W.Frag:=K
theorem walk_of{l:PySem.W.OpenLaw}{n k:Nat}{q:Program}{loose:List Str}{XP:(Str->Option Value)->Heap->Prop}{YP:World->Heap->Prop}{d:DefRec}{K:Params->PySem.W.Frag}{CX:World->CXT}{sp:World->Sp}{x:Str}
  (hn:l.most=some n) (hn2:n<=sizeLine) (hdf:d.params.defaults=[]) (hr:Room k callerA)
  (hY:∀ (w:World) (h:Heap),YP w h->(K w.params).In h)
  (F:∀ (w:World) (mg:Str->Option Value) (fa:Addr) (h:Heap),(K w.params).In h->h.Ns mainGlobals mg->mg d.name=some (.ref fa) ->
   ∃ fd:FuncData,(∀ (s:Shared) (u:Value),BindsTo s fd ⟨[u],[]⟩ [(x,u)]) /\
    ∀ base:Heap,(K w.params).In base->base.Ns mainGlobals mg->FnOk l.prog w (K w.params) mg base (CX w) k fa fd [x] (sp w))
  (hsp:∀ (w:World) (H:Hp) (a:Addr) (ns:List Int),ns.length<=n->Only H->SqL (K w.params) H a (ns.map V.int)->sp w [.ref a] H (fun v _=>v=.bl true) fun _ _ _=>False)
  (hCX:∀ (w:World) (H:Hp) (s:Shared) (e:Value) (s':Shared),CX w [] H s (fun _ _ _=>False) e s'->False) :
  PySem.W.WalkO q loose XP YP l.row.toRowW d [] (fun f vs=>PySem.call f vs):=by
 refine Att.attach_call hn hdf fun w s₀ s₁ mg mb fa o pm cd doc a vs ns G Y ho hd hcd hmg hobj hints hlen hg=>?_;have KX:=hY w _ Y;obtain ⟨fd,hb,hF⟩:=F w mg fa _ KX G.T.g hmg;exact qJ2 KX G.T.g G.T.b G.T.builtins G.T.nolimit hg hobj hints (Nat.le_trans hlen hn2) hr hF hb (fun H hO hS=>hsp w H a ns hlen hO hS) fun H e s'=>hCX w H s₁ e s'
def defArgs(s:Stmt):Arguments:=match s with
 | .FunctionDef _ a _ _ _ _ _ _ _ _=>a
 |_=>{ posonlyargs:=[],args:=[],vararg:=none,kwonlyargs:=[],kw_defaults:=[],kwarg:=none,defaults:=[] }
def defBody(s:Stmt):List Stmt:=match s with
 | .FunctionDef _ _ b _ _ _ _ _ _ _=>b
 |_=>[]
def defScope(s:Stmt):Scope:=match s with
 | .FunctionDef _ _ _ _ _ _ sc _ _ _=>sc
 |_=>{ kind:=.function,names:=[],isGenerator:=false,isCoroutine:=false }
structure Fun (K:PySem.W.Frag) (x qual:Str) (st:Stmt) (f:Addr) (fd:FuncData):Prop where
 ex:∃ (oc:Value) (od:Option Addr) (kV doc pm:Value) (an:Option Addr) (cdv ct:Value) (osl:Array (Option Value)),
  fd=PySem.W.fnOf x qual (defArgs st) (defBody st) (defScope st) .none kV doc pm an cdv ct/\K.lookup f=some ⟨oc,od,.func fd,osl⟩/\PySem.W.codeIn K cdv qual=true
 kp:PySem.W.keepIn K (.ref f)=true
section
variable {P:Program}{w:World}{K:PySem.W.Frag}{mg:Str->Option Value}{base:Heap}
theorem Fun.binds{x qual:Str}{st:Stmt}{f:Addr}{fd:FuncData}{ps:List Str}(F:Fun K x qual st f fd)
  (h:∀ (kV doc pm:Value) (an:Option Addr) (cdv ct:Value) (us:List Value),us.length=ps.length->bindArgs (PySem.W.fnOf x qual (defArgs st) (defBody st) (defScope st) .none kV doc pm an cdv ct) ⟨us,[]⟩=pure (ps.zip us)):Binds K fd ps []:=by
 obtain ⟨oc,od,kV,doc,pm,an,cdv,ct,osl,rfl,lk,hcd⟩:=F.ex;exact .all (h kV doc pm an cdv ct)
theorem fun_mk{x qual:Str}{st:Stmt}{f:Addr}{oc:Value}{od an:Option Addr}{osl:Array (Option Value)}{kV doc pm cdv ct:Value}(l:K.lookup f=some ⟨oc,od,.func (PySem.W.fnOf x qual (defArgs st) (defBody st) (defScope st) .none kV doc pm an cdv ct),osl⟩)
  (c:PySem.W.codeIn K cdv qual=true) (k:PySem.W.keepIn K (.ref f)=true):Fun K x qual st f (PySem.W.fnOf x qual (defArgs st) (defBody st) (defScope st) .none kV doc pm an cdv ct):=⟨⟨oc,od,kV,doc,pm,an,cdv,ct,osl,rfl,l,c⟩,k⟩
end
section
variable {X:Cx}
theorem pv(i:Nat){x:Str}{pos:Pos}(hN:X.N[i]?=some x:=by rfl)(hv:Vis X.env.scope x:=by first | exact Or.inl rfl | exact Or.inr (Or.inl rfl) | exact Or.inr (Or.inr rfl))(hd:(x == ("__debug__":Str))=false:=by decide)
  (hcd:(x == ("__classdict__":Str))=false:=by decide):PE X (.Name x pos) (tVar i):=pe_var hN hv hd hcd
end
theorem iteF{A B:Prop}(h:B):if false=true then A else B:=by
 rw[if_neg Bool.false_ne_true];exact h
theorem iteT{A B:Prop}(h:A):if true=true then A else B:=by
 rw[if_pos rfl];exact h
section
variable {κ:Type}[DecidableEq κ]
def valV(kvs:List (κ × V))(k:κ):Option V:=(kvs.find? fun kv=>decide (kv.1=k)).map (·.2)
def putK(kvs:List (κ × V))(k:κ)(v:V):List (κ × V):=
 if (kvs.any fun kv=>decide (kv.1=k))=true then kvs.map (fun kv=>if kv.1=k then (kv.1,v) else kv) else kvs++[(k,v)]
def dropK(kvs:List (κ × V))(k:κ):List (κ × V):=kvs.filter fun kv=>decide (kv.1≠k)
theorem valV_pos{p:κ × V}{r:List (κ × V)}{k:κ}(e:p.1=k):valV (p::r) k=some p.2:=by simp[valV,List.find?_cons,e]
theorem valV_neg{p:κ × V}{r:List (κ × V)}{k:κ}(e:¬ p.1=k):valV (p::r) k=valV r k:=by simp[valV,List.find?_cons,e]
theorem length_putK(kvs:List (κ × V))(k:κ)(v:V):(putK kvs k v).length<=kvs.length+1:=by
 unfold putK;split
 ·rw[List.length_map];omega
 ·rw[List.length_append,List.length_cons,List.length_nil];omega
theorem RelO.isSome_eq{o:Option V}{u:Option Value}(r:RelO o u):o.isSome=u.isSome:=by
 cases o with
 |none=>cases u with
  |none=>rfl
  |some _=>exact (show False from r).elim
 |some _=>cases u with
  |none=>exact (show False from r).elim
  |some _=>rfl
theorem RelO.getD{o:Option V}{u:Option Value}{d:V}{d':Value}(r:RelO o u)(rd:RelV d d'):RelV (o.getD d) (u.getD d'):=by
 cases o with
 |none=>cases u with
  |none=>exact rd
  |some _=>exact (show False from r).elim
 |some _=>cases u with
  |none=>exact (show False from r).elim
  |some _=>exact r
theorem KV.val{kvs:List (κ × V)}{vs:List (κ × Value)}(r:KV kvs vs)(k:κ):RelO (valV kvs k) (valueAt vs k):=by
 unfold KV at r
 induction r with
 |nil=>exact True.intro
 | @cons p q ps qs h t ih=>
  obtain ⟨h1,h2⟩:=h
  by_cases e:p.1=k
  ·have e':q.1=k:=h1.symm.trans e;have b:valueAt (q::qs) k=some q.2:=by simp[valueAt,List.find?_cons,e']
   rw[valV_pos e,b];exact h2
  ·have e':¬ q.1=k:=fun z=>e (h1.trans z);have b:valueAt (q::qs) k=valueAt qs k:=by simp[valueAt,List.find?_cons,e']
   rw[valV_neg e,b];exact ih
theorem KV.any{kvs:List (κ × V)}{vs:List (κ × Value)}(r:KV kvs vs)(k:κ):(kvs.any fun kv=>decide (kv.1=k))=vs.any fun kv=>decide (kv.1=k):=by
 unfold KV at r
 induction r with
 |nil=>rfl
 |cons h t ih=>rw[List.any_cons,List.any_cons,ih,h.1]
theorem KV.repl{kvs:List (κ × V)}{vs:List (κ × Value)}(r:KV kvs vs)(k:κ){y:V}{u:Value}(ry:RelV y u) :
  KV (kvs.map fun kv=>if kv.1=k then (kv.1,y) else kv) (vs.map fun kv=>if kv.1=k then (kv.1,u) else kv):=by
 unfold KV at r ⊢
 induction r with
 |nil=>exact .nil
 | @cons p q ps qs h t ih=>
  rw[List.map_cons,List.map_cons];refine .cons ?_ ih;obtain ⟨h1,h2⟩:=h
  by_cases e:p.1=k
  ·rw[if_pos e,if_pos (h1.symm.trans e)];exact⟨h1,ry⟩
  ·rw[if_neg e,if_neg (fun z=>e (h1.trans z))];exact⟨h1,h2⟩
theorem KV.put{kvs:List (κ × V)}{vs:List (κ × Value)}(r:KV kvs vs)(k:κ){y:V}{u:Value}(ry:RelV y u):KV (putK kvs k y) (stored vs k u):=by
 unfold putK stored;rw[r.any k]
 by_cases e:(vs.any fun kv=>decide (kv.1=k))=true
 ·rw[if_pos e,if_pos e];exact r.repl k ry
 ·rw[if_neg e,if_neg e];exact Paired.snoc r ⟨rfl,ry⟩
theorem KV.drop{kvs:List (κ × V)}{vs:List (κ × Value)}(r:KV kvs vs)(k:κ):KV (dropK kvs k) (without vs k):=by
 unfold KV at r ⊢;unfold dropK without
 induction r with
 |nil=>exact .nil
 | @cons p q ps qs h t ih=>
  obtain ⟨h1,h2⟩:=h;rw[List.filter_cons,List.filter_cons]
  by_cases e:p.1=k
  ·have a:¬ decide (p.1≠k)=true:=by simp[e]
   have b:¬ decide (q.1≠k)=true:=by simp[h1.symm.trans e]
   rw[if_neg a,if_neg b];exact ih
  ·have e':¬ q.1=k:=fun z=>e (h1.trans z);have a:decide (p.1≠k)=true:=by simp[e]
   have b:decide (q.1≠k)=true:=by simp[e']
   rw[if_pos a,if_pos b];exact .cons ⟨h1,h2⟩ ih
theorem KV.keys{kvs:List (κ × V)}{vs:List (κ × Value)}(r:KV kvs vs):kvs.map (·.1)=vs.map (·.1):=by
 unfold KV at r
 induction r with
 |nil=>rfl
 |cons h t ih=>rw[List.map_cons,List.map_cons,ih,h.1]
theorem KV.length{kvs:List (κ × V)}{vs:List (κ × Value)}(r:KV kvs vs):kvs.length=vs.length:=Paired.length r
end
theorem kV_is{P:Program}{w:World}{k:Key}{u:Value}(r:RelV (kV k) u):(mixKind P w).is k u=true:=by
 cases k with
 |inl i=>obtain ⟨t,e⟩:=(show ∃ t,u=Value.int i t from r);subst e;exact qIs P w i t
 |inr x=>obtain ⟨t,e⟩:=(show ∃ t,u=Value.str x t from r);subst e;exact qIr P w x t
section
variable {P:Program}{w:World}{H:Hp}{h:Heap}{a:Addr}
theorem qGS{u:HO}(ok:HOk P w H h)(e:Rd H a u):ObjOk P w H h a u:=e.ok ok
theorem dk_rd{kvs:List (Key × V)}(ok:HOk P w H h)(e:Rd H a (.dK kvs)):kvs.length<=sizeLine/\(a == sysModules)=false/\∃ vs,KV kvs vs/\h.DictOf (mixKind P w) a vs:=
 show ObjOk P w H h a (.dK kvs) from qGS ok e
theorem dk_of{kvs:List (Key × V)}(ok:HOk P w H h)(e:H a=some (.dK kvs)):kvs.length<=sizeLine/\(a == sysModules)=false/\∃ vs,KV kvs vs/\h.DictOf (mixKind P w) a vs:=dk_rd ok (.inl e)
end
section
variable {X:Cx}{pins:List (Addr × Obj)}{σ:St}{H:Hp}{s:Shared}{a:Addr}{y v:V}{u r:Value}{o:Option V}{A:Around}{E:Value->Shared->Prop}
theorem Inv.big(I:Inv X pins σ H s):sysModules<s.heap.objs.size:=by
 have h:mainGlobals<s.heap.objs.size:=(I.mod.glob.keeps I.bk).lt;exact Nat.lt_trans (by decide) h
theorem d_write{h':Heap}{t':Nat}{ob:HO}(I:Inv X pins σ H s)(mu:Mut (H a))(hs:Heap.SameBut a s.heap h')(he:∃ q,h'.get? a=some q)(new:ObjOk X.prog X.w (upd H a ob) h' a ob) :
  Inv X pins σ (upd H a ob) { s with heap:=h',toks:=t' }:=
 I.write (x:=a) (e:=a) mu (.inl rfl) (fun b q hb z=>(hs.2 b hb).trans z) he new
theorem dk_new{P:Program}{w:World}{H':Hp}{h':Heap}{kvs:List (Key × V)}{vs:List (Key × Value)}(z:kvs.length<=sizeLine)(hd:(a == sysModules)=false)(rel:KV kvs vs)(dd:h'.DictOf (mixKind P w) a vs) :
  ObjOk P w H' h' a (.dK kvs):=⟨z,hd,vs,rel,dd⟩
end
section
variable {X:Cx}{pins:List (Addr × Obj)}{σ:St}{H:Hp}{s:Shared}{a:Addr}{kvs:List (Key × V)}{k:Key}{u:Value}{A:Around}{E:Value->Shared->Prop}
end
theorem qCn{P:Program}{w:World}{H:Hp}(h:Heap)(hb:sysModules<h.objs.size):ObjOk P w H (h.push { cls:=.type "dict",data:=.dict #[] }) h.objs.size (.dK []):=
 ⟨Nat.zero_le _,beq_eq_false_iff_ne.mpr (Ne.symm (Nat.ne_of_lt hb)),[],.nil,Heap.DictOf.new h⟩
def qFR:TE:=fun _ H Q=>∀ p,H p=none->Q (.ref p) (upd H p (.dK []))
section
variable {X:Cx}{pos:Pos}
theorem pe_dnewK:PE X (.Dict [] [] pos) qFR:=fun pins s σ H Q I h=>
 wpAny_Dict_empty ⟨.ref s.heap.objs.size,_,I.laid (a:=s.heap.objs.size) (o:=.dK []) (t':=s.toks) (fun _ _ q=>Heap.get?_push_of_some _ q) (Nat.le_refl _) (qCn s.heap I.big),rfl,h _ (I.hok.fresh (Nat.le_refl _))⟩
end
def tPairs:List (TE × TE)->St->Hp->(List (V × V)->Hp->Prop)->Prop
 | [],_,H,Q=>Q [] H
 | (tk,tv)::r,σ,H,Q=>tk σ H fun x H1=>tv σ H1 fun y H2=>tPairs r σ H2 fun ps H3=>Q ((x,y)::ps) H3
abbrev VV:List (V × V)->List (Value × Value)->Prop:=Paired fun p q=>RelV p.1 q.1/\RelV p.2 q.2
def PPs(X:Cx)(pos:Pos)(keys:List (Option Expr))(values:List Expr)(trs:List (TE × TE)):Prop:=
 ∀ (pins:List (Addr × Obj)) (s:Shared) (σ:St) (H:Hp) (Q:List (V × V)->Hp->Prop),Inv X pins σ H s->tPairs trs σ H Q ->
  wpAny (model X.prog X.w) X.A (evalPairs (pairTrees keys values X.env pos)) (fun vs s'=>∃ ps H',Inv X pins σ H' s'/\VV ps vs/\Q ps H') X.xe s
theorem pps_nil{X:Cx}{pos:Pos}:PPs X pos [] [] []:=fun pins s σ H Q I h=>pairTrees_nil_walk ⟨[],H,I,.nil,h⟩
theorem pps_cons{X:Cx}{pos:Pos}{k v:Expr}{ks:List (Option Expr)}{vs:List Expr}{tk tv:TE}{trs:List (TE × TE)}(hk:PE X k tk)(hv:PE X v tv)(hr:PPs X pos ks vs trs) :
  PPs X pos (some k::ks) (v::vs) ((tk,tv)::trs):=fun pins s σ H Q I h=>
 pairTrees_cons_walk (thn (hk pins s σ H _ I h) fun u s1 ⟨x,H1,I1,rx,q1⟩=>thn (hv pins s1 σ H1 _ I1 q1) fun w2 s2 ⟨y,H2,I2,ry,q2⟩=>
  thn (hr pins s2 σ H2 _ I2 q2) fun ws s3 ⟨ps,H3,I3,rel,q3⟩=>⟨(x,y)::ps,H3,I3,.cons ⟨rx,ry⟩ rel,q3⟩)
def mergeK(kvs more:List (Key × V)):List (Key × V):=more.foldl (fun acc kv=>putK acc kv.1 kv.2) kvs
theorem KV.merge:∀ {more:List (Key × V)} {rs:List (Key × Value)} {kvs:List (Key × V)} {vs:List (Key × Value)},KV more rs->KV kvs vs->KV (mergeK kvs more) (merged vs rs):=by
 intro more rs kvs vs r;unfold KV at r
 induction r generalizing kvs vs with
 |nil=>intro q;exact q
 | @cons p q ps qs h t ih=>
  intro r0
  have e:KV (putK kvs p.1 p.2) (stored vs q.1 q.2):=by
   have:=r0.put p.1 h.2
   rw[<- h.1];exact this
  exact ih e
theorem qBo:∀ (more kvs:List (Key × V)),(mergeK kvs more).length<=kvs.length+more.length
 | [],kvs=>by show kvs.length<=kvs.length+0;omega
 |p::r,kvs=>by
  have h1:=qBo r (putK kvs p.1 p.2);have h2:=length_putK kvs p.1 p.2;show (mergeK (putK kvs p.1 p.2) r).length<=_;rw[List.length_cons];omega
theorem qC4{P:Program}{w:World}:∀ {kvs:List (Key × V)} {ws:List (Value × Value)},VV (kvs.map fun kv=>(kV kv.1,kv.2)) ws->∃ rs,Carries (mixKind P w) ws rs/\KV kvs rs
 | [],_,r=>by rw[List.map_nil] at r;cases r;exact⟨[],True.intro,.nil⟩
 |p::kvs,_,r=>by
  rw[List.map_cons] at r;cases r with
  | @cons a b as bs h t=>
   obtain ⟨rs,c,q⟩:=qC4 (P:=P) (w:=w) t;obtain ⟨b1,b2⟩:=b
   exact⟨(p.1,b2)::rs,⟨kV_is h.1,rfl,c⟩,.cons ⟨rfl,h.2⟩ q⟩
def qFQ(trs:List (TE × TE)):TE:=fun σ H Q=>∀ p,H p=none->tPairs trs σ (upd H p (.dK [])) fun ps H2=>H2 p=some (.dK [])/\∃ kvs:List (Key × V),ps=kvs.map (fun kv=>(kV kv.1,kv.2))/\kvs.length<=15/\Q (.ref p) (upd H2 p (.dK (mergeK [] kvs)))
theorem pe_disp{X:Cx}{pos:Pos}{keys:List (Option Expr)}{values:List Expr}{trs:List (TE × TE)}(h:PPs X pos keys values trs)(hall:keys.all (·.isSome)=true)(hl:keys.length=values.length)(h0:keys≠[])
  (h15:keys.length<=15):PE X (.Dict keys values pos) (qFQ trs):=by
 intro pins s σ H Q I q;have hn:=I.hok.fresh (Nat.le_refl s.heap.objs.size);have I1:=I.laid (a:=s.heap.objs.size) (o:=.dK []) (h':=s.heap.push { cls:=.type "dict",data:=.dict #[] }) (t':=s.toks) (fun _ _ q=>Heap.get?_push_of_some _ q) (Nat.le_refl _) (qCn s.heap I.big);refine wpAny_Dict_walk (knd:=mixKind X.prog X.w) hall hl h0 h15 (thn (h pins _ σ _ _ I1 (q _ hn)) fun ws s2 ⟨ps,H2,I2,rel,e,kvs,ep,lk,q2⟩=>?_);subst ep;obtain ⟨rs,c,rk⟩:=qC4 (P:=X.prog) (w:=X.w) rel;obtain ⟨z,hd,vs0,r0,dd⟩:=dk_of I2.hok e;cases r0;refine⟨rs,c,dd,fun h' dd' hs=>⟨.ref s.heap.objs.size,_,?_,rfl,q2⟩⟩
 have hz:(mergeK [] kvs).length<=sizeLine:=by
  have h1:=qBo kvs [];rw[List.length_nil] at h1;rw[sizeLine_eq];omega
 have he:∃ q,h'.get? s.heap.objs.size=some q:=let ⟨q,_,_,hq,_⟩:=dd';⟨q,hq⟩;exact d_write I2 (by rw[e];exact True.intro) hs he (dk_new hz hd (rk.merge .nil) dd')
end L2
set_option genSizeOf false
set_option genSizeOfSpec false
set_option genInjectivity false
namespace Fy
open PySem
abbrev Tx:=List Nat
inductive D where
 |non | bl (b:Bool) | int (i:Int) | str (x:Tx) | tup (xs:List D) | ref (i:Nat)
 deriving Inhabited
inductive Ky where
 |int (i:Int) | str (x:Tx)
 deriving DecidableEq
inductive O where
 |lst (xs:List D) | rol (xs:List D) | ins (c:Nat) (fs:List (Nat × D)) | dct (kvs:List (Ky × D)) | xc (c:Nat) | rod (kvs:List (Ky × D))
 deriving Inhabited
def vP:Nat->Nat->List Nat->List Nat
 |0,_,acc=>acc
 |f+1,n,acc=>if n=0 then acc else vP f (n / 256) (n % 256::acc)
def qD(n:Nat):Str:=⟨(vP 60 n []).toArray⟩
abbrev AH:=List O
abbrev Env:=List (Option D)
inductive R (α:Type) where
 |ok (a:α) (h:AH) | exc (c:Nat) (h:AH) | bad
abbrev M(α:Type):=AH->R α
def R.bind{α β:Type}:R α->(α->AH->R β)->R β
 | .ok a h,f=>f a h
 | .exc c h,_=>.exc c h
 | .bad,_=>.bad
def M.bind{α β:Type}(m:M α)(f:α->M β):M β:=fun h=>(m h).bind f
def R.calm{α:Type}:R α->R α
 | .exc _ _=>.bad
 |r=>r
def M.calm{α:Type}(m:M α):M α:=fun h=>(m h).calm
def M.ret{α:Type}(a:α):M α:=fun h=>.ok a h
def M.bad{α:Type}:M α:=fun _=>.bad
def M.when{α:Type}(c:Prop)[Decidable c](m:M α):M α:=fun h=>if c then m h else .bad
def jT(o:O):M D:=fun h=>.ok (.ref h.length) (h++[o])
def qC(h:AH)(i:Nat):Option (List D):=match h[i]? with
 |some (.lst xs)=>some xs
 |some (.rol xs)=>some xs
 |_=>none
def zP(h:AH)(i:Nat):Nat:=((qC h i).getD []).length+1
def newL(xs:List D):M D:=M.when (xs.length<=16777216) (jT (.lst xs))
inductive Ty where
 |int | str | bool | list | tuple
 deriving DecidableEq
inductive Un where
 |neg | len | str | int | ord | tuple | list | all | any | isN | notN | isB (b:Bool) | isi (t:Ty) | fmt | upper | sum | clear | isx (cs xl:List Nat) | fld (k:Nat) | nsB (b:Bool) | rev | sorted | lrng
 deriving DecidableEq
inductive Bi where
 |add | sub | mul | fdiv | mod | pow | eq | ne | lt | le | gt | ge | isin | notin | ix | min2 | max2 | find | split | join | append | zfill | remove | get | pop | starts | index | part | rpart | lpop | lrng | extend
 deriving DecidableEq
def b2i(b:Bool):Int:=if b then 1 else 0
def kB(h:AH)(t:Ty)(d:D):Option Bool:=match d with
 | .non=>some false
 | .bl _=>some (t == .bool || t == .int)
 | .int _=>some (t == .int)
 | .str _=>some (t == .str)
 | .tup _=>some (t == .tuple)
 | .ref i=>(qC h i).map fun _=>t == .list
def txI(i:Int):Tx:=(toString i).toList.map Char.toNat
def wO(d:D):M Bool:=fun h=>match d with
 | .non=>.ok false h
 | .bl b=>.ok b h
 | .int i=>.ok (i != 0) h
 | .str x=>if x.length<=16777216 then .ok (!x.isEmpty) h else .bad
 | .tup xs=>.ok (!xs.isEmpty) h
 | .ref i=>match qC h i with
  |some xs=>.ok (!xs.isEmpty) h
  |none=>.bad
def kK:List D->Option (List Bool)
 | []=>some []
 | .bl b::r=>(kK r).map (b::·)
 |_::_=>none
def wM(xs:List D):Option Bool:=(kK xs).map (·.all id)
def eqW(f:D->D->Option Bool):List D->List D->Option Bool
 | [],[]=>some true
 | [],_::_=>some false
 |_::_,[]=>some false
 |x::xs,y::ys=>match f x y,eqW f xs ys with
  |some a,some b=>some (a&&b)
  |_,_=>none
def eqD(h:AH):Nat->D->D->Option Bool
 |_,.non,.non=>some true
 |_,.bl a,.bl b=>some (a == b)
 |_,.int a,.int b=>some (a == b)
 |_,.str a,.str b=>some (a == b)
 |_,.bl a,.int b=>some (b2i a == b)
 |_,.int a,.bl b=>some (a == b2i b)
 |n+1,.tup xs,.tup ys=>eqW (eqD h n) xs ys
 |n+1,.ref i,.ref j=>match qC h i,qC h j with
  |some xs,some ys=>eqW (eqD h n) xs ys
  |_,_=>none
 |_,_,_=>none
def ixN(n:Nat)(i:Int):Option Nat:=if 0<=i then (if i<n then some i.toNat else none) else if -(n:Int)<=i then some (i+n).toNat else none
def qU(n d:Nat):Option Int->Nat
 |none=>d
 |some v=>if v<0 then (v+n).toNat else min v.toNat n
def qO{α:Type}(xs:List α)(lo hi:Option Int):List α:=(xs.drop (qU xs.length 0 lo)).take (qU xs.length xs.length hi-qU xs.length 0 lo)
def jH(x:Tx):Bool:=x.all fun c=>decide (48<=c/\c<=57)
def kD(x:Tx):Nat:=x.foldl (fun acc c=>acc*10+(c-48)) 0
def qJ(k:Nat):List (Nat × D)->Option D
 | []=>none
 | (g,x)::r=>if g == k then some x else qJ k r
def qZ(k:Nat)(d:D):List (Nat × D)->List (Nat × D)
 | []=>[(k,d)]
 | (g,x)::r=>if g == k then (g,d)::r else (g,x)::qZ k d r
def tbN:List (Nat × Nat)->Nat->Option Nat
 | [],_=>none
 | (g,x)::r,k=>if g == k then some x else tbN r k
def jB:List D->Option (List Int)
 | []=>some []
 | .int x::r=>(jB r).map (x::·)
 |_::_=>none
def yJ(x:Int):List Int->List Int
 | []=>[x]
 |y::r=>if x<=y then x::y::r else y::yJ x r
def jV:List Int->List Int
 | []=>[]
 |x::r=>yJ x (jV r)
def zI(i:Int):Prop:=-4611686018427387904<=i/\i<4611686018427387904
instance (i:Int):Decidable (zI i):=by unfold zI;exact inferInstance
def yB(k:Nat):M D:=fun h=>match h[k]? with
 |some (.dct kvs)=>.ok (.int kvs.length) h
 |_=>.bad
def vM(lo:Int)(n:Nat):List D:=(List.range n).map fun (k:Nat)=>D.int (lo+k)
def unD(o:Un)(d:D):M D:=fun h=>match o,d with
 | .neg,.int i=>.ok (.int (-i)) h
 | .len,.str x=>if x.length<=16777216 then .ok (.int x.length) h else .bad
 | .len,.tup xs=>.ok (.int xs.length) h
 | .len,.ref i=>match qC h i with
  |some xs=>.ok (.int xs.length) h
  |none=>yB i h
 | .str,.int i=>if i.natAbs.log2<1920 then .ok (.str (txI i)) h else .bad
 | .int,.int i=>.ok (.int i) h
 | .int,.bl b=>.ok (.int (b2i b)) h
 | .int,.str x=>if x≠[]/\x.length<=640/\jH x=true then .ok (.int (kD x)) h else .bad
 | .ord,.str x=>match x with
  | [c]=>.ok (.int c) h
  |_=>.bad
 | .tuple,.tup xs=>.ok (.tup xs) h
 | .tuple,.ref i=>match qC h i with
  |some xs=>.ok (.tup xs) h
  |none=>.bad
 | .list,.tup xs=>newL xs h
 | .list,.ref i=>match qC h i with
  |some xs=>newL xs h
  |none=>.bad
 | .all,.ref i=>match (qC h i).bind wM with
  |some b=>.ok (.bl b) h
  |none=>.bad
 | .sorted,.ref i=>match (qC h i).bind jB with
  |some xs=>if xs.length<64 then newL ((jV xs).map .int) h else .bad
  |none=>.bad
 | .fld k,.ref i=>match h[i]? with
  |some (.ins _ fs)=>match qJ k fs with
   |some d=>.ok d h
   |none=>.bad
  |_=>.bad
 | .isN,d=>.ok (.bl (match d with | .non=>true | _=>false)) h
 | .notN,d=>.ok (.bl (match d with | .non=>false | _=>true)) h
 | .isi t,d=>match kB h t d with
  |some b=>.ok (.bl b) h
  |none=>.bad
 |_,_=>.bad
def kO(i j:Int):Prop:=(-18446744073709551616<i/\i<18446744073709551616)\/(-18446744073709551616<j/\j<18446744073709551616)
instance (i j:Int):Decidable (kO i j):=by unfold kO;exact inferInstance
def zX(h:AH)(x y:D):Option Bool:=eqD h 40 x y
def aL(x y:Tx):Option Bool:=match x with
 | [c]=>some (y.contains c)
 |_=>none
def zM(c:Nat):Nat->Tx->List Nat
 |_,[]=>[]
 |k,x::r=>if x=c then k::zM c (k+1) r else zM c (k+1) r
def zV(c:Nat):Nat->Tx->Option Nat
 |_,[]=>none
 |k,x::r=>match zV c (k+1) r with
  |some i=>some i
  |none=>if x=c then some k else none
def jX(a:Tx)(cuts:List Nat):List Tx:=((0::cuts.map (·+1)).zip (cuts++[a.length])).map fun p=>(a.drop p.1).take (p.2-p.1)
def jM(a:Tx)(c:Nat):List Tx:=match zV c 0 a with
 |some i=>[a.take i,[c],a.drop (i+1)]
 |none=>[[],[],a]
def jC:List D->Option (List Tx)
 | []=>some []
 | .str x::r=>(jC r).map (x::·)
 |_::_=>none
def zF(sep:Tx):List Tx->Tx
 | []=>[]
 | [x]=>x
 |x::y::r=>x++sep++zF sep (y::r)
def kA(sep:Tx)(xs:List Tx):Nat:=(xs.map List.length).sum+xs.length*sep.length
def zE(kvs:List (Ky × D))(k:Ky):Option D:=(kvs.find? fun kv=>decide (kv.1=k)).map (·.2)
def vB(kvs:List (Ky × D))(k:Ky)(d:D):List (Ky × D):=if (kvs.any fun kv=>decide (kv.1=k))=true then kvs.map (fun kv=>if kv.1=k then (kv.1,d) else kv) else kvs++[(k,d)]
def uD(kvs more:List (Ky × D)):List (Ky × D):=more.foldl (fun acc kv=>vB acc kv.1 kv.2) kvs
def ixK(k:Nat)(y:Ky):M D:=fun h=>match h[k]? with
 |some (.dct kvs)=>match zE kvs y with
  |some d=>.ok d h
  |none=>.bad
 |some (.rod kvs)=>match zE kvs y with
  |some d=>.ok d h
  |none=>.bad
 |_=>.bad
def vF(k:Nat)(y:Ky):M D:=fun h=>match h[k]? with
 |some (.dct kvs)=>.ok (.bl (!(zE kvs y).isSome)) h
 |_=>.bad
def wA(d:D)(k:Nat)(y:Ky):M Unit:=fun h=>match h[k]? with
 |some (.dct kvs)=>if kvs.length<16777216 then .ok () (h.set k (.dct (vB kvs y d))) else .bad
 |_=>.bad
def aQ(k:Nat)(y:Ky):M D:=fun h=>match h[k]? with
 |some (.dct kvs)=>.ok ((zE kvs y).getD .non) h
 |_=>.bad
def qCm(kvs:List (Ky × D))(k:Ky):List (Ky × D):=kvs.filter fun kv=>decide (kv.1≠k)
def aW(ks:List Ky)(ds:List D)(p:Nat):M D:=fun h=>match h[p]? with
 |some (.dct [])=>if ks.length=ds.length/\ks.length<=15 then .ok (.ref p) (h.set p (.dct (uD [] (ks.zip ds)))) else .bad
 |_=>.bad
def kyD:Ky->D
 | .int i=>.int i
 | .str x=>.str x
def jG(kvs:List (Ky × D)):List D:=kvs.map fun kv=>kyD kv.1
def yW{α:Type}(i:Nat):R α->R α
 | .ok a h=>match h[i]? with
  |some (.rod kvs)=>.ok a (h.set i (.dct kvs))
  |_=>.bad
 |_=>.bad
def tL(x:D)(k:List D->M D):M D:=fun h=>match x with
 | .ref i=>match h[i]? with
  |some (.dct kvs)=>if kvs.length<16777216 then yW i (k (jG kvs) (h.set i (.rod kvs))) else .bad
  |_=>.bad
 |_=>.bad
def biD(o:Bi)(x y:D):M D:=fun h=>match o,x,y with
 | .add,.int i,.int j=>.ok (.int (i+j)) h
 | .add,.str a,.str b=>if a.length+b.length<=16777216 then .ok (.str (a++b)) h else .bad
 | .add,.tup a,.tup b=>if a.length+b.length<=16777216 then .ok (.tup (a++b)) h else .bad
 | .add,.ref i,.ref j=>match h[i]?,h[j]? with
  |some (.lst xs),some (.lst ys)=>newL (xs++ys) h
  |_,_=>.bad
 | .sub,.int i,.int j=>.ok (.int (i-j)) h
 | .mul,.int i,.int j=>if kO i j then .ok (.int (i*j)) h else .bad
 | .fdiv,.int i,.int j=>if 0<j/\j<1073741824 then .ok (.int (i / j)) h else .bad
 | .mod,.int i,.int j=>if 0<j then .ok (.int (i % j)) h else .bad
 | .eq,x,y=>match zX h x y with
  |some b=>.ok (.bl b) h
  |none=>.bad
 | .ne,x,y=>match zX h x y with
  |some b=>.ok (.bl (!b)) h
  |none=>.bad
 | .lt,.int i,.int j=>.ok (.bl (decide (i<j))) h
 | .le,.int i,.int j=>.ok (.bl (decide (i<=j))) h
 | .gt,.int i,.int j=>.ok (.bl (decide (j<i))) h
 | .ge,.int i,.int j=>.ok (.bl (decide (j<=i))) h
 | .isin,.str a,.str b=>match aL a b with
  |some r=>.ok (.bl r) h
  |none=>.bad
 | .notin,.int a,.ref i=>match (qC h i).bind jB with
  |some xs=>.ok (.bl (!xs.contains a)) h
  |none=>vF i (.int a) h
 | .notin,.str a,.str b=>match aL a b with
  |some r=>.ok (.bl (!r)) h
  |none=>.bad
 | .ix,.tup xs,.int i=>match (ixN xs.length i).bind (xs[·]?) with
  |some d=>.ok d h
  |none=>.bad
 | .ix,.str x,.int i=>if x.length<=16777216 then match (ixN x.length i).bind (x[·]?) with
  |some c=>.ok (.str [c]) h
  |none=>.bad
  else .bad
 | .ix,.ref k,.int i=>match (qC h k).bind fun xs=>(ixN xs.length i).bind (xs[·]?) with
  |some d=>.ok d h
  |none=>ixK k (.int i) h
 | .ix,.ref k,.str x=>ixK k (.str x) h
 | .min2,.int i,.int j=>.ok (.int (if j<i then j else i)) h
 | .max2,.int i,.int j=>.ok (.int (if j > i then j else i)) h
 | .zfill,.str x,.int n=>if 0<=n/\n<=1000/\jH x=true/\x.length<=1000 then .ok (.str (List.replicate (n.toNat-x.length) 48++x)) h else .bad
 | .join,.str x,.ref i=>match (qC h i).bind jC with
  |some xs=>if kA x xs<=16777216 then .ok (.str (zF x xs)) h else .bad
  |none=>.bad
 | .append,.ref k,d=>match h[k]? with
  |some (.lst xs)=>if xs.length<16777216 then .ok .non (h.set k (.lst (xs++[d]))) else .bad
  |_=>.bad
 | .split,.str a,.str b=>match b with
  | [c]=>if c<256/\a.length<=1000000 then newL ((jX a (zM c 0 a)).map .str) h else .bad
  |_=>.bad
 | .rpart,.str a,.str b=>match b with
  | [c]=>if a.length<=1000000 then .ok (.tup ((jM a c).map .str)) h else .bad
  |_=>.bad
 | .get,.ref k,.int i=>aQ k (.int i) h
 | .extend,.ref k,.ref j=>match h[k]?,h[j]? with
  |some (.lst xs),some (.lst ys)=>if xs.length+ys.length<=16777216 then .ok .non (h.set k (.lst (xs++ys))) else .bad
  |_,_=>.bad
 |_,_,_=>.bad
def slD(x:D)(l u:Option Int):M D:=fun h=>match x with
 | .str x=>if x.length<=16777216 then .ok (.str (qO x l u)) h else .bad
 | .tup xs=>.ok (.tup (qO xs l u)) h
 | .ref i=>match qC h i with
  |some xs=>newL (qO xs l u) h
  |none=>.bad
 |_=>.bad
def jA(o:Bi)(x:D):M Unit:=fun h=>match o,x with
 | .append,.ref i=>match qC h i with
  |some _=>.ok () h
  |none=>.bad
 | .extend,.ref i=>match qC h i with
  |some _=>.ok () h
  |none=>.bad
 | .split,.str _=>.ok () h
 | .rpart,.str _=>.ok () h
 | .join,.str _=>.ok () h
 | .zfill,.str _=>.ok () h
 | .get,.ref i=>match h[i]? with
  |some (.dct _)=>.ok () h
  |_=>.bad
 |_,_=>.bad
def eL(m:Nat)(x:D):M Nat:=fun h=>match x with
 | .ref i=>match h[i]? with
  |some (.ins c fs)=>if (qJ m fs).isNone then .ok c h else .bad
  |_=>.bad
 |_=>.bad
def gN(k:Nat)(cs:List Nat)(d x:D):M Unit:=fun h=>match x with
 | .ref i=>match h[i]? with
  |some (.ins c fs)=>if cs.contains c=true/\fs.length<1000 then .ok () (h.set i (.ins c (qZ k d fs))) else .bad
  |_=>.bad
 |_=>.bad
def yZ(d x y:D):M Unit:=fun h=>match x,y with
 | .ref k,.int j=>match h[k]? with
  |some (.lst xs)=>match ixN xs.length j with
   |some p=>.ok () (h.set k (.lst (xs.set p d)))
   |none=>.bad
  |_=>wA d k (.int j) h
 | .ref k,.str x=>wA d k (.str x) h
 |_,_=>.bad
def wY(F:Nat->List D->M D)(c f:Nat)(xs:List D):M D:=fun h=>(F f (.ref h.length::xs) (h++[.ins c []])).bind fun d h'=>match d with
 | .non=>.ok (.ref h.length) h'
 |_=>.bad
def qCL(d:D):M (Option Int):=fun h=>match d with
 | .int i=>.ok (some i) h
 |_=>.bad
mutual
inductive CE where
 |lit (d:D) | var (i:Nat) | un (o:Un) (a:CE) | bi (o:Bi) (a b:CE) | sl (a:CE) (lo hi:CP)
 |and (a b:CE) | or (a b:CE) | not (a:CE) | ite (c:CT) (a b:CE) | chain (o p:Bi) (a b c:CE) | me (o:Bi) (a b:CE)
 |tup (es:CL) | lst (es:CL) | disp (ks:List Ky) (es:CL) | call (f:Nat) (es:CL) | meth (m:Nat) (tb:List (Nat × Nat)) (a:CE) (es:CL) | make (c f:Nat) (es:CL) | comp (elt:CE) (it:CI) | compIf (elt:CE) (c:CT) (it:CI) | compD (elt:CE) (c:CT) (d:CE)
inductive CT where
 |val (e:CE) | and (a b:CT) | or (a b:CT) | not (a:CT)
inductive CL where
 |nil | cons (e:CE) (r:CL)
inductive CI where
 |of (e:CE) | rng1 (e:CE) | rng2 (a b:CE) | rng3 (a b c:CE)
inductive CP where
 |no | at (e:CE)
end
inductive TG where
 |nm (i:Nat) | two (i j:Nat)
mutual
inductive CS where
 |skip | opq | seq (a b:CS) | set (t:TG) (e:CE) | exp (e:CE) | ret (e:CE) | retN | ite (c:CT) (a b:CS)
 |fori (t:TG) (it:CI) (b:CS) | forD (i:Nat) (e:CE) (b:CS) | whil (c:CT) (b:CS) | brk | cnt | raise (c:Nat) | setF (a:CE) (k:Nat) (cs:List Nat) (e:CE) | setIx (a i e:CE) | tryx (b:CS) (hs:CH)
inductive CH where
 |nil | cons (cs:List Nat) (k:CS) (r:CH)
end
inductive It where
 |row (xs:List D) | live (i:Nat) | pairs (xs:List D)
def nS(i j k:Int):Nat:=if i<j then ((j-i-1) / k+1).toNat else 0
def wS(lo st:Int)(n:Nat):List D:=(List.range n).map fun (k:Nat)=>D.int (lo+k*st)
def aI(d:D):M It:=fun h=>match d with
 | .str x=>.ok (.row (x.map fun c=>.str [c])) h
 | .tup xs=>.ok (.row xs) h
 | .ref i=>match qC h i with
  |some _=>.ok (.live i) h
  |none=>.bad
 |_=>.bad
def zY(m:Env->M D)(σ:Env)(x:D):M (Option D):=(m (σ++[some x])).calm.bind fun y=>M.ret (some y)
def jJ(m:Env->M D)(c:Env->M Bool)(σ:Env)(x:D):M (Option D):=(c (σ++[some x])).calm.bind fun k=>if k then (m (σ++[some x])).calm.bind fun y=>M.ret (some y) else M.ret none
def zC(f:D->M (Option D)):List D->M (List D)
 | []=>M.ret []
 |x::xs=>(f x).bind fun y=>(zC f xs).bind fun ys=>M.ret (match y with | some y=>y::ys | none=>ys)
def zO(f:D->M (Option D))(i:Nat):Nat->Nat->M (List D)
 |0,_=>M.bad
 |n+1,k=>fun h=>match qC h i with
  |none=>.bad
  |some xs=>match xs[k]? with
   |none=>.ok [] h
   |some x=>((f x).bind fun y=>(zO f i n (k+1)).bind fun ys=>M.ret (match y with | some y=>y::ys | none=>ys)) h
def wW(f:D->M (Option D)):It->M (List D)
 | .row xs=>M.when (xs.length<16777216) (zC f xs)
 | .live i=>fun h=>M.when (zP h i<16777216) (zO f i (zP h i) 0) h
 | .pairs _=>M.bad
section
variable (F:Nat->List D->M D)
mutual
def den:CE->Env->M D
 | .lit d,_=>M.ret d
 | .var i,σ=>fun h=>match σ[i]? with
  |some (some d)=>.ok d h
  |_=>.bad
 | .un o a,σ=>(den a σ).bind (unD o)
 | .bi o a b,σ=>(den a σ).bind fun x=>(den b σ).bind fun y=>biD o x y
 | .sl a lo hi,σ=>(den a σ).bind fun x=>(kJ lo σ).bind fun l=>(kJ hi σ).bind fun u=>slD x l u
 | .and a b,σ=>(den a σ).bind fun x=>match x with
  | .bl true=>den b σ
  | .bl false=>M.ret (.bl false)
  |_=>M.bad
 | .or a b,σ=>(den a σ).bind fun x=>match x with
  | .bl true=>M.ret (.bl true)
  | .bl false=>den b σ
  |_=>M.bad
 | .not a,σ=>((den a σ).bind wO).bind fun b=>M.ret (.bl (!b))
 | .ite c a b,σ=>(qK c σ).bind fun k=>if k then den a σ else den b σ
 | .chain o p a b c,σ=>(den a σ).bind fun x=>(den b σ).bind fun y=>(biD o x y).bind fun z=>match z with
  | .bl true=>(den c σ).bind fun w=>biD p y w
  | .bl false=>M.ret (.bl false)
  |_=>M.bad
 | .me o a b,σ=>(den a σ).bind fun x=>(jA o x).bind fun _=>(den b σ).bind fun y=>biD o x y
 | .tup es,σ=>(qT es σ).bind fun xs=>M.when (xs.length<=16777216) (M.ret (.tup xs))
 | .lst es,σ=>(qT es σ).bind newL
 | .disp ks es,σ=>fun h=>(qT es σ (h++[.dct []])).bind fun ds=>aW ks ds h.length
 | .call f es,σ=>(qT es σ).bind (F f)
 | .meth m tb a es,σ=>(den a σ).bind fun x=>(eL m x).bind fun c=>match tbN tb c with
  |some f=>(qT es σ).bind fun xs=>F f (x::xs)
  |none=>M.bad
 | .make c f es,σ=>(qT es σ).bind (wY F c f)
 | .comp e it,σ=>(zU it σ).bind fun r=>(wW (zY (den e) σ) r).bind newL
 | .compIf e c it,σ=>(zU it σ).bind fun r=>(wW (jJ (den e) (qK c) σ) r).bind newL
 | .compD e c d,σ=>(den d σ).bind fun x=>tL x fun ks=>(zC (jJ (den e) (qK c) σ) ks).bind newL
def qT:CL->Env->M (List D)
 | .nil,_=>M.ret []
 | .cons e r,σ=>(den e σ).bind fun x=>(qT r σ).bind fun xs=>M.ret (x::xs)
def zU:CI->Env->M It
 | .of e,σ=>(den e σ).bind aI
 | .rng1 e,σ=>(den e σ).bind fun x=>match x with
  | .int j=>M.when (zI j) (M.ret (.row (vM 0 j.toNat)))
  |_=>M.bad
 | .rng2 a b,σ=>(den a σ).bind fun x=>(den b σ).bind fun y=>match x,y with
  | .int i,.int j=>M.when (zI i/\zI j) (M.ret (.row (vM i (j-i).toNat)))
  |_,_=>M.bad
 | .rng3 a b c,σ=>(den a σ).bind fun x=>(den b σ).bind fun y=>(den c σ).bind fun z=>match x,y,z with
  | .int i,.int j,.int k=>M.when ((zI i/\zI j)/\0<k/\k<1073741824) (M.ret (.row (wS i k (nS i j k))))
  |_,_,_=>M.bad
def kJ:CP->Env->M (Option Int)
 | .no,_=>M.ret none
 | .at e,σ=>(den e σ).bind qCL
def qK:CT->Env->M Bool
 | .val e,σ=>(den e σ).bind wO
 | .and a b,σ=>(qK a σ).bind fun x=>if x then qK b σ else M.ret false
 | .or a b,σ=>(qK a σ).bind fun x=>if x then M.ret true else qK b σ
 | .not a,σ=>(qK a σ).bind fun b=>M.ret (!b)
end
end
inductive SR where
 |nx (σ:Env) (h:AH) | rt (d:D) (h:AH) | bk (σ:Env) (h:AH) | ct (σ:Env) (h:AH) | exc (c:Nat) (σ:Env) (h:AH) | bad
def SR.ofR{α:Type}(σ:Env):R α->(α->AH->SR)->SR
 | .ok a h,f=>f a h
 | .exc c h,_=>.exc c σ h
 | .bad,_=>.bad
def SR.andThen:SR->(Env->AH->SR)->SR
 | .nx σ h,f=>f σ h
 |r,_=>r
def yX(t:TG)(d:D)(σ:Env):Option Env:=match t with
 | .nm i=>some (σ.set i (some d))
 | .two i j=>match d with
  | .tup [a,b]=>some ((σ.set i (some a)).set j (some b))
  |_=>none
def SR.calm:SR->SR
 | .exc _ _ _=>.bad
 |r=>r
def SR.catch:SR->(Nat->Env->AH->SR)->SR
 | .exc c σ h,f=>f c σ h
 |r,_=>r
def SR.turn:SR->(Env->AH->SR)->SR
 | .nx σ h,f=>f σ h
 | .ct σ h,f=>f σ h
 | .bk σ h,_=>.nx σ h
 | .exc _ _ _,_=>.bad
 |r,_=>r
def zR(t:TG)(b:Env->AH->SR)(x:D)(σ:Env)(h:AH):SR:=match yX t x σ with
 |some σ'=>b σ' h
 |none=>.bad
def zS(step:D->Env->AH->SR):List D->Env->AH->SR
 | [],σ,h=>.nx σ h
 |x::xs,σ,h=>(step x σ h).turn (zS step xs)
def kI(step:D->Env->AH->SR)(i:Nat):Nat->Nat->Env->AH->SR
 |0,_,_,_=>.bad
 |n+1,k,σ,h=>match qC h i with
  |none=>.bad
  |some xs=>match xs[k]? with
   |none=>.nx σ h
   |some x=>(step x σ h).turn (kI step i n (k+1))
def qCh(step:D->Env->AH->SR):It->Env->AH->SR
 | .row xs,σ,h=>zS step xs σ h
 | .live i,σ,h=>kI step i (zP h i) 0 σ h
 | .pairs _,_,_=>.bad
def SR.thaw(i:Nat):SR->SR
 | .nx σ h=>match h[i]? with
  |some (.rod kvs)=>.nx σ (h.set i (.dct kvs))
  |_=>.bad
 | .rt d h=>match h[i]? with
  |some (.rod kvs)=>.rt d (h.set i (.dct kvs))
  |_=>.bad
 |_=>.bad
def qCi(step:D->Env->AH->SR)(x:D)(σ:Env)(h:AH):SR:=match x with
 | .ref i=>match h[i]? with
  |some (.dct kvs)=>(zS step (jG kvs) σ (h.set i (.rod kvs))).thaw i
  |_=>.bad
 |_=>.bad
def vL(c:Env->M Bool)(step:Env->AH->SR):Nat->Env->AH->SR
 |0,_,_=>.bad
 |n+1,σ,h=>match c σ h with
  | .ok b h1=>if b then (step σ h1).turn (vL c step n) else .nx σ h1
  |_=>.bad
section
variable (F:Nat->List D->M D)(B:Nat)
mutual
def qB:CS->Env->AH->SR
 | .skip,σ,h=>.nx σ h
 | .opq,_,_=>.bad
 | .seq a b,σ,h=>(qB a σ h).andThen (qB b)
 | .set t e,σ,h=>SR.ofR σ (den F e σ h) fun d h1=>match yX t d σ with
  |some σ'=>.nx σ' h1
  |none=>.bad
 | .exp e,σ,h=>SR.ofR σ (den F e σ h) fun _ h1=>.nx σ h1
 | .ret e,σ,h=>SR.ofR σ (den F e σ h) fun d h1=>.rt d h1
 | .retN,_,h=>.rt .non h
 | .ite c a b,σ,h=>SR.ofR σ (qK F c σ h) fun k h1=>if k then qB a σ h1 else qB b σ h1
 | .fori t it b,σ,h=>SR.ofR σ (zU F it σ h).calm fun r h1=>qCh (zR t (qB b)) r σ h1
 | .forD i e b,σ,h=>SR.ofR σ (den F e σ h).calm fun d h1=>qCi (zR (.nm i) (qB b)) d σ h1
 | .whil c b,σ,h=>vL (qK F c) (qB b) B σ h
 | .brk,σ,h=>.bk σ h
 | .cnt,σ,h=>.ct σ h
 | .raise c,σ,h=>.exc c σ h
 | .setF a k cs e,σ,h=>SR.ofR σ (den F e σ h) fun d h1=>SR.ofR σ ((den F a σ).bind (gN k cs d) h1) fun _ h2=>.nx σ h2
 | .setIx a i e,σ,h=>SR.ofR σ (den F e σ h) fun d h1=>SR.ofR σ ((den F a σ).bind (fun x=>(den F i σ).bind fun y=>yZ d x y) h1) fun _ h2=>.nx σ h2
 | .tryx b hs,σ,h=>(qB b σ h).catch fun c σ' h'=>yO hs c σ' h'
def yO:CH->Nat->Env->AH->SR
 | .nil,_,_,_=>.bad
 | .cons cs k r,c,σ,h=>if cs.contains c then (qB k σ h).calm else yO r c σ h
end
end
structure Fn where
 ar:Nat
 sl:Nat
 body:CS
def fin:SR->R D
 | .nx _ h'=>.ok .non h'
 | .rt d h'=>.ok d h'
 | .exc c _ h'=>.exc c h'
 |_=>.bad
def dI(F:Nat->List D->M D)(B:Nat)(f:Fn)(as:List D):M D:=fun h=>
 if as.length=f.ar then fin (qB F B f.body (as.map some++List.replicate (f.sl-f.ar) none) h) else .bad
def qA(fs:List Fn)(B:Nat):Nat->Nat->List D->M D
 |0,_,_=>M.bad
 |n+1,f,as=>match fs[f]? with
  |some fn=>dI (qA fs B n) B fn as
  |none=>M.bad
theorem M.bind_eq{α β:Type}(m:M α)(f:α->M β)(h:AH):M.bind m f h=(m h).bind f:=(rfl)
theorem R.bind_ok{α β:Type}(a:α)(h:AH)(f:α->AH->R β):R.bind (.ok a h) f=f a h:=(rfl)
theorem M.ret_eq{α:Type}(a:α)(h:AH):M.ret a h=.ok a h:=(rfl)
theorem qG8{α:Type}(σ:Env)(a:α)(h:AH)(f:α->AH->SR):SR.ofR σ (.ok a h) f=f a h:=(rfl)
theorem jU{α:Type}(c:Prop)[Decidable c](m:M α)(h:AH):M.when c m h=if c then m h else .bad:=(rfl)
theorem qRY(σ:Env)(h:AH)(f:Env->AH->SR):SR.andThen (.nx σ h) f=f σ h:=(rfl)
theorem qRX(d:D)(h:AH)(f:Env->AH->SR):SR.andThen (.rt d h) f=.rt d h:=(rfl)
theorem qRZ(σ:Env)(h:AH)(f:Env->AH->SR):SR.andThen (.bk σ h) f=.bk σ h:=(rfl)
theorem tU(σ:Env)(h:AH)(f:Env->AH->SR):SR.turn (.nx σ h) f=f σ h:=(rfl)
theorem qE1(σ:Env)(h:AH)(f:Env->AH->SR):SR.turn (.bk σ h) f=.nx σ h:=(rfl)
theorem gF(i:Nat)(b:Env->AH->SR)(x:D)(σ:Env)(h:AH):zR (.nm i) b x σ h=b (σ.set i (some x)) h:=(rfl)
theorem qIq{i j:Int}(h:-18446744073709551616<j/\j<18446744073709551616):kO i j:=.inr h
theorem eJ{i j:Int}(h:-18446744073709551616<i/\i<18446744073709551616):kO i j:=.inl h
theorem jQ{h:AH}{i:Nat}{xs:List D}(g:AH)(e:qC h i=some xs):qC (h++g) i=some xs:=by
 unfold qC at e ⊢;cases q:h[i]? with
 |none=>rw[q] at e;cases e
 |some o=>have hl:=(List.getElem?_eq_some_iff.mp q).1;rw[List.getElem?_append_left hl,q];rw[q] at e;exact e
theorem qI5(m i:Nat)(h:AH):eL m (.ref i) h=(match h[i]? with | some (.ins c fs)=>if (qJ m fs).isNone then .ok c h else .bad | _=>.bad):=(rfl)
theorem qFw(k:Nat)(cs:List Nat)(d:D)(i:Nat)(h:AH):gN k cs d (.ref i) h=(match h[i]? with | some (.ins c fs)=>if cs.contains c=true/\fs.length<1000 then .ok () (h.set i (.ins c (qZ k d fs))) else .bad | _=>.bad):=(rfl)
theorem qFv(d:D)(k:Nat)(j:Int)(h:AH):yZ d (.ref k) (.int j) h=(match h[k]? with | some (.lst xs)=>(match ixN xs.length j with | some p=>.ok () (h.set k (.lst (xs.set p d))) | none=>.bad) | _=>wA d k (.int j) h):=(rfl)
theorem qNe(σ:Env)(h:AH)(f:Nat->Env->AH->SR):SR.catch (.nx σ h) f=.nx σ h:=(rfl)
theorem qMG(σ:Env)(h:AH):fin (.nx σ h)=.ok .non h:=(rfl)
theorem qMF(d:D)(h:AH):fin (.rt d h)=.ok d h:=(rfl)
theorem hU(I:Nat->Env->AH->Prop)(step:D->Env->AH->SR):∀ (xs:List D) (k:Nat) (σ:Env) (h:AH),I k σ h ->
  (∀ j x σ h,xs[j]?=some x->I (k+j) σ h->∃ σ' h',step x σ h=.nx σ' h'/\I (k+j+1) σ' h')->∃ σ' h',zS step xs σ h=.nx σ' h'/\I (k+xs.length) σ' h'
 | [],k,σ,h,i0,_=>⟨σ,h,rfl,i0⟩
 |x::xs,k,σ,h,i0,H=>by
  obtain ⟨σ1,h1,e1,i1⟩:=H 0 x σ h rfl i0
  obtain ⟨σ2,h2,e2,i2⟩:=hU I step xs (k+1) σ1 h1 i1 fun j y σ h hy i=>by
   have:=H (j+1) y σ h (by simpa using hy) (by rw[show k+(j+1)=k+1+j by omega];exact i)
   rwa [show k+(j+1)=k+1+j by omega] at this
  refine⟨σ2,h2,?_,by rw[List.length_cons,show k+(xs.length+1)=k+1+xs.length by omega];exact i2⟩;rw[zS,e1];exact e2
theorem qCg(I:Nat->Env->AH->Prop)(step:D->Env->AH->SR)(i:Nat)(xs:List D)(hg:∀ k σ h,I k σ h->qC h i=some xs)
  (H:∀ j x σ h,xs[j]?=some x->I j σ h->∃ σ' h',step x σ h=.nx σ' h'/\I (j+1) σ' h') :
  ∀ (n k:Nat) (σ:Env) (h:AH),n+k=xs.length+1->k<=xs.length->I k σ h->∃ σ' h',kI step i n k σ h=.nx σ' h'/\I xs.length σ' h'
 |0,k,σ,h,hn,hk,i0=>by omega
 |n+1,k,σ,h,hn,hk,i0=>by
  unfold kI;rw[hg k σ h i0];simp only
  by_cases hlt:k<xs.length
  ·have e:xs[k]?=some xs[k]:=by simp[hlt]
   rw[e];simp only;obtain ⟨σ1,h1,e1,i1⟩:=H k _ σ h e i0;rw[e1];exact qCg I step i xs hg H n (k+1) σ1 h1 (by omega) hlt i1
  ·have e:k=xs.length:=by omega
   subst e;have e2:xs[xs.length]?=none:=by simp
   rw[e2]
   exact⟨σ,h,rfl,i0⟩
theorem aC(f:D->M (Option D))(g:D->D)(h:AH):∀ xs:List D,(∀ x∈xs,f x h=.ok (some (g x)) h)->zC f xs h=.ok (xs.map g) h
 | [],_=>rfl
 |x::xs,H=>by
  have h1:=H x (List.mem_cons_self ..);have h2:=aC f g h xs fun y hy=>H y (List.mem_cons_of_mem _ hy);unfold zC;simp only[M.bind_eq,h1,R.bind_ok,h2,M.ret_eq,List.map_cons]
theorem fY(h:AH)(xs:List D):qC (h++[.lst xs]) h.length=some xs:=by
 unfold qC;simp
theorem qOu{α:Type}(f:α->Bool)(xs:List α):kK (xs.map fun c=>.bl (f c))=some (xs.map f):=by
 induction xs with
 |nil=>rfl
 |cons x xs ih=>simp only[List.map_cons,kK,ih,Option.map_some]
theorem tH{α:Type}(f:α->Bool)(xs:List α):wM (xs.map fun c=>.bl (f c))=some (xs.all f):=by
 unfold wM;rw[qOu,Option.map_some,List.all_map];rfl
theorem qI9(f:D->M (Option D))(xs:List D)(h:AH):wW f (.row xs) h=if xs.length<16777216 then zC f xs h else .bad:=(rfl)
theorem uE(f:D->M (Option D))(i:Nat)(h:AH):wW f (.live i) h=if zP h i<16777216 then zO f i (zP h i) 0 h else .bad:=(rfl)
theorem vJ(m:Env->M D)(σ:Env)(x:D)(h:AH):zY m σ x h=R.bind (m (σ++[some x]) h).calm fun y h'=>.ok (some y) h':=(rfl)
theorem qNf{α:Type}(a:α)(h:AH):(R.ok a h).calm=.ok a h:=(rfl)
theorem qNg{α:Type}(m:M α)(h:AH):M.calm m h=(m h).calm:=(rfl)
theorem yI(a c:Nat):decide ((a:Int)<=(c:Int))=decide (a<=c):=by
 rw[Bool.eq_iff_iff];simp
theorem qCK(a c:Nat):decide ((a:Int)<(c:Int))=decide (a<c):=by
 rw[Bool.eq_iff_iff];simp
theorem qKn(a c:Nat):((a:Int) == (c:Int))=decide (a=c):=by
 rw[Bool.eq_iff_iff];simp;omega
theorem qB6{n k:Nat}(h:k<n):ixN n (k:Int)=some k:=by
 unfold ixN;rw[if_pos (by omega),if_pos (by omega),Int.toNat_natCast]
theorem qEi(i:Int)(h:AH):unD .neg (.int i) h=(.ok (.int (-i)) h):=(rfl)
theorem qEm(x:Tx)(h:AH):unD .len (.str x) h=(if x.length<=16777216 then .ok (.int x.length) h else .bad):=(rfl)
theorem qEl(xs:List D)(h:AH):unD .len (.tup xs) h=(.ok (.int xs.length) h):=(rfl)
theorem qEk(i:Nat)(h:AH):unD .len (.ref i) h=(match qC h i with | some xs=>.ok (.int xs.length) h | none=>yB i h):=(rfl)
theorem qEe(i:Int)(h:AH):unD .str (.int i) h=(if i.natAbs.log2<1920 then .ok (.str (txI i)) h else .bad):=(rfl)
theorem qEq(b:Bool)(h:AH):unD .int (.bl b) h=(.ok (.int (b2i b)) h):=(rfl)
theorem qEp(x:Tx)(h:AH):unD .int (.str x) h=(if x≠[]/\x.length<=640/\jH x=true then .ok (.int (kD x)) h else .bad):=(rfl)
theorem qEg(c:Nat)(h:AH):unD .ord (.str [c]) h=(.ok (.int c) h):=(rfl)
theorem qEd(i:Nat)(h:AH):unD .tuple (.ref i) h=(match qC h i with | some xs=>.ok (.tup xs) h | none=>.bad):=(rfl)
theorem qEj(i:Nat)(h:AH):unD .list (.ref i) h=(match qC h i with | some xs=>newL xs h | none=>.bad):=(rfl)
theorem qEs(i:Nat)(h:AH):unD .all (.ref i) h=(match (qC h i).bind wM with | some b=>.ok (.bl b) h | none=>.bad):=(rfl)
theorem qEf(i:Nat)(h:AH):unD .sorted (.ref i) h=(match (qC h i).bind jB with | some xs=>if xs.length<64 then newL ((jV xs).map .int) h else .bad | none=>.bad):=(rfl)
theorem qEr(k i:Nat)(h:AH):unD (.fld k) (.ref i) h=(match h[i]? with | some (.ins _ fs)=>(match qJ k fs with | some d=>.ok d h | none=>.bad) | _=>.bad):=(rfl)
theorem qEo(d:D)(h:AH):unD .isN d h=(.ok (.bl (match d with | .non=>true | _=>false)) h):=(rfl)
theorem qEh(d:D)(h:AH):unD .notN d h=(.ok (.bl (match d with | .non=>false | _=>true)) h):=(rfl)
theorem qEn(t:Ty)(d:D)(h:AH):unD (.isi t) d h=(match kB h t d with | some b=>.ok (.bl b) h | none=>.bad):=(rfl)
theorem qHc(i j:Int)(h:AH):biD .add (.int i) (.int j) h=(.ok (.int (i+j)) h):=(rfl)
theorem qHb(a b:Tx)(h:AH):biD .add (.str a) (.str b) h=(if a.length+b.length<=16777216 then .ok (.str (a++b)) h else .bad):=(rfl)
theorem qHa(a b:List D)(h:AH):biD .add (.tup a) (.tup b) h=(if a.length+b.length<=16777216 then .ok (.tup (a++b)) h else .bad):=(rfl)
theorem qHZ(i j:Nat)(h:AH):biD .add (.ref i) (.ref j) h=(match h[i]?,h[j]? with | some (.lst xs),some (.lst ys)=>newL (xs++ys) h | _,_=>.bad):=(rfl)
theorem qHC(i j:Int)(h:AH):biD .sub (.int i) (.int j) h=(.ok (.int (i-j)) h):=(rfl)
theorem qHH(i j:Int)(h:AH):biD .mul (.int i) (.int j) h=(if kO i j then .ok (.int (i*j)) h else .bad):=(rfl)
theorem qHD(a:Tx)(c:Nat)(h:AH):biD .split (.str a) (.str [c]) h=(if c<256/\a.length<=1000000 then newL ((jX a (zM c 0 a)).map .str) h else .bad):=(rfl)
theorem qHE(a:Tx)(c:Nat)(h:AH):biD .rpart (.str a) (.str [c]) h=(if a.length<=1000000 then .ok (.tup ((jM a c).map .str)) h else .bad):=(rfl)
theorem qHT(k:Nat)(i:Int)(h:AH):biD .get (.ref k) (.int i) h=(aQ k (.int i) h):=(rfl)
theorem qHW(k j:Nat)(h:AH):biD .extend (.ref k) (.ref j) h=(match h[k]?,h[j]? with | some (.lst xs),some (.lst ys)=>if xs.length+ys.length<=16777216 then .ok .non (h.set k (.lst (xs++ys))) else .bad | _,_=>.bad):=(rfl)
theorem qHV(i j:Int)(h:AH):biD .fdiv (.int i) (.int j) h=(if 0<j/\j<1073741824 then .ok (.int (i / j)) h else .bad):=(rfl)
theorem qHI(i j:Int)(h:AH):biD .mod (.int i) (.int j) h=(if 0<j then .ok (.int (i % j)) h else .bad):=(rfl)
theorem qHX(x y:D)(h:AH):biD .eq x y h=(match zX h x y with | some b=>.ok (.bl b) h | none=>.bad):=(rfl)
theorem qHG(x y:D)(h:AH):biD .ne x y h=(match zX h x y with | some b=>.ok (.bl (!b)) h | none=>.bad):=(rfl)
theorem qHL(i j:Int)(h:AH):biD .lt (.int i) (.int j) h=(.ok (.bl (decide (i<j))) h):=(rfl)
theorem qHM(i j:Int)(h:AH):biD .le (.int i) (.int j) h=(.ok (.bl (decide (i<=j))) h):=(rfl)
theorem qHS(i j:Int)(h:AH):biD .gt (.int i) (.int j) h=(.ok (.bl (decide (j<i))) h):=(rfl)
theorem qHU(i j:Int)(h:AH):biD .ge (.int i) (.int j) h=(.ok (.bl (decide (j<=i))) h):=(rfl)
theorem qHR(c:Nat)(b:Tx)(h:AH):biD .isin (.str [c]) (.str b) h=(.ok (.bl (b.contains c)) h):=(rfl)
theorem qHF(a:Int)(i:Nat)(h:AH):biD .notin (.int a) (.ref i) h=(match (qC h i).bind jB with | some xs=>.ok (.bl (!xs.contains a)) h | none=>vF i (.int a) h):=(rfl)
theorem qHQ(xs:List D)(i:Int)(h:AH):biD .ix (.tup xs) (.int i) h=(match (ixN xs.length i).bind (xs[·]?) with | some d=>.ok d h | none=>.bad):=(rfl)
theorem qHP(x:Tx)(i:Int)(h:AH):biD .ix (.str x) (.int i) h=(if x.length<=16777216 then (match (ixN x.length i).bind (x[·]?) with | some c=>.ok (.str [c]) h | none=>.bad) else .bad):=(rfl)
theorem qHO(k:Nat)(i:Int)(h:AH):biD .ix (.ref k) (.int i) h=(match (qC h k).bind fun xs=>(ixN xs.length i).bind (xs[·]?) with | some d=>.ok d h | none=>ixK k (.int i) h):=(rfl)
theorem qHJ(i j:Int)(h:AH):biD .min2 (.int i) (.int j) h=(.ok (.int (if j<i then j else i)) h):=(rfl)
theorem qHK(i j:Int)(h:AH):biD .max2 (.int i) (.int j) h=(.ok (.int (if j > i then j else i)) h):=(rfl)
theorem qHB(x:Tx)(n:Int)(h:AH):biD .zfill (.str x) (.int n) h=(if 0<=n/\n<=1000/\jH x=true/\x.length<=1000 then .ok (.str (List.replicate (n.toNat-x.length) 48++x)) h else .bad):=(rfl)
theorem qHN(x:Tx)(i:Nat)(h:AH):biD .join (.str x) (.ref i) h=(match (qC h i).bind jC with | some xs=>if kA x xs<=16777216 then .ok (.str (zF x xs)) h else .bad | none=>.bad):=(rfl)
theorem qHY(k:Nat)(d:D)(h:AH):biD .append (.ref k) d h=(match h[k]? with | some (.lst xs)=>if xs.length<16777216 then .ok .non (h.set k (.lst (xs++[d]))) else .bad | _=>.bad):=(rfl)
theorem qFB(b:Bool)(h:AH):wO (.bl b) h=(.ok b h):=(rfl)
theorem qKZ(x:Tx)(h:AH):aI (.str x) h=(.ok (.row (x.map fun c=>.str [c])) h):=(rfl)
theorem qKY(xs:List D)(h:AH):aI (.tup xs) h=(.ok (.row xs) h):=(rfl)
theorem qKa(i:Nat)(h:AH):aI (.ref i) h=(match qC h i with | some _=>.ok (.live i) h | none=>.bad):=(rfl)
theorem qF2(x:Tx)(l u:Option Int)(h:AH):slD (.str x) l u h=(if x.length<=16777216 then .ok (.str (qO x l u)) h else .bad):=(rfl)
theorem qF0(x:List D)(l u:Option Int)(h:AH):slD (.tup x) l u h=(.ok (.tup (qO x l u)) h):=(rfl)
theorem qF8(i:Nat)(l u:Option Int)(h:AH):slD (.ref i) l u h=(match qC h i with | some xs=>newL (qO xs l u) h | none=>.bad):=(rfl)
theorem qI3(i:Nat)(h:AH):jA .append (.ref i) h=(match qC h i with | some _=>.ok () h | none=>.bad):=(rfl)
theorem qIx(x:Tx)(h:AH):jA .zfill (.str x) h=.ok () h:=(rfl)
theorem qI0(x:Tx)(h:AH):jA .join (.str x) h=.ok () h:=(rfl)
theorem qI1(i:Nat)(h:AH):jA .get (.ref i) h=(match h[i]? with | some (.dct _)=>.ok () h | _=>.bad):=(rfl)
theorem qI2(i:Nat)(h:AH):jA .extend (.ref i) h=(match qC h i with | some _=>.ok () h | none=>.bad):=(rfl)
theorem qET(i:Nat)(k:List D->M D)(h:AH):tL (.ref i) k h=(match h[i]? with | some (.dct kvs)=>if kvs.length<16777216 then yW i (k (jG kvs) (h.set i (.rod kvs))) else .bad | _=>.bad):=(rfl)
theorem qE8{α:Type}(i:Nat)(a:α)(h:AH):yW i (.ok a h)=(match h[i]? with | some (.rod kvs)=>.ok a (h.set i (.dct kvs)) | _=>.bad):=(rfl)
theorem qMD(step:D->Env->AH->SR)(i:Nat)(σ:Env)(h:AH):qCi step (.ref i) σ h=(match h[i]? with | some (.dct kvs)=>(zS step (jG kvs) σ (h.set i (.rod kvs))).thaw i | _=>.bad):=(rfl)
theorem qE7(i:Nat)(σ:Env)(h:AH):SR.thaw i (.nx σ h)=(match h[i]? with | some (.rod kvs)=>.nx σ (h.set i (.dct kvs)) | _=>.bad):=(rfl)
theorem qIy(x:Tx)(h:AH):jA .split (.str x) h=.ok () h:=(rfl)
theorem qIz(x:Tx)(h:AH):jA .rpart (.str x) h=.ok () h:=(rfl)
theorem qKo(i:Int)(h:AH):qCL (.int i) h=.ok (some i) h:=(rfl)
theorem isi_int(t:Ty)(i:Int)(h:AH):kB h t (.int i)=(some (t == .int)):=(rfl)
theorem isi_str(t:Ty)(x:Tx)(h:AH):kB h t (.str x)=(some (t == .str)):=(rfl)
theorem isi_tup(t:Ty)(xs:List D)(h:AH):kB h t (.tup xs)=(some (t == .tuple)):=(rfl)
theorem qMO(i1:Int)(i2:Int)(h:AH):zX h (.int i1) (.int i2)=(some (i1 == i2)):=(rfl)
theorem qMN(x1:Tx)(x2:Tx)(h:AH):zX h (.str x1) (.str x2)=(some (x1 == x2)):=(rfl)
open PySem PySem.Spec PyProof.Rows
open L2 (V Hp HO VK TE TT TA TS TI Cx Inv RelV Vals SqL SqT Rd upd qI qG PE PT PA PS PSs EP)
mutual
def RepV(K:PySem.W.Frag)(ρ:List Addr)(H:Hp):D->V->Prop
 | .non,v=>v=.non
 | .bl b,v=>v=.bl b
 | .int i,v=>v=.int i
 | .str x,v=>v=.str ⟨x.toArray⟩
 | .tup xs,v=>∃ a vs,v=.ref a/\SqT K H a vs/\RepL K ρ H xs vs
 | .ref i,v=>∃ a,ρ[i]?=some a/\v=.ref a
def RepL(K:PySem.W.Frag)(ρ:List Addr)(H:Hp):List D->List V->Prop
 | [],vs=>vs=[]
 |x::xs,vs=>∃ v r,vs=v::r/\RepV K ρ H x v/\RepL K ρ H xs r
end
def KL(K:PySem.W.Frag)(a:Addr)(xs:List V):Prop:=
 ∃ (o:Obj) (its:Array Value) (n:Nat),K.lookup a=some o/\o.cls=.type "list"/\o.dict=none/\o.data=.seq its n/\its.size<=sizeLine/\Vals xs its.toList
def zJ(K:PySem.W.Frag)(c:Nat)(C:Addr):Prop:=PySem.W.nsIn K mainGlobals (qD c)=some (some (.ref C))
def xcO(a C:Addr):HO:=.ext fun h=>∃ o,h.get? a=some o/\o.cls=.ref C
def RepF(K:PySem.W.Frag)(ρ:List Addr)(H:Hp)(C:Addr):List (Nat × D)->List (Str × V)->Prop
 | [],vs=>vs=[]
 |x::xs,vs=>∃ v r,vs=(qD x.1,v)::r/\x.1<256 ^ 60/\L2.NoAttr K C (qD x.1)/\RepV K ρ H x.2 v/\RepF K ρ H C xs r
def kyV:Ky->L2.Key
 | .int i=>.inl i
 | .str x=>.inr ⟨x.toArray⟩
def RepK(K:PySem.W.Frag)(ρ:List Addr)(H:Hp):List (Ky × D)->List (L2.Key × V)->Prop
 | [],vs=>vs=[]
 |x::xs,vs=>∃ v r,vs=(kyV x.1,v)::r/\RepV K ρ H x.2 v/\RepK K ρ H xs r
def RepO(K:PySem.W.Frag)(ρ:List Addr)(H:Hp):O->Addr->Prop
 | .lst xs,a=>∃ vs,H a=some (.lst vs)/\RepL K ρ H xs vs
 | .rol xs,a=>∃ vs,((∃ o,H a=some (.frz o (.lst vs)))\/KL K a vs)/\RepL K ρ H xs vs
 | .ins c fs,a=>∃ C dx vs,zJ K c C/\L2.Cls K C/\H a=some (.ins C dx vs)/\RepF K ρ H C fs vs
 | .dct kvs,a=>∃ vs,H a=some (.dK vs)/\RepK K ρ H kvs vs
 | .xc c,a=>∃ C,zJ K c C/\H a=some (xcO a C)
 | .rod kvs,a=>∃ ob vs,H a=some (.frz ob (.dK vs))/\RepK K ρ H kvs vs
def jY:O->Bool
 | .rol _=>false
 | .xc _=>false
 |_=>true
structure RepH (K:PySem.W.Frag) (ρ:List Addr) (h:AH) (H:Hp):Prop where
 len:ρ.length=h.length
 obj:∀ (i:Nat) (o:O),h[i]?=some o->∃ a,ρ[i]?=some a/\RepO K ρ H o a
 inj:∀ (i j:Nat) (a:Addr) (o o':O),h[i]?=some o->h[j]?=some o'->jY o=true->jY o'=true->ρ[i]?=some a->ρ[j]?=some a->i=j
def Imm:HO->Bool
 | .tup _=>true
 | .frz _ _=>true
 | .ext _=>true
 |_=>false
structure Step (ρ:List Addr) (H:Hp) (ρ':List Addr) (H':Hp):Prop where
 pre:ρ <+: ρ'
 new:∀ a∈ρ',a∈ρ\/H a=none
 keep:∀ a o,H a=some o->(Imm o=true\/a∉ρ)->H' a=some o
theorem Step.refl(ρ:List Addr)(H:Hp):Step ρ H ρ H:=⟨List.prefix_refl _,fun _ h=>.inl h,fun _ _ h _=>h⟩
theorem Step.trans{ρ ρ1 ρ2:List Addr}{H H1 H2:Hp}(a:Step ρ H ρ1 H1)(b:Step ρ1 H1 ρ2 H2):Step ρ H ρ2 H2:=by
 refine⟨a.pre.trans b.pre,fun x hx=>?_,fun x o h c=>b.keep x o (a.keep x o h c) (c.imp id fun n m=>?_)⟩
 ·rcases b.new x hx with h | h
  ·exact a.new x h
  ·by_cases m:x∈ρ
   ·exact .inl m
   ·cases q:H x with
    |none=>exact .inr rfl
    |some o=>rw[a.keep x o q (.inr m)] at h;cases h
 ·rcases a.new x m with z | z
  ·exact n z
  ·rw[h] at z;cases z
theorem Step.tup{ρ ρ':List Addr}{H H':Hp}(e:Step ρ H ρ' H'){a:Addr}{vs:List V}(h:Rd H a (.tup vs)):Rd H' a (.tup vs):=by
 rcases h with h | ⟨o,h⟩
 ·exact .inl (e.keep _ _ h (.inl rfl))
 ·exact .inr ⟨o,e.keep _ _ h (.inl rfl)⟩
theorem Step.sqt{K:PySem.W.Frag}{ρ ρ':List Addr}{H H':Hp}{a:Addr}{vs:List V}(e:Step ρ H ρ' H')(h:SqT K H a vs):SqT K H' a vs:=h.imp e.tup id
theorem vC{ρ ρ':List Addr}(p:ρ <+: ρ'){i:Nat}{a:Addr}(h:ρ[i]?=some a):ρ'[i]?=some a:=by
 obtain ⟨t,rfl⟩:=p;rw[List.getElem?_append_left (List.getElem?_eq_some_iff.mp h).1];exact h
section
variable {K:PySem.W.Frag}{ρ ρ':List Addr}{H H':Hp}{a:Addr}
mutual
theorem RepV.mono(e:Step ρ H ρ' H'):∀ (d:D) (v:V),RepV K ρ H d v->RepV K ρ' H' d v
 | .non,_,h=>h
 | .bl _,_,h=>h
 | .int _,_,h=>h
 | .str _,_,h=>h
 | .tup xs,v,⟨a,vs,h1,h2,h3⟩=>⟨a,vs,h1,e.sqt h2,RepL.mono e xs vs h3⟩
 | .ref _,_,⟨a,h1,h2⟩=>⟨a,vC e.pre h1,h2⟩
theorem RepL.mono(e:Step ρ H ρ' H'):∀ (ds:List D) (vs:List V),RepL K ρ H ds vs->RepL K ρ' H' ds vs
 | [],_,h=>h
 |d::ds,_,⟨v,r,h1,h2,h3⟩=>⟨v,r,h1,RepV.mono e d v h2,RepL.mono e ds r h3⟩
end
theorem RepL.length:∀ {ds:List D} {vs:List V},RepL K ρ H ds vs->vs.length=ds.length
 | [],_,h=>by cases h;rfl
 |d::ds,_,⟨v,r,h1,_,h3⟩=>by subst h1;simp[RepL.length h3]
theorem RepL.get:∀ {ds:List D} {vs:List V} {i:Nat} {d:D},RepL K ρ H ds vs->ds[i]?=some d->∃ v,vs[i]?=some v/\RepV K ρ H d v
 | [],_,_,_,_,e=>by simp at e
 |x::ds,_,0,d,⟨v,r,h1,h2,_⟩,e=>by
  subst h1;simp at e;subst e
  exact⟨v,rfl,h2⟩
 |x::ds,_,i+1,d,⟨v,r,h1,_,h3⟩,e=>by
  subst h1;simpa using RepL.get (i:=i) h3 (by simpa using e)
theorem RepL.append:∀ {ds es:List D} {vs ws:List V},RepL K ρ H ds vs->RepL K ρ H es ws->RepL K ρ H (ds++es) (vs++ws)
 | [],_,_,_,h,k=>by cases h;exact k
 |x::ds,es,_,ws,⟨v,r,h1,h2,h3⟩,k=>by subst h1;exact⟨v,r++ws,rfl,h2,RepL.append h3 k⟩
theorem RepL.drop:∀ {ds:List D} {vs:List V} (n:Nat),RepL K ρ H ds vs->RepL K ρ H (ds.drop n) (vs.drop n)
 |_,_,0,h=>h
 | [],_,n+1,h=>by cases h;exact rfl
 |x::ds,_,n+1,⟨v,r,h1,_,h3⟩=>by subst h1;exact RepL.drop n h3
theorem RepL.take:∀ {ds:List D} {vs:List V} (n:Nat),RepL K ρ H ds vs->RepL K ρ H (ds.take n) (vs.take n)
 |_,_,0,h=>by simp[RepL]
 | [],_,n+1,h=>by cases h;simp[RepL]
 |x::ds,_,n+1,⟨v,r,h1,h2,h3⟩=>by subst h1;exact⟨v,r.take n,rfl,h2,RepL.take n h3⟩
theorem Step.fresh{p:Addr}{o:HO}(hp:H p=none):Step ρ H ρ (upd H p o):=
 ⟨List.prefix_refl _,fun _ h=>.inl h,fun a ob h _=>by rw[qG (L2.ne_of_none h hp)];exact h⟩
theorem Step.new1{p:Addr}{o:HO}(hp:H p=none):Step ρ H (ρ++[p]) (upd H p o):=
 ⟨List.prefix_append _ _,fun a h=>(List.mem_append.mp h).imp id fun z=>by rw[List.mem_singleton.mp z];exact hp,fun a ob h _=>by rw[qG (L2.ne_of_none h hp)];exact h⟩
theorem Step.turn{p:Addr}{o o':HO}(hp:H p=some o)(hi:Imm o=false)(hm:p∈ρ):Step ρ H ρ (upd H p o'):=by
 refine⟨List.prefix_refl _,fun _ h=>.inl h,fun a ob h c=>?_⟩;rw[qG]
 ·exact h
 ·intro z;subst z;rcases c with c | c
  ·rw[hp] at h;cases h;rw[hi] at c;cases c
  ·exact c hm
theorem RepF.mono{C:Addr}(e:Step ρ H ρ' H'):∀ (ds:List (Nat × D)) (vs:List (Str × V)),RepF K ρ H C ds vs->RepF K ρ' H' C ds vs
 | [],_,h=>h
 |d::ds,_,⟨v,r,h1,hb,hn,h2,h3⟩=>⟨v,r,h1,hb,hn,RepV.mono e _ v h2,RepF.mono e ds r h3⟩
theorem RepK.mono(e:Step ρ H ρ' H'):∀ (ds:List (Ky × D)) (vs:List (L2.Key × V)),RepK K ρ H ds vs->RepK K ρ' H' ds vs
 | [],_,h=>h
 |d::ds,_,⟨v,r,h1,h2,h3⟩=>⟨v,r,h1,RepV.mono e _ v h2,RepK.mono e ds r h3⟩
theorem RepO.mono(e:Step ρ H ρ' H'){o:O}(l:jY o=true->∀ u,H a=some u->H' a=some u)(h:RepO K ρ H o a):RepO K ρ' H' o a:=by
 cases o with
 |lst xs=>
  obtain ⟨vs,h1,h2⟩:=h
  exact⟨vs,l rfl _ h1,RepL.mono e _ _ h2⟩
 |rol xs=>
  obtain ⟨vs,h1,h2⟩:=h;refine⟨vs,?_,RepL.mono e _ _ h2⟩;rcases h1 with⟨ob,h1⟩ | h1
  ·exact .inl ⟨ob,e.keep _ _ h1 (.inl rfl)⟩
  ·exact .inr h1
 |ins c fs=>
  obtain ⟨C,dx,vs,h1,hc,h2,h3⟩:=h
  exact⟨C,dx,vs,h1,hc,l rfl _ h2,RepF.mono e _ _ h3⟩
 |dct kvs=>
  obtain ⟨vs,h1,h2⟩:=h
  exact⟨vs,l rfl _ h1,RepK.mono e _ _ h2⟩
 |xc c=>
  obtain ⟨C,h1,h2⟩:=h
  exact⟨C,h1,e.keep _ _ h2 (.inl rfl)⟩
 |rod kvs=>
  obtain ⟨ob,vs,h1,h2⟩:=h
  exact⟨ob,vs,e.keep _ _ h1 (.inl rfl),RepK.mono e _ _ h2⟩
theorem RepO.there{o:O}(h:RepO K ρ H o a)(m:jY o=true):∃ u,H a=some u:=by
 cases o with
 |lst xs=>obtain ⟨vs,h1,_⟩:=h;exact⟨_,h1⟩
 |rol xs=>cases m
 |ins c fs=>obtain ⟨C,dx,vs,_,_,h1,_⟩:=h;exact⟨_,h1⟩
 |dct kvs=>obtain ⟨vs,h1,_⟩:=h;exact⟨_,h1⟩
 |xc c=>cases m
 |rod kvs=>obtain ⟨ob,vs,h1,_⟩:=h;exact⟨_,h1⟩
theorem RepH.fresh{h:AH}{p:Addr}{o:HO}(r:RepH K ρ h H)(hp:H p=none):RepH K ρ h (upd H p o):=
 ⟨r.len,fun i ob hi=>let ⟨a,h1,h2⟩:=r.obj i ob hi;⟨a,h1,h2.mono (Step.fresh hp) (fun _ u z=>by rw[qG (L2.ne_of_none z hp)];exact z)⟩,r.inj⟩
theorem RepH.newO{h:AH}(r:RepH K ρ h H){p:Addr}{o:O}{u:HO}(hp:H p=none)(ho:RepO K (ρ++[p]) (upd H p u) o p) :
  RepH K (ρ++[p]) (h++[o]) (upd H p u):=by
 have e:Step ρ H (ρ++[p]) (upd H p u):=Step.new1 hp;refine⟨by simp[r.len],fun i ob hi=>?_,fun i j a o1 o2 hi hj m1 m2 hai haj=>?_⟩
 ·by_cases hlt:i<h.length
  ·rw[List.getElem?_append_left hlt] at hi;obtain ⟨a,h1,h2⟩:=r.obj i ob hi
   exact⟨a,vC e.pre h1,h2.mono e (fun _ u z=>by rw[qG (L2.ne_of_none z hp)];exact z)⟩
  ·have hi':=(List.getElem?_eq_some_iff.mp hi).1;simp at hi';have e':i=h.length:=by omega
   subst e';rw[List.getElem?_append_right (Nat.le_refl _)] at hi;simp at hi;subst hi;refine⟨p,?_,ho⟩;rw[<- r.len,List.getElem?_append_right (Nat.le_refl _)];simp
 ·have key:∀ (i:Nat) (z:O),jY z=true->(h++[o])[i]?=some z->(ρ++[p])[i]?=some a->(i<h.length/\h[i]?=some z/\ρ[i]?=some a/\a≠p)\/(i=h.length/\a=p):=fun i z mz hi hai=>by
   by_cases hlt:i<h.length
   ·rw[List.getElem?_append_left hlt] at hi;rw[List.getElem?_append_left (by rw[r.len];exact hlt)] at hai;refine .inl ⟨hlt,hi,hai,fun q=>?_⟩;obtain ⟨b,h1,h2⟩:=r.obj i _ hi;rw[hai] at h1;cases h1;obtain ⟨w,h3⟩:=h2.there mz;rw[q,hp] at h3;cases h3
   ·have hi':=(List.getElem?_eq_some_iff.mp hi).1;simp at hi';have e':i=h.length:=by omega
    subst e';rw[<- r.len,List.getElem?_append_right (Nat.le_refl _)] at hai;simp at hai;exact .inr ⟨rfl,hai.symm⟩
  rcases key i _ m1 hi hai with⟨h1,h2,h3,h4⟩ | ⟨h1,h2⟩ <;> rcases key j _ m2 hj haj with⟨k1,k2,k3,k4⟩ | ⟨k1,k2⟩
  ·exact r.inj i j a _ _ h2 k2 m1 m2 h3 k3
  ·exact absurd k2 h4
  ·exact absurd h2 k4
  ·omega
theorem RepH.setO{h:AH}(r:RepH K ρ h H){k:Nat}{p:Addr}{o o':O}{u u':HO}(hk:h[k]?=some o)(m:jY o=true)(m':jY o'=true)(hr:ρ[k]?=some p)(hp:H p=some u)(hi':Imm u=false)(hx:RepO K ρ (upd H p u') o' p) :
  RepH K ρ (h.set k o') (upd H p u'):=by
 have e:Step ρ H ρ (upd H p u'):=Step.turn hp hi' (List.mem_of_getElem? hr);have hkl:=(List.getElem?_eq_some_iff.mp hk).1;refine⟨by simp[r.len],fun i ob hi=>?_,fun i j a o1 o2 hi hj m1 m2 hai haj=>?_⟩
 ·rw[List.getElem?_set] at hi
  by_cases hik:k=i
  ·rw[if_pos hik,if_pos (by omega)] at hi;cases hi;subst hik
   exact⟨p,hr,hx⟩
  ·rw[if_neg hik] at hi;obtain ⟨a,h1,h2⟩:=r.obj i ob hi;refine⟨a,h1,h2.mono e fun mo w hw=>?_⟩;rw[qG fun z=>hik (r.inj k i p _ _ hk hi m mo hr (by rw[<- z];exact h1))];exact hw
 ·have key:∀ (i:Nat) (z:O),jY z=true->(h.set k o')[i]?=some z->∃ z',h[i]?=some z'/\jY z'=true:=fun i z mz hi=>by
   rw[List.getElem?_set] at hi
   by_cases hik:k=i
   ·subst hik
    exact⟨_,hk,m⟩
   ·rw[if_neg hik] at hi
    exact⟨_,hi,mz⟩
  obtain ⟨_,hi',n1⟩:=key i _ m1 hi;obtain ⟨_,hj',n2⟩:=key j _ m2 hj;exact r.inj i j a _ _ hi' hj' n1 n2 hai haj
theorem RepH.newList{h:AH}(r:RepH K ρ h H){p:Addr}{xs:List D}{vs:List V}(hp:H p=none)(hx:RepL K ρ H xs vs) :
  RepH K (ρ++[p]) (h++[.lst xs]) (upd H p (.lst vs)):=r.newO hp ⟨vs,qI,RepL.mono (Step.new1 hp) _ _ hx⟩
theorem RepH.setList{h:AH}(r:RepH K ρ h H){k:Nat}{p:Addr}{xs ys:List D}{us vs:List V}(hk:h[k]?=some (.lst xs))(hr:ρ[k]?=some p)(hp:H p=some (.lst us))(hx:RepL K ρ H ys vs) :
  RepH K ρ (h.set k (.lst ys)) (upd H p (.lst vs)):=r.setO hk rfl rfl hr hp rfl ⟨vs,qI,RepL.mono (Step.turn hp rfl (List.mem_of_getElem? hr)) _ _ hx⟩
theorem RepH.list{h:AH}(r:RepH K ρ h H){i:Nat}{xs:List D}(hi:qC h i=some xs):∃ a vs,ρ[i]?=some a/\SqL K H a vs/\RepL K ρ H xs vs:=by
 unfold qC at hi;cases e:h[i]? with
 |none=>rw[e] at hi;cases hi
 |some o=>
  rw[e] at hi;obtain ⟨a,h1,h2⟩:=r.obj i o e;cases o with
  |lst ys=>
   cases hi;obtain ⟨vs,h3,h4⟩:=h2
   exact⟨a,vs,h1,L2.SqL.of h3,h4⟩
  |rol ys=>
   cases hi;obtain ⟨vs,h3,h4⟩:=h2;refine⟨a,vs,h1,?_,h4⟩;rcases h3 with⟨ob,h3⟩ | h3
   ·exact .inl (.inr ⟨ob,h3⟩)
   ·exact .inr h3
  |_=>cases hi
end
def RepS(K:PySem.W.Frag)(ρ:List Addr)(H:Hp)(env:Env)(σ:L2.St):Prop:=env.length=σ.length/\∀ (i:Nat) (d:D),env[i]?=some (some d)->∃ v,σ[i]?=some (some v)/\RepV K ρ H d v
theorem RepS.mono{K:PySem.W.Frag}{ρ ρ':List Addr}{H H':Hp}{env:Env}{σ:L2.St}(s:RepS K ρ H env σ)(e:Step ρ H ρ' H'):RepS K ρ' H' env σ:=
 ⟨s.1,fun i d h=>let ⟨v,h1,h2⟩:=s.2 i d h;⟨v,h1,h2.mono e _ _⟩⟩
theorem RepS.set{K:PySem.W.Frag}{ρ:List Addr}{H:Hp}{env:Env}{σ:L2.St}(s:RepS K ρ H env σ)(k:Nat){d:D}{v:V}(r:RepV K ρ H d v):RepS K ρ H (env.set k (some d)) (σ.set k (some v)):=by
 refine⟨by simp[s.1],fun i d' h=>?_⟩;rw[List.getElem?_set] at h ⊢
 by_cases hk:k=i
 ·subst hk;rw[if_pos rfl] at h ⊢
  by_cases hl:k<env.length
  ·rw[if_pos hl] at h;cases h;rw[if_pos (by rw[<- s.1];exact hl)]
   exact⟨v,rfl,r⟩
  ·rw[if_neg hl] at h;cases h
 ·rw[if_neg hk] at h ⊢;exact s.2 i d' h
abbrev WX:=Nat->L2.St->Hp->Prop
abbrev W1:=Nat->Hp->Prop
abbrev WX.at(W:WX)(σ:L2.St):W1:=fun c H=>W c σ H
def Post{α:Type}(K:PySem.W.Frag)(w:W1)(rep:List Addr->Hp->α->Prop)(ρ:List Addr)(H:Hp):R α->Prop
 | .ok a h=>∀ (ρ':List Addr) (H':Hp),Step ρ H ρ' H'->RepH K ρ' h H'->rep ρ' H' a
 | .exc c h=>∀ (ρ':List Addr) (H':Hp),Step ρ H ρ' H'->RepH K ρ' h H'->w c H'
 | .bad=>False
abbrev PostV(K:PySem.W.Frag)(w:W1)(Q:VK)(ρ:List Addr)(H:Hp)(r:R D):Prop:=Post K w (fun ρ' H' d=>∀ v,RepV K ρ' H' d v->Q v H') ρ H r
theorem Post.mono{α:Type}{K:PySem.W.Frag}{w:W1}{rep:List Addr->Hp->α->Prop}{ρ ρ1:List Addr}{H H1:Hp}{r:R α}(p:Post K w rep ρ H r)(e:Step ρ H ρ1 H1):Post K w rep ρ1 H1 r:=by
 cases r with
 |ok a h=>exact fun ρ' H' e' rh=>p ρ' H' (e.trans e') rh
 |exc _ _=>exact fun ρ' H' e' rh=>p ρ' H' (e.trans e') rh
 |bad=>exact p
def tD(K:PySem.W.Frag)(W:WX)(m:Env->M D):TE:=fun σ H Q=>∃ ρ env h,RepS K ρ H env σ/\RepH K ρ h H/\PostV K (W.at σ) Q ρ H (m env h)
def tDT(K:PySem.W.Frag)(W:WX)(m:Env->M Bool):TT:=fun σ H Q=>∃ ρ env h,RepS K ρ H env σ/\RepH K ρ h H/\Post K (W.at σ) (fun _ H' b=>Q b H') ρ H (m env h)
def tDL(K:PySem.W.Frag)(W:WX)(m:Env->M (List D)):TA:=fun σ H Q=>∃ ρ env h,RepS K ρ H env σ/\RepH K ρ h H/\Post K (W.at σ) (fun ρ' H' ds=>∀ vs,RepL K ρ' H' ds vs->Q vs H') ρ H (m env h)
theorem PE.imp{X:Cx}{e:Expr}{t t':TE}(h:PE X e t)(i:∀ σ H Q,t' σ H Q->t σ H Q):PE X e t':=fun pins s σ H Q I q=>h pins s σ H Q I (i σ H Q q)
theorem PT.imp{X:Cx}{e:Expr}{t t':TT}(h:PT X e t)(i:∀ σ H Q,t' σ H Q->t σ H Q):PT X e t':=fun pins s σ H Q I q=>h pins s σ H Q I (i σ H Q q)
theorem PA.imp{X:Cx}{e:List Expr}{t t':TA}(h:PA X e t)(i:∀ σ H Q,t' σ H Q->t σ H Q):PA X e t':=fun pos pins s σ H Q I q=>h pos pins s σ H Q I (i σ H Q q)
theorem PS.imp{X:Cx}{e:Stmt}{t t':TS}(h:PS X e t)(i:∀ D σ H,t' D σ H->t D σ H):PS X e t':=fun pins s σ H D I q=>h pins s σ H D I (i D σ H q)
theorem PSs.imp{X:Cx}{e:List Stmt}{t t':TS}(h:PSs X e t)(i:∀ D σ H,t' D σ H->t D σ H):PSs X e t':=fun pins s σ H D I q=>h pins s σ H D I (i D σ H q)
open L2 (V Hp HO VK TE TT TA TS TI Cx Inv RelV Vals SqL SqT Rd upd qI qG PE PT PA PS PSs EP OpR qL IxR MtR SlR PO TO)
theorem zK:sizeLine=16777216:=sizeLine_eq
theorem wP(a b:Tx):((⟨a.toArray⟩:Str)++(⟨b.toArray⟩:Str))=⟨(a++b).toArray⟩:=by
 show Str.append _ _=_;unfold Str.append;simp
theorem zL(a:Tx):(⟨a.toArray⟩:Str).length=a.length:=by
 unfold Str.length;simp
section
variable {X:Cx}{K:PySem.W.Frag}{ρ:List Addr}{H:Hp}{Q:VK}{h:AH}{w:W1}
theorem PostV.ite{c:Prop}[Decidable c]{r:R D}(p:PostV K w Q ρ H (if c then r else .bad)):c/\PostV K w Q ρ H r:=by
 by_cases hc:c
 ·rw[if_pos hc] at p
  exact⟨hc,p⟩
 ·rw[if_neg hc] at p;exact False.elim p
theorem PostV.now{d:D}{v:V}(p:PostV K w Q ρ H (.ok d h))(r:RepH K ρ h H)(hv:RepV K ρ H d v):Q v H:=p ρ H (Step.refl ρ H) r v hv
theorem PostV.newL{xs:List D}{vs:List V}(p:PostV K w Q ρ H (newL xs h))(r:RepH K ρ h H)(hv:RepL K ρ H xs vs):vs.length<=sizeLine/\∀ l,H l=none->Q (.ref l) (upd H l (.lst vs)):=by
 obtain ⟨hc,p⟩:=PostV.ite (c:=xs.length<=16777216) p;refine⟨by rw[hv.length,zK];exact hc,fun l hl=>?_⟩;refine p (ρ++[l]) _ (Step.new1 hl) (r.newList hl hv) _ ⟨l,?_,rfl⟩;rw[<- r.len,List.getElem?_append_right (Nat.le_refl _)];simp
theorem PostV.newT{xs:List D}{vs:List V}(p:PostV K w Q ρ H (.ok (.tup xs) h))(r:RepH K ρ h H)(hv:RepL K ρ H xs vs):∀ l,H l=none->Q (.ref l) (upd H l (.tup vs)):=fun l hl=>by
 have e:Step ρ H ρ (upd H l (.tup vs)):=Step.fresh hl;exact p ρ _ e (r.fresh hl) _ ⟨l,vs,rfl,L2.SqT.of qI,hv.mono e _ _⟩
def rB(K:PySem.W.Frag)(o:Bi):L2.R2:=fun x y H Q=>∃ (w:W1),∃ ρ h d e,RepH K ρ h H/\RepV K ρ H d x/\RepV K ρ H e y/\PostV K w Q ρ H (biD o d e h)
theorem qGs:OpR X (binaryOp .Sub) (rB X.K .sub):=by
 rintro pins s σ H x y v u Q I rx ry ⟨w,ρ,h,d,e,r,hd,he,p⟩
 cases d with
 |int i=>
  cases e with
  |int j=>cases hd;cases he;exact L2.op_sub pins s σ H _ _ v u Q I rx ry ⟨i,j,rfl,rfl,p.now r rfl⟩
  |_=>exact False.elim p
 |_=>exact False.elim p
theorem qGv:OpR X (binaryOp .Mult) (rB X.K .mul):=by
 rintro pins s σ H x y v u Q I rx ry ⟨w,ρ,h,d,e,r,hd,he,p⟩
 cases d with
 |int i=>
  cases e with
  |int j=>cases hd;cases he;obtain ⟨hc,p⟩:=PostV.ite (c:=kO i j) p;exact L2.op_mul pins s σ H _ _ v u Q I rx ry ⟨i,j,rfl,rfl,hc,p.now r rfl⟩
  |_=>exact False.elim p
 |_=>exact False.elim p
theorem qG2:OpR X (binaryOp .FloorDiv) (rB X.K .fdiv):=by
 rintro pins s σ H x y v u Q I rx ry ⟨w,ρ,h,d,e,r,hd,he,p⟩
 cases d with
 |int i=>
  cases e with
  |int j=>cases hd;cases he;obtain ⟨hc,p⟩:=PostV.ite (c:=0<j/\j<1073741824) p;exact L2.op_fdiv pins s σ H _ _ v u Q I rx ry ⟨i,j,rfl,rfl,hc,p.now r rfl⟩
  |_=>exact False.elim p
 |_=>exact False.elim p
theorem qGw:OpR X (binaryOp .Mod) (rB X.K .mod):=by
 rintro pins s σ H x y v u Q I rx ry ⟨w,ρ,h,d,e,r,hd,he,p⟩
 cases d with
 |int i=>
  cases e with
  |int j=>cases hd;cases he;obtain ⟨hc,p⟩:=PostV.ite (c:=0<j) p;exact L2.op_mod pins s σ H _ _ v u Q I rx ry ⟨i,j,rfl,rfl,hc,p.now r rfl⟩
  |_=>exact False.elim p
 |_=>exact False.elim p
theorem qGx:OpR X (compareOp .Lt) (rB X.K .lt):=by
 rintro pins s σ H x y v u Q I rx ry ⟨w,ρ,h,d,e,r,hd,he,p⟩
 cases d with
 |int i=>
  cases e with
  |int j=>cases hd;cases he;exact L2.op_lt pins s σ H _ _ v u Q I rx ry ⟨i,j,rfl,rfl,p.now r rfl⟩
  |_=>exact False.elim p
 |_=>exact False.elim p
theorem qGy:OpR X (compareOp .LtE) (rB X.K .le):=by
 rintro pins s σ H x y v u Q I rx ry ⟨w,ρ,h,d,e,r,hd,he,p⟩
 cases d with
 |int i=>
  cases e with
  |int j=>cases hd;cases he;exact L2.op_le pins s σ H _ _ v u Q I rx ry ⟨i,j,rfl,rfl,p.now r rfl⟩
  |_=>exact False.elim p
 |_=>exact False.elim p
theorem qG0:OpR X (compareOp .Gt) (rB X.K .gt):=by
 rintro pins s σ H x y v u Q I rx ry ⟨w,ρ,h,d,e,r,hd,he,p⟩
 cases d with
 |int i=>
  cases e with
  |int j=>cases hd;cases he;exact L2.op_gt pins s σ H _ _ v u Q I rx ry ⟨i,j,rfl,rfl,p.now r rfl⟩
  |_=>exact False.elim p
 |_=>exact False.elim p
theorem qG1:OpR X (compareOp .GtE) (rB X.K .ge):=by
 rintro pins s σ H x y v u Q I rx ry ⟨w,ρ,h,d,e,r,hd,he,p⟩
 cases d with
 |int i=>
  cases e with
  |int j=>cases hd;cases he;exact L2.op_ge pins s σ H _ _ v u Q I rx ry ⟨i,j,rfl,rfl,p.now r rfl⟩
  |_=>exact False.elim p
 |_=>exact False.elim p
theorem RepH.own{i:Nat}{xs:List D}(r:RepH K ρ h H)(e:h[i]?=some (.lst xs)){v:V}(hv:RepV K ρ H (.ref i) v):∃ a vs,v=.ref a/\ρ[i]?=some a/\H a=some (.lst vs)/\RepL K ρ H xs vs:=by
 obtain ⟨a,h1,h2⟩:=hv;obtain ⟨b,h3,vs,h4,h5⟩:=r.obj i _ e;rw[h1] at h3;cases h3
 exact⟨a,vs,h2,h1,h4,h5⟩
theorem RepH.seen{i:Nat}{xs:List D}(r:RepH K ρ h H)(e:qC h i=some xs){v:V}(hv:RepV K ρ H (.ref i) v):∃ a vs,v=.ref a/\SqL K H a vs/\RepL K ρ H xs vs:=by
 obtain ⟨a,h1,h2⟩:=hv;obtain ⟨b,vs,h3,h4,h5⟩:=r.list e;rw[h1] at h3;cases h3
 exact⟨a,vs,h2,h4,h5⟩
theorem qG4:OpR X (binaryOp .Add) (rB X.K .add):=by
 rintro pins s σ H x y v u Q I rx ry ⟨w,ρ,h,d,e,r,hd,he,p⟩
 cases d with
 |int i=>
  cases e with
  |int j=>cases hd;cases he;exact L2.op_add pins s σ H _ _ v u Q I rx ry ⟨i,j,rfl,rfl,p.now r rfl⟩
  |_=>exact False.elim p
 |str a=>
  cases e with
  |str b=>cases hd;cases he;obtain ⟨hc,p⟩:=PostV.ite (c:=a.length+b.length<=16777216) p;exact L2.op_add_str pins s σ H _ _ v u Q I rx ry ⟨_,_,rfl,rfl,by rw[zL,zL,zK];exact hc,by rw[wP];exact p.now r rfl⟩
  |_=>exact False.elim p
 |tup a=>
  cases e with
  |tup b=>
   obtain ⟨pa,va,rfl,ta,la⟩:=hd;obtain ⟨pb,vb,rfl,tb,lb⟩:=he;obtain ⟨hz,p⟩:=PostV.ite (c:=a.length+b.length<=16777216) p
   by_cases hc:a=[]
   ·subst hc;have ev:va=[]:=List.eq_nil_of_length_eq_zero la.length;subst ev;cases rx;cases ry;obtain ⟨its,r1,p1,_⟩:=I.tuple ta;obtain ⟨its2,r2,p2,_⟩:=I.tuple tb;have ei:its=[]:=r1.nil_iff.mpr rfl;subst ei;obtain ⟨⟨cls,dd,data,sl⟩,ho,hc,n,hd⟩:=id p1;obtain ⟨⟨bF,dd2,data2,sl2⟩,ho2,hc2,n2,hd2⟩:=id p2;simp only at hc hd hc2 hd2;subst hc hd hc2 hd2
    exact concat_meets ⟨_,ho,rfl⟩ ⟨_,ho2,rfl⟩ noFill_tuple_add seq_tuple_add PySem.F.slot_tuple_add PySem.F.entry_tuple_add (PySem.F.args_tuple_add_2 _ _)
     (tuple_addW0 pa pb _ _ n n2 dd dd2 sl sl2 rfl) ⟨ho,ho2,⟨.ref pb,H,I,rfl,p.now r ⟨pb,vb,rfl,tb,lb⟩⟩⟩
   refine L2.op_catT pins s σ H _ _ v u Q I rx ry ⟨pa,pb,va,vb,rfl,rfl,ta,tb,fun z=>hc ?_,by rw[la.length,lb.length,zK];exact hz,fun z=>?_,fun _=>p.newT r (la.append lb)⟩
   ·have:=la.length
    rw[z] at this;exact List.eq_nil_of_length_eq_zero this.symm
   ·subst z;have e:b=[]:=List.eq_nil_of_length_eq_zero lb.length.symm;subst e;rw[List.append_nil] at p;exact p.now r ⟨pa,va,rfl,ta,la⟩
  |_=>exact False.elim p
 |ref i=>
  cases e with
  |ref j=>
   have p:PostV X.K w Q ρ H (match h[i]?,h[j]? with | some (.lst xs),some (.lst ys)=>newL (xs++ys) h | _,_=>.bad):=p;split at p
   ·rename_i xs ys e1 e2;obtain ⟨a,va,rfl,_,ha,la⟩:=r.own e1 hd;obtain ⟨b,vb,rfl,_,hb,lb⟩:=r.own e2 he;obtain ⟨hz,q⟩:=p.newL r (la.append lb);exact L2.op_cat pins s σ H _ _ v u Q I rx ry ⟨a,b,va,vb,rfl,rfl,ha,hb,by rw[<- List.length_append];exact hz,q⟩
   ·exact False.elim p
  |_=>exact False.elim p
 |_=>exact False.elim p
end
theorem Post.bind{α β:Type}{K:PySem.W.Frag}{w:W1}{rep:List Addr->Hp->β->Prop}{rep':List Addr->Hp->α->Prop}{ρ:List Addr}{H:Hp}{m:M α}{f:α->M β}{h:AH}(p:Post K w rep ρ H (M.bind m f h))
  (k:∀ ρ' h' a H',Step ρ H ρ' H'->RepH K ρ' h' H'->Post K w rep ρ' H' (f a h')->rep' ρ' H' a):Post K w rep' ρ H (m h):=by
 unfold M.bind at p;cases e:m h with
 |ok a h1=>rw[e] at p;exact fun ρ1 H1 e1 r1=>k ρ1 h1 a H1 e1 r1 (Post.mono p e1)
 |exc c h1=>rw[e] at p;exact p
 |bad=>rw[e] at p;exact p
theorem Post.when{α:Type}{K:PySem.W.Frag}{w:W1}{rep:List Addr->Hp->α->Prop}{ρ:List Addr}{H:Hp}{c:Prop}[Decidable c]{m:M α}{h:AH}(p:Post K w rep ρ H (M.when c m h)):c/\Post K w rep ρ H (m h):=by
 unfold M.when at p
 by_cases hc:c
 ·rw[if_pos hc] at p
  exact⟨hc,p⟩
 ·rw[if_neg hc] at p;exact False.elim p
theorem Post.imp{α:Type}{K:PySem.W.Frag}{w:W1}{rep rep':List Addr->Hp->α->Prop}{ρ:List Addr}{H:Hp}{r:R α}(p:Post K w rep ρ H r)(k:∀ ρ' H' a,rep ρ' H' a->rep' ρ' H' a):Post K w rep' ρ H r:=by
 cases r with
 |ok a h=>exact fun ρ' H' e rh=>k ρ' H' a (p ρ' H' e rh)
 |exc _ _=>exact p
 |bad=>exact p
theorem Post.ret{α:Type}{K:PySem.W.Frag}{w:W1}{rep:List Addr->Hp->α->Prop}{ρ:List Addr}{H:Hp}{a:α}{h:AH}(p:Post K w rep ρ H (M.ret a h))(r:RepH K ρ h H):rep ρ H a:=p ρ H (Step.refl ρ H) r
section
variable {X:Cx}{F:Nat->List D->M D}{W:WX}{w:W1}
theorem two{o:Bi}{ca cb:CE}{σ:L2.St}{H:Hp}{Q:VK}(t:tD X.K W (den F (.bi o ca cb)) σ H Q):L2.tOp (rB X.K o) (tD X.K W (den F ca)) (tD X.K W (den F cb)) σ H Q:=by
 obtain ⟨ρ,env,h,s,r,p⟩:=t;rw[den] at p
 exact⟨ρ,env,h,s,r,Post.bind p fun ρ1 h1 d H1 e1 r1 q v hv=>⟨ρ1,env,h1,s.mono e1,r1,Post.bind q fun ρ2 h2 d2 H2 e2 r2 q2 w hw=>⟨_,ρ2,h2,d,d2,r2,hv.mono e2 _ _,hw,q2⟩⟩⟩
def rU(K:PySem.W.Frag)(o:Un):V->Hp->VK->Prop:=fun x H Q=>∃ (w:W1),∃ ρ h d,RepH K ρ h H/\RepV K ρ H d x/\PostV K w Q ρ H (unD o d h)
def rC(K:PySem.W.Frag)(o:Un):List V->Hp->VK->Prop:=fun xs H Q=>∃ x,xs=[x]/\rU K o x H Q
def rC2(K:PySem.W.Frag)(o:Bi):List V->Hp->VK->Prop:=fun xs H Q=>∃ x y,xs=[x,y]/\rB K o x y H Q
theorem one{o:Un}{ca:CE}{σ:L2.St}{H:Hp}{Q:VK}(t:tD X.K W (den F (.un o ca)) σ H Q):tD X.K W (den F ca) σ H fun x H1=>rU X.K o x H1 Q:=by
 obtain ⟨ρ,env,h,s,r,p⟩:=t;rw[den] at p
 exact⟨ρ,env,h,s,r,Post.bind p fun ρ1 h1 d H1 e1 r1 q v hv=>⟨_,ρ1,h1,d,r1,hv,q⟩⟩
theorem uO{v:V}{e:Expr}{d:D}(he:PE X e (L2.tC v))(hv:∀ ρ H,RepV X.K ρ H d v):PE X e (tD X.K W (den F (.lit d))):=PE.imp he fun σ H Q t=>by
 obtain ⟨ρ,env,h,s,r,p⟩:=t;rw[den] at p;exact Post.ret p r v (hv ρ H)
theorem qMt{i:Nat}{e:Expr}(he:PE X e (L2.tVar i)):PE X e (tD X.K W (den F (.var i))):=PE.imp he fun σ H Q t=>by
 obtain ⟨ρ,env,h,s,r,p⟩:=t;rw[den] at p;cases q:env[i]? with
 |none=>rw[q] at p;exact False.elim p
 |some o=>
  cases o with
  |none=>rw[q] at p;exact False.elim p
  |some d=>
   rw[q] at p;obtain ⟨v,h1,h2⟩:=s.2 i d q
   exact⟨v,h1,p ρ H (Step.refl ρ H) r v h2⟩
theorem qMq{es:List Expr}:PA X [] (tDL X.K W (qT F .nil)):=PA.imp L2.pa_nil fun σ H Q t=>by
 obtain ⟨ρ,env,h,s,r,p⟩:=t;rw[qT] at p;exact Post.ret p r [] rfl
theorem qMr{e:Expr}{es:List Expr}{c:CE}{cl:CL}(he:PE X e (tD X.K W (den F c)))(hr:PA X es (tDL X.K W (qT F cl)))(hs:starEach (e::es) X.env=(false,eval e X.env)::starEach es X.env) :
  PA X (e::es) (tDL X.K W (qT F (.cons c cl))):=PA.imp (L2.pa_cons he hr hs) fun σ H Q t=>by
 obtain ⟨ρ,env,h,s,r,p⟩:=t;rw[qT] at p;refine⟨ρ,env,h,s,r,Post.bind p fun ρ1 h1 d H1 e1 r1 q v hv=>⟨ρ1,env,h1,s.mono e1,r1,Post.bind q fun ρ2 h2 ds H2 e2 r2 q2 vs hvs=>?_⟩⟩;exact Post.ret q2 r2 (v::vs) ⟨v,vs,rfl,hv.mono e2 _ _,hvs⟩
theorem qNM{a b:Expr}{rest:List Expr}{pos:Pos}{ca cb:CE}(ha:PE X a (tD X.K W (den F ca)))(hb:PE X (.BoolOp .And (b::rest) pos) (tD X.K W (den F cb))) :
  PE X (.BoolOp .And (a::b::rest) pos) (tD X.K W (den F (.and ca cb))):=PE.imp (L2.pe_and ha hb) fun σ H Q t=>by
 obtain ⟨ρ,env,h,s,r,p⟩:=t;rw[den] at p;refine⟨ρ,env,h,s,r,Post.bind p fun ρ1 h1 d H1 e1 r1 q v hv=>?_⟩;cases d with
 |bl c=>
  cases hv;cases c with
  |true=>exact⟨true,rfl,⟨ρ1,env,h1,s.mono e1,r1,q⟩⟩
  |false=>exact⟨false,rfl,Post.ret q r1 _ rfl⟩
 |_=>exact False.elim q
theorem qMy{a b:Expr}{rest:List Expr}{pos:Pos}{ca cb:CE}(ha:PE X a (tD X.K W (den F ca)))(hb:PE X (.BoolOp .Or (b::rest) pos) (tD X.K W (den F cb))) :
  PE X (.BoolOp .Or (a::b::rest) pos) (tD X.K W (den F (.or ca cb))):=PE.imp (L2.pe_or ha hb) fun σ H Q t=>by
 obtain ⟨ρ,env,h,s,r,p⟩:=t;rw[den] at p;refine⟨ρ,env,h,s,r,Post.bind p fun ρ1 h1 d H1 e1 r1 q v hv=>?_⟩;cases d with
 |bl c=>
  cases hv;cases c with
  |true=>exact⟨true,rfl,Post.ret q r1 _ rfl⟩
  |false=>exact⟨false,rfl,⟨ρ1,env,h1,s.mono e1,r1,q⟩⟩
 |_=>exact False.elim q
theorem TruV.of{ρ:List Addr}{H:Hp}{h:AH}{d:D}{v:V}{rep:List Addr->Hp->Bool->Prop}(r:RepH X.K ρ h H)(hv:RepV X.K ρ H d v)(p:Post X.K w rep ρ H (wO d h)):∃ k,L2.TruV X.K v H k/\rep ρ H k:=by
 cases d with
 |non=>cases hv;exact⟨false,rfl,Post.ret (a:=false) p r⟩
 |bl b=>cases hv;exact⟨b,rfl,Post.ret (a:=b) p r⟩
 |int i=>cases hv;exact⟨i != 0,rfl,Post.ret (a:=i != 0) p r⟩
 |str x=>
  cases hv;have p:Post X.K w rep ρ H (if x.length<=16777216 then .ok (!x.isEmpty) h else .bad):=p
  by_cases hc:x.length<=16777216
  ·rw[if_pos hc] at p;refine⟨!x.isEmpty,⟨by rw[zL,zK];exact hc,?_⟩,Post.ret (a:=!x.isEmpty) p r⟩;rw[zL];cases x with
   |nil=>rfl
   |cons c x=>simp;omega
  ·rw[if_neg hc] at p;exact False.elim p
 |tup xs=>
  obtain ⟨a,vs,rfl,h1,h2⟩:=hv;refine⟨!xs.isEmpty,.inr (.inl ⟨vs,h1,?_⟩),Post.ret (a:=!xs.isEmpty) p r⟩
  have:=h2.length
  cases xs <;> cases vs <;> simp_all
 |ref i=>
  have p:Post X.K w rep ρ H (match qC h i with | some xs=>.ok (!xs.isEmpty) h | none=>.bad):=p;cases e:qC h i with
  |none=>rw[e] at p;exact False.elim p
  |some xs=>
   rw[e] at p;obtain ⟨a,vs,rfl,h1,h2⟩:=r.seen e hv;refine⟨!xs.isEmpty,.inl ⟨vs,h1,?_⟩,Post.ret (a:=!xs.isEmpty) p r⟩
   have:=h2.length
   cases xs <;> cases vs <;> simp_all
theorem qMS{e:Expr}{c:CE}(he:PE X e (tD X.K W (den F c)))(hi:∀ whole,isTrue e X.env whole=(do let v <- whole;standAt e.pos;holding [v] (truthy v))) :
  PT X e (tDT X.K W (qK F (.val c))):=PT.imp (L2.pt_truth he hi) fun σ H Q t=>by
 obtain ⟨ρ,env,h,s,r,p⟩:=t;rw[qK] at p
 exact⟨ρ,env,h,s,r,Post.bind p fun ρ1 h1 d H1 e1 r1 q v hv=>TruV.of r1 hv q⟩
def yH:Bi->Bool
 | .eq | .ne | .lt | .le | .gt | .ge | .isin | .notin=>true
 |_=>false
theorem qLs{k:Nat}{y:Ky}{h h':AH}{r:D}(q:vF k y h=.ok r h'):∃ b,r=.bl b:=by
 unfold vF at q;split at q
 ·cases q;exact⟨_,rfl⟩
 ·cases q
theorem qCw{o:Bi}{d e r:D}{h h':AH}(hc:yH o=true)(q:biD o d e h=.ok r h'):∃ k,r=.bl k:=by
  cases o with
  |eq=>
    have q:(match zX h d e with | some b=>R.ok (D.bl b) h | none=>.bad)=.ok r h':=q;split at q <;> cases q
    exact⟨_,rfl⟩
  |ne=>
    have q:(match zX h d e with | some b=>R.ok (D.bl (!b)) h | none=>.bad)=.ok r h':=q;split at q <;> cases q
    exact⟨_,rfl⟩
  |lt=>cases d <;> first | cases q | (cases e <;> first | (cases q;exact⟨_,rfl⟩) | cases q)
  |le=>cases d <;> first | cases q | (cases e <;> first | (cases q;exact⟨_,rfl⟩) | cases q)
  |gt=>cases d <;> first | cases q | (cases e <;> first | (cases q;exact⟨_,rfl⟩) | cases q)
  |ge=>cases d <;> first | cases q | (cases e <;> first | (cases q;exact⟨_,rfl⟩) | cases q)
  |isin=>
    cases d <;> first | cases q | cases e <;> first
      | (rename_i x y
         have q:(match aL x y with | some b=>R.ok (D.bl b) h | none=>.bad)=.ok r h':=q;split at q <;> cases q
         exact⟨_,rfl⟩)
      |cases q
  |notin=>
    cases d <;> first | cases q | cases e <;> first
      | (rename_i x y
         have q:(match aL x y with | some b=>R.ok (D.bl (!b)) h | none=>.bad)=.ok r h':=q;split at q <;> cases q
         exact⟨_,rfl⟩)
      | (rename_i x y
         have q:(match (qC h y).bind jB with | some xs=>R.ok (D.bl (!xs.contains x)) h | none=>vF y (.int x) h)=.ok r h':=q;split at q
         · cases q;exact⟨_,rfl⟩
         · exact qLs q)
      |cases q
  |_=>cases hc
theorem Post.cmp{o:Bi}{d e:D}{K:PySem.W.Frag}{w:W1}{ρ:List Addr}{H:Hp}{h:AH}{Q:Bool->Hp->Prop}(hc:yH o=true)(p:Post K w (fun _ H' b=>Q b H') ρ H (M.bind (biD o d e) wO h)) :
  PostV K w (fun x H'=>∃ k,x=.bl k/\Q k H') ρ H (biD o d e h):=by
 unfold M.bind at p;cases q:biD o d e h with
 |ok r h'=>rw[q] at p;obtain ⟨k,rfl⟩:=qCw hc q;exact fun ρ' H' e' r' v hv=>⟨k,hv,p ρ' H' e' r'⟩
 |exc c h'=>rw[q] at p;exact p
 |bad=>rw[q] at p;exact p
theorem qNI{a b:Expr}{op:CmpOp}{o:Bi}{ca cb:CE}{pos:Pos}(ho:OpR X (compareOp op) (rB X.K o))(ha:PE X a (tD X.K W (den F ca)))(hb:PE X b (tD X.K W (den F cb)))(hm:behindInMarks op b=false) :
  PE X (.Compare a [op] [b] pos) (tD X.K W (den F (.bi o ca cb))):=PE.imp (L2.pe_cmpR ho ha hb hm) fun _ _ _ t=>two t
theorem jR{α β γ:Type}(m:M α)(f:α->M β)(g:β->M γ):M.bind (M.bind m f) g=M.bind m fun x=>M.bind (f x) g:=by
 funext h;unfold M.bind;cases m h <;> rfl
theorem qMW{a b:Expr}{op:CmpOp}{o:Bi}{ca cb:CE}{pos:Pos}(hc:yH o=true)(ho:OpR X (compareOp op) (rB X.K o))(ha:PE X a (tD X.K W (den F ca)))(hb:PE X b (tD X.K W (den F cb)))(hm:behindInMarks op b=false) :
  PT X (.Compare a [op] [b] pos) (tDT X.K W (qK F (.val (.bi o ca cb)))):=PT.imp (L2.pt_cmpR ho ha hb hm) fun σ H Q t=>by
 obtain ⟨ρ,env,h,s,r,p⟩:=t;rw[qK,den,jR] at p;refine⟨ρ,env,h,s,r,Post.bind p fun ρ1 h1 d H1 e1 r1 q v hv=>⟨ρ1,env,h1,s.mono e1,r1,?_⟩⟩;have q:Post X.K (W.at σ) (fun _ H' b=>Q b H') ρ1 H1 (M.bind (M.bind (den F cb env) fun y=>biD o d y) wO h1):=q;rw[jR] at q;exact Post.bind q fun ρ2 h2 d2 H2 e2 r2 q2 w hw=>⟨_,ρ2,h2,d,d2,r2,hv.mono e2 _ _,hw,Post.cmp hc q2⟩
theorem qC2{o o':Bi}{ca cb cc:CE}{σ:L2.St}{H:Hp}{Q:VK}(t:tD X.K W (den F (.chain o o' ca cb cc)) σ H Q):L2.tChain (rB X.K o) (rB X.K o') (tD X.K W (den F ca)) (tD X.K W (den F cb)) (tD X.K W (den F cc)) σ H Q:=by
 obtain ⟨ρ,env,h,s,r,p⟩:=t;rw[den] at p;refine⟨ρ,env,h,s,r,Post.bind p fun ρ1 h1 d H1 e1 r1 q v hv=>⟨ρ1,env,h1,s.mono e1,r1,Post.bind q fun ρ2 h2 d2 H2 e2 r2 q2 w hw=>⟨_,ρ2,h2,d,d2,r2,hv.mono e2 _ _,hw,Post.bind q2 fun ρ3 h3 z H3 e3 r3 q3 zv hz=>?_⟩⟩⟩;cases z with
 |bl k=>
  cases hz;cases k with
  |true=>exact⟨true,rfl,L2.iteT ⟨ρ3,env,h3,((s.mono e1).mono e2).mono e3,r3,Post.bind q3 fun ρ4 h4 d4 H4 e4 r4 q4 x hx=>⟨_,ρ4,h4,d2,d4,r4,(hw.mono e3 _ _).mono e4 _ _,hx,q4⟩⟩⟩
  |false=>exact⟨false,rfl,L2.iteF (Post.ret q3 r3 _ rfl)⟩
 |_=>exact False.elim q3
theorem qNJ{a b c:Expr}{op op':CmpOp}{o o':Bi}{ca cb cc:CE}{pos:Pos}(ho:OpR X (compareOp op) (rB X.K o))(ho':OpR X (compareOp op') (rB X.K o'))(ha:PE X a (tD X.K W (den F ca)))(hb:PE X b (tD X.K W (den F cb)))(hc:PE X c (tD X.K W (den F cc)))
  (hm:lastMarks [op,op'] [b,c]=false):PE X (.Compare a [op,op'] [b,c] pos) (tD X.K W (den F (.chain o o' ca cb cc))):=PE.imp (L2.pe_chain ho ho' ha hb hc hm) fun σ H Q t=>qC2 t
theorem cO{ce:CE}(hb:∀ env h d h',den F ce env h=.ok d h'->∃ k,d=.bl k){σ:L2.St}{H:Hp}{Q:Bool->Hp->Prop}(t:tDT X.K W (qK F (.val ce)) σ H Q):tD X.K W (den F ce) σ H (fun x H'=>∃ k,x=.bl k/\Q k H'):=by
 obtain ⟨ρ,env,h,s,r,p⟩:=t;rw[qK] at p;refine⟨ρ,env,h,s,r,?_⟩;unfold M.bind at p;cases q:den F ce env h with
 |ok d h'=>rw[q] at p;obtain ⟨k,rfl⟩:=hb _ _ _ _ q;exact fun ρ' H' e' r' v hv=>⟨k,hv,p ρ' H' e' r'⟩
 |exc c h'=>rw[q] at p;exact p
 |bad=>rw[q] at p;exact p
theorem bind_ok{α β:Type}{m:M α}{f:α->M β}{h h':AH}{b:β}(e:M.bind m f h=.ok b h'):∃ a h1,m h=.ok a h1/\f a h1=.ok b h':=by
 unfold M.bind at e;cases q:m h with
 |ok a h1=>rw[q] at e;exact⟨a,h1,rfl,e⟩
 |exc _ _=>rw[q] at e;cases e
 |bad=>rw[q] at e;cases e
theorem qNd{o o':Bi}{ca cb cc:CE}(h2:yH o'=true)(env:Env)(h:AH)(d:D)(h':AH)(e:den F (.chain o o' ca cb cc) env h=.ok d h'):∃ k,d=.bl k:=by
 rw[den] at e;obtain ⟨x,g1,_,e⟩:=bind_ok e;obtain ⟨y,g2,_,e⟩:=bind_ok e;obtain ⟨z,g3,_,e⟩:=bind_ok e;cases z with
 |bl k=>
  cases k with
  |true=>obtain ⟨w,g4,_,e⟩:=bind_ok e;exact qCw h2 e
  |false=>cases e;exact⟨_,rfl⟩
 |_=>cases e
theorem qMX{a b c:Expr}{op op':CmpOp}{o o':Bi}{ca cb cc:CE}{pos:Pos}(h2:yH o'=true)(ho:OpR X (compareOp op) (rB X.K o))(ho':OpR X (compareOp op') (rB X.K o'))(ha:PE X a (tD X.K W (den F ca)))(hb:PE X b (tD X.K W (den F cb)))(hc:PE X c (tD X.K W (den F cc)))
  (hm:lastMarks [op,op'] [b,c]=false):PT X (.Compare a [op,op'] [b,c] pos) (tDT X.K W (qK F (.val (.chain o o' ca cb cc)))):=PT.imp (L2.pt_chain ho ho' ha hb hc hm) fun σ H Q t=>qC2 (cO (qNd h2) t)
theorem qM0{a:Expr}{ca:CE}{pos:Pos}(ha:PE X a (tD X.K W (den F ca))):PE X (.UnaryOp .Not a pos) (tD X.K W (den F (.not ca))):=by
 intro pins s σ H Q I t;refine UnaryOp_ (L2.thn (ha pins s σ H (fun x H1=>∃ k,L2.TruV X.K x H1 k/\Q (.bl (!k)) H1) I ?_) fun v s1 ⟨x,H1,I1,r1,k,hk,q1⟩=>?_)
 ·obtain ⟨ρ,env,h,s',r,p⟩:=t;rw[den] at p;refine⟨ρ,env,h,s',r,Post.bind (rep':=fun ρ' H' d=>∀ v,RepV X.K ρ' H' d v->∃ k,L2.TruV X.K v H' k/\Q (.bl (!k)) H') (by rw[jR] at p;exact p) fun ρ1 h1 d H1 e1 r1 q v hv=>?_⟩;exact TruV.of (rep:=fun ρ' H' k=>Q (.bl (!k)) H') r1 hv (Post.bind q fun ρ2 h2 k H2 e2 r2 q2=>Post.ret q2 r2 _ rfl)
 ·exact not_of (L2.thn (L2.tru_ok pins s1 σ H1 x v (fun k H'=>Q (.bl (!k)) H') I1 r1 ⟨k,hk,q1⟩) fun c s2 ⟨H2,I2,q2⟩=>⟨.bl (!c),H2,I2,rfl,q2⟩)
theorem qNA{c a b:Expr}{cc:CT}{ca cb:CE}{pos:Pos}(hc:PT X c (tDT X.K W (qK F cc)))(ha:PE X a (tD X.K W (den F ca)))(hb:PE X b (tD X.K W (den F cb))):PE X (.IfExp c a b pos) (tD X.K W (den F (.ite cc ca cb))):=PE.imp (L2.pe_ifExp hc ha hb) fun σ H Q t=>by
 obtain ⟨ρ,env,h,s,r,p⟩:=t;rw[den] at p;refine⟨ρ,env,h,s,r,Post.bind p fun ρ1 h1 k H1 e1 r1 q=>?_⟩;cases k with
 |true=>exact L2.iteT ⟨ρ1,env,h1,s.mono e1,r1,q⟩
 |false=>exact L2.iteF ⟨ρ1,env,h1,s.mono e1,r1,q⟩
theorem qMu{es:List Expr}{cl:CL}{k:Nat}{pos:Pos}(h:PA X es (tDL X.K W (qT F cl))):PE X (.Tuple es k pos) (tD X.K W (den F (.tup cl))):=PE.imp (L2.pe_tup h) fun σ H Q t=>by
 obtain ⟨ρ,env,h,s,r,p⟩:=t;rw[den] at p;refine⟨ρ,env,h,s,r,Post.bind p fun ρ1 h1 ds H1 e1 r1 q vs hvs=>?_⟩;obtain ⟨hc,q⟩:=Post.when q
 exact⟨by rw[hvs.length,zK];exact hc,PostV.newT q r1 hvs⟩
theorem qM7{es:List Expr}{cl:CL}{pos:Pos}(h:PA X es (tDL X.K W (qT F cl))):PE X (.List es pos) (tD X.K W (den F (.lst cl))):=PE.imp (L2.pe_lst h) fun σ H Q t=>by
 obtain ⟨ρ,env,h,s,r,p⟩:=t;rw[den] at p
 exact⟨ρ,env,h,s,r,Post.bind p fun ρ1 h1 ds H1 e1 r1 q vs hvs=>PostV.newL q r1 hvs⟩
def spD(K:PySem.W.Frag)(m:List D->M D):L2.Sp:=fun vs H Q E=>∃ ρ h ds,RepH K ρ h H/\RepL K ρ H ds vs/\PostV K (fun c H'=>∀ e,E e (some c) H') Q ρ H (m ds h)
theorem lQ{a:Expr}{ca:CE}{o:Un}{e:Expr}{r:List V->Hp->VK->Prop}(he:PE X e (L2.tCB r (L2.tCons (tD X.K W (den F ca)) L2.tNil)))(hr:∀ x H Q,rU X.K o x H Q->r [x] H Q):PE X e (tD X.K W (den F (.un o ca))):=PE.imp he fun σ H Q t=>by
 obtain ⟨ρ,env,h,s,r',p⟩:=one t
 exact⟨ρ,env,h,s,r',Post.imp p fun ρ' H' d q v hv=>hr v H' Q (q v hv)⟩
theorem qNK{ca cb:CE}{o:Bi}{e:Expr}{r:List V->Hp->VK->Prop}(he:PE X e (L2.tCB r (L2.tCons (tD X.K W (den F ca)) (L2.tCons (tD X.K W (den F cb)) L2.tNil))))(hr:∀ x y H Q,rB X.K o x y H Q->r [x,y] H Q):PE X e (tD X.K W (den F (.bi o ca cb))):=PE.imp he fun σ H Q t=>by
 obtain ⟨ρ,env,h,s,r',p⟩:=two t;refine⟨ρ,env,h,s,r',Post.imp p fun ρ' H' d q v hv=>?_⟩;obtain ⟨ρ1,env1,h1,s1,r1,p1⟩:=q v hv
 exact⟨ρ1,env1,h1,s1,r1,Post.imp p1 fun ρ2 H2 d2 q2 w hw=>hr v w H2 Q (q2 w hw)⟩
end
theorem kyV_inj{a b:Ky}:kyV a=kyV b↔a=b:=by
 constructor
 ·intro h;cases a with
  |int i=>cases b with
   |int j=>cases h;rfl
   |str y=>cases h
  |str x=>cases b with
   |int j=>cases h
   |str y=>
    have h:(Sum.inr (⟨x.toArray⟩:Str):L2.Key)=Sum.inr ⟨y.toArray⟩:=h;have h2:=congrArg Str.cps (Sum.inr.inj h);have h3:x=y:=by simpa using congrArg Array.toList h2
    rw[h3]
 ·rintro rfl;rfl
section
variable {K:PySem.W.Frag}{ρ:List Addr}{H:Hp}
theorem RepK.val(k:Ky):∀ {kvs:List (Ky × D)} {vs:List (L2.Key × V)},RepK K ρ H kvs vs->(∃ d v,zE kvs k=some d/\L2.valV vs (kyV k)=some v/\RepV K ρ H d v)\/(zE kvs k=none/\L2.valV vs (kyV k)=none)
 | [],_,h=>by cases h;exact .inr ⟨rfl,rfl⟩
 |x::kvs,_,⟨v,r,rfl,h1,h2⟩=>by
  by_cases e:x.1=k
  ·refine .inl ⟨x.2,v,?_,L2.valV_pos (kyV_inj.mpr e),h1⟩;unfold zE;rw[List.find?_cons_of_pos (by simpa using e)];rfl
  ·have e2:zE (x::kvs) k=zE kvs k:=by unfold zE;rw[List.find?_cons_of_neg (by simpa using e)]
   rw[e2,L2.valV_neg (fun z=>e (kyV_inj.mp z))];exact RepK.val k h2
theorem RepK.any(k:Ky):∀ {kvs:List (Ky × D)} {vs:List (L2.Key × V)},RepK K ρ H kvs vs->(kvs.any fun kv=>decide (kv.1=k))=(vs.any fun kv=>decide (kv.1=kyV k))
 | [],_,h=>by cases h;rfl
 |x::kvs,_,⟨v,r,rfl,h1,h2⟩=>by
  rw[List.any_cons,List.any_cons,RepK.any k h2];congr 1;exact decide_eq_decide.mpr kyV_inj.symm
theorem RepK.length:∀ {kvs:List (Ky × D)} {vs:List (L2.Key × V)},RepK K ρ H kvs vs->kvs.length=vs.length
 | [],_,h=>by cases h;rfl
 |x::kvs,_,⟨v,r,rfl,h1,h2⟩=>by rw[List.length_cons,List.length_cons,RepK.length h2]
theorem RepK.repl(k:Ky){d:D}{v:V}(hv:RepV K ρ H d v):∀ {kvs:List (Ky × D)} {vs:List (L2.Key × V)},RepK K ρ H kvs vs->RepK K ρ H (kvs.map fun kv=>if kv.1=k then (kv.1,d) else kv) (vs.map fun kv=>if kv.1=kyV k then (kv.1,v) else kv)
 | [],_,h=>by cases h;rfl
 |x::kvs,_,⟨u,r,rfl,h1,h2⟩=>by
  rw[List.map_cons,List.map_cons]
  by_cases e:x.1=k
  ·rw[if_pos e,if_pos (kyV_inj.mpr e)]
   exact⟨v,_,rfl,hv,RepK.repl k hv h2⟩
  ·rw[if_neg e,if_neg (fun z=>e (kyV_inj.mp z))]
   exact⟨u,_,rfl,h1,RepK.repl k hv h2⟩
theorem RepK.snoc(k:Ky){d:D}{v:V}(hv:RepV K ρ H d v):∀ {kvs:List (Ky × D)} {vs:List (L2.Key × V)},RepK K ρ H kvs vs->RepK K ρ H (kvs++[(k,d)]) (vs++[(kyV k,v)])
 | [],_,h=>by cases h;exact⟨v,[],rfl,hv,rfl⟩
 |x::kvs,_,⟨u,r,rfl,h1,h2⟩=>⟨u,r++[(kyV k,v)],rfl,h1,RepK.snoc k hv h2⟩
theorem RepK.put(k:Ky){d:D}{v:V}(hv:RepV K ρ H d v){kvs:List (Ky × D)}{vs:List (L2.Key × V)}(h:RepK K ρ H kvs vs):RepK K ρ H (vB kvs k d) (L2.putK vs (kyV k) v):=by
 unfold vB L2.putK;rw[h.any k];split
 ·exact h.repl k hv
 ·exact h.snoc k hv
theorem RepK.merge:∀ {more:List (Ky × D)} {ms:List (L2.Key × V)} {kvs:List (Ky × D)} {vs:List (L2.Key × V)},RepK K ρ H more ms->RepK K ρ H kvs vs->RepK K ρ H (uD kvs more) (L2.mergeK vs ms)
 | [],_,_,_,h,h0=>by cases h;exact h0
 |x::more,_,kvs,vs,⟨v,r,rfl,h1,h2⟩,h0=>RepK.merge (more:=more) (ms:=r) h2 (h0.put x.1 h1)
theorem RepH.dict{h:AH}{i:Nat}{kvs:List (Ky × D)}(r:RepH K ρ h H)(e:h[i]?=some (.dct kvs)){v:V}(hv:RepV K ρ H (.ref i) v):∃ a vs,v=.ref a/\ρ[i]?=some a/\H a=some (.dK vs)/\RepK K ρ H kvs vs:=by
 obtain ⟨a,h1,h2⟩:=hv;obtain ⟨b,h3,vs,h4,h5⟩:=r.obj i _ e;rw[h1] at h3;cases h3
 exact⟨a,vs,h2,h1,h4,h5⟩
theorem RepH.setDict{h:AH}(r:RepH K ρ h H){k:Nat}{p:Addr}{xs ys:List (Ky × D)}{us vs:List (L2.Key × V)}(hk:h[k]?=some (.dct xs))(hr:ρ[k]?=some p)(hp:H p=some (.dK us))(hx:RepK K ρ H ys vs) :
  RepH K ρ (h.set k (.dct ys)) (upd H p (.dK vs)):=r.setO hk rfl rfl hr hp rfl ⟨vs,qI,RepK.mono (Step.turn hp rfl (List.mem_of_getElem? hr)) _ _ hx⟩
end
section
variable {X:Cx}{pins:List (Addr × Obj)}{σ:L2.St}{H:Hp}{s:Shared}{a:Addr}{vs:List (L2.Key × V)}{k:L2.Key}{v:V}{u:Value}{A:Around}{E:Value->Shared->Prop}
theorem qMf{Q:Value->Shared->Prop}(I:Inv X pins σ H s)(e:Rd H a (.dK vs))(l:L2.valV vs k=some v)(ry:RelV (L2.kV k) u)(h:∀ w' s',Inv X pins σ H s'->RelV v w'->Q w' s'):wpAny (model X.prog X.w) A (getItem (.ref a) u) Q E s:=by
 obtain ⟨z,hd,ws,rel,dd⟩:=L2.dk_rd I.hok e;obtain ⟨w',hw,rw'⟩:=L2.RelO.some_of (v:=v) (o:=valueAt ws k) (by rw[<- l];exact rel.val k);exact wpAny_getItem_of (L2.kV_is ry) dd.mapOf hw (h w' _ (I.tok _) rw')
theorem qMd{Q:Value->Shared->Prop}(I:Inv X pins σ H s)(e:H a=some (.dK vs))(ry:RelV (L2.kV k) u)(h:∀ s',Inv X pins σ H s'->Q (.bool (!(L2.valV vs k).isSome)) s'):wpAny (model X.prog X.w) A (compareOp .NotIn u (.ref a)) Q E s:=by
 obtain ⟨z,hd,ws,rel,dd⟩:=L2.dk_rd I.hok (.inl e);refine wpAny_notIn_of (L2.kV_is ry) hd dd.mapOf ?_;rw[<- (rel.val k).isSome_eq];exact h _ (I.tok _)
theorem qMe {Q:Value->Shared->Prop} (I:Inv X pins σ H s) (e:H a=some (.dK vs)) (h:∀ t s',Inv X pins σ H s'->Q (.int vs.length t) s'):wpAny (model X.prog X.w) A (call (.builtin "len") [.ref a]) Q E s:=by
 obtain ⟨z,hd,ws,rel,dd⟩:=L2.dk_rd I.hok (.inl e);refine call_len_dict hd dd (by rw[<- rel.length];rw[sizeLine_eq] at z;omega) ?_;rw[<- rel.length];exact h _ _ (I.tok _)
theorem qMc{r:Value}{Q:Unit->Shared->Prop}(I:Inv X pins σ H s)(e:H a=some (.dK vs))(hl0:vs.length<sizeLine)(ry:RelV (L2.kV k) u)(rv:RelV v r)(h:∀ s',Inv X pins σ (upd H a (.dK (L2.putK vs k v))) s'->Q () s'):wpAny (model X.prog X.w) A (setItem (.ref a) u r) Q E s:=by
 obtain ⟨z,hd,ws,rel,dd⟩:=L2.dk_of I.hok e;have hz:ws.length<=sizeLine:=by rw[<- rel.length];exact z
 have hl:(L2.putK vs k v).length<=sizeLine:=by have:=L2.length_putK vs k v;omega
 refine wpAny_setItem_pairs (hsz:=hz) (L2.kV_is ry) dd fun h' dd' hs=>h _ ?_;have he:∃ q,h'.get? a=some q:=let ⟨q,_,_,hq,_⟩:=dd';⟨q,hq⟩;exact L2.d_write I (by rw[e];exact True.intro) hs he (L2.dk_new hl hd (rel.put k rv) dd')
theorem qMa (I:Inv X pins σ H s) (e:Rd H a (.dK vs)):s.TypeIs (.ref a) "dict":=by
 obtain ⟨_,_,_,_,dd⟩:=L2.dk_rd I.hok e;exact dd.typeIs
theorem qMb {value slice:Expr} {Q:Value->Shared->Prop} (hT:s.TypeIs (.ref a) "dict") (hs:subscripted slice false (.ref a) u=operate [.ref a,u] (getItem (.ref a) u)) (h₂:wpAny (model X.prog X.w) A (getItem (.ref a) u) Q E s):wpAny (model X.prog X.w) A (subscriptTail value slice (.ref a) u) Q E s:=by
 unfold subscriptTail;refine wpAny_bind ?_;rw[getitemInPython_of_ne hT.not_modules];refine wpAny_bind (wpAny_specialOf hT PySem.F.slot_dict_getitem.lookup ?_)
 have fin:wpAny (model X.prog X.w) A (subscripted slice false (.ref a) u) (fun r s₃=>wpAny (model X.prog X.w) A (letTemporaryGo value (.ref a) r >>= fun _=>pure r) Q E s₃) E s:=by
  rw[hs];exact wpAny_operating (wpAny_mono h₂ (fun r s₃ h₃=>wpAny_bind (wpAny_letTemporaryGo (wpAny_pure h₃))) fun _ _ x=>x)
 first
  |exact wpAny_pure (wpAny_bind fin)
  |exact wpAny_bind (wpAny_pure (wpAny_bind fin))
  |exact wpAny_bind fin
end
section
variable {X:Cx}{F:Nat->List D->M D}{W:WX}
theorem eV{K:PySem.W.Frag}{ρ:List Addr}{H:Hp}{k:Ky}{x:V}(h:RepV K ρ H (kyD k) x):x=L2.kV (kyV k):=by
 cases k with
 |int i=>cases h;rfl
 |str y=>cases h;rfl
theorem qB4{value slice:Expr}{pins:List (Addr × Obj)}{s:Shared}{σ:L2.St}{H:Hp}{x y:V}{v u:Value}{Q:VK}{w:W1}{ρ:List Addr}{h:AH}{k:Nat}{ky:Ky}(I:Inv X pins σ H s)(r:RepH X.K ρ h H)(hd:RepV X.K ρ H (.ref k) x)(he:RepV X.K ρ H (kyD ky) y)(rx:RelV x v)(ry:RelV y u)
  (p:PostV X.K w Q ρ H (ixK k ky h)) (hs:subscripted slice false v u=operate [v,u] (getItem v u)):wpAny (model X.prog X.w) X.A (subscriptTail value slice v u) (EP X pins σ Q) X.xe s:=by
 have go:∀ {kvs:List (Ky × D)} {a:Addr} {vs:List (L2.Key × V)},x=.ref a->Rd H a (.dK vs)->RepK X.K ρ H kvs vs->PostV X.K w Q ρ H (match zE kvs ky with | some d=>.ok d h | none=>.bad)->wpAny (model X.prog X.w) X.A (subscriptTail value slice v u) (EP X pins σ Q) X.xe s:=fun {kvs a vs} ea hH hk p=>by
  subst ea;cases rx;have hy:=eV he;subst hy;rcases hk.val ky with⟨d,v',e1,e2,hv⟩ | ⟨e1,_⟩
  ·rw[e1] at p;exact qMb (qMa I hH) hs (qMf I hH e2 ry fun w' s' I' rw'=>⟨v',H,I',rw',PostV.now p r hv⟩)
  ·rw[e1] at p;exact False.elim p
 have p:PostV X.K w Q ρ H (match h[k]? with | some (.dct kvs)=>(match zE kvs ky with | some d=>.ok d h | none=>.bad) | some (.rod kvs)=>(match zE kvs ky with | some d=>.ok d h | none=>.bad) | _=>.bad):=p;obtain ⟨a,h1,h2⟩:=hd;split at p
 ·rename_i kvs q;obtain ⟨b,h3,vs,h4,h5⟩:=r.obj k _ q;rw[h1] at h3;cases h3;exact go h2 (.inl h4) h5 p
 ·rename_i kvs q;obtain ⟨b,h3,ob,vs,h4,h5⟩:=r.obj k _ q;rw[h1] at h3;cases h3;exact go h2 (.inr ⟨ob,h4⟩) h5 p
 ·exact False.elim p
theorem qHf{pins:List (Addr × Obj)}{s:Shared}{σ:L2.St}{H:Hp}{x y:V}{v u:Value}{Q:VK}{w:W1}{ρ:List Addr}{h:AH}{k:Nat}{ky:Ky}(I:Inv X pins σ H s)(r:RepH X.K ρ h H)(hd:RepV X.K ρ H (kyD ky) x)(he:RepV X.K ρ H (.ref k) y)(rx:RelV x v)(ry:RelV y u)
  (p:PostV X.K w Q ρ H (vF k ky h)):wpAny (model X.prog X.w) X.A (compareOp .NotIn v u) (EP X pins σ Q) X.xe s:=by
 have p:PostV X.K w Q ρ H (match h[k]? with | some (.dct kvs)=>.ok (.bl (!(zE kvs ky).isSome)) h | _=>.bad):=p;split at p
 ·rename_i kvs q;obtain ⟨a,vs,rfl,ha,hH,hk⟩:=r.dict q he;cases ry;have hy:=eV hd;subst hy;refine qMd I hH rx fun s' I'=>⟨.bl (!(L2.valV vs (kyV ky)).isSome),H,I',rfl,?_⟩
  have e:(L2.valV vs (kyV ky)).isSome=(zE kvs ky).isSome:=by
   rcases hk.val ky with⟨d,v',e1,e2,hv⟩ | ⟨e1,e2⟩
   ·rw[e1,e2];rfl
   ·rw[e1,e2];rfl
  rw[e];exact PostV.now p r rfl
 ·exact False.elim p
theorem qJw{pins:List (Addr × Obj)}{s:Shared}{σ:L2.St}{H:Hp}{y:V}{u:Value}{Q:VK}{w:W1}{ρ:List Addr}{h:AH}{k:Nat}(I:Inv X pins σ H s)(r:RepH X.K ρ h H)(he:RepV X.K ρ H (.ref k) y)(ry:RelV y u)
  (p:PostV X.K w Q ρ H (yB k h)):wpAny (model X.prog X.w) X.A (call (.builtin "len") [u]) (EP X pins σ Q) X.xe s:=by
 have p:PostV X.K w Q ρ H (match h[k]? with | some (.dct kvs)=>.ok (.int kvs.length) h | _=>.bad):=p;split at p
 ·rename_i kvs q;obtain ⟨a,vs,rfl,ha,hH,hk⟩:=r.dict q he;cases ry;refine qMe I hH fun t s' I'=>⟨.int vs.length,H,I',⟨t,rfl⟩,?_⟩;rw[<- hk.length];exact PostV.now p r rfl
 ·exact False.elim p
end
def bG:CL->Nat
 | .nil=>0
 | .cons _ l=>bG l+1
section
variable {X:Cx}{F:Nat->List D->M D}{W:WX}
def trs(X:Cx)(F:Nat->List D->M D)(W:WX):List Ky->CL->List (TE × TE)
 |k::ks,.cons e l=>(L2.tC (L2.kV (kyV k)),tD X.K W (den F e))::trs X F W ks l
 |_,_=>[]
theorem qA3:∀ {ks:List Ky} {es:CL} {σ:L2.St} {H:Hp} {env:Env} {ρ:List Addr} {h:AH} {Q:List (V × V)->Hp->Prop},bG es=ks.length->RepS X.K ρ H env σ->RepH X.K ρ h H ->
  Post X.K (W.at σ) (fun ρ' H' ds=>∀ vs,RepL X.K ρ' H' ds vs->Q (((ks.map kyV).zip vs).map fun kv=>(L2.kV kv.1,kv.2)) H') ρ H (qT F es env h)->L2.tPairs (trs X F W ks es) σ H Q
 | [],.nil,σ,H,env,ρ,h,Q,_,s,r,p=>by
  rw[qT] at p;exact Post.ret p r [] rfl
 | [],.cons _ _,_,_,_,_,_,_,hl,_,_,_=>by cases hl
 |_::_,.nil,_,_,_,_,_,_,hl,_,_,_=>by cases hl
 |k::ks,.cons e l,σ,H,env,ρ,h,Q,hl,s,r,p=>by
  rw[qT] at p;refine⟨ρ,env,h,s,r,Post.bind p fun ρ1 h1 d H1 e1 r1 q v hv=>?_⟩;refine qA3 (ks:=ks) (es:=l) (Nat.succ.inj hl) (s.mono e1) r1 (Post.bind q fun ρ2 h2 ds H2 e2 r2 q2=>?_);intro vs hvs;exact Post.ret q2 r2 (v::vs) ⟨v,vs,rfl,hv.mono e2 _ _,hvs⟩
theorem RepK.zip{K:PySem.W.Frag}{ρ:List Addr}{H:Hp}:∀ {ks:List Ky} {ds:List D} {vs:List V},RepL K ρ H ds vs->RepK K ρ H (ks.zip ds) ((ks.map kyV).zip vs)
 | [],_,_,_=>by simp[RepK]
 |k::ks,[],_,h=>by cases h;simp[RepK]
 |k::ks,d::ds,_,⟨v,r,rfl,h1,h2⟩=>⟨v,_,rfl,h1,RepK.zip h2⟩
theorem qNH{keys:List (Option Expr)}{values:List Expr}{ks:List Ky}{es:CL}{pos:Pos}(h:L2.PPs X pos keys values (trs X F W ks es))(hall:keys.all (·.isSome)=true)(hl:keys.length=values.length)(h15:keys.length<=15)(hk:bG es=ks.length)(h0:keys=[]->ks=[]/\es=.nil/\values=[]) :
  PE X (.Dict keys values pos) (tD X.K W (den F (.disp ks es))):=by
 have main:∀ (σ:L2.St) (H:Hp) (Q:VK),tD X.K W (den F (.disp ks es)) σ H Q->∀ p,H p=none->L2.tPairs (trs X F W ks es) σ (upd H p (.dK [])) fun ps H2=>H2 p=some (.dK [])/\∃ kvs:List (L2.Key × V),ps=kvs.map (fun kv=>(L2.kV kv.1,kv.2))/\kvs.length<=15/\Q (.ref p) (upd H2 p (.dK (L2.mergeK [] kvs))):=by
  intro σ H Q t p hp;obtain ⟨ρ,env,h,s,r,q⟩:=t;rw[den] at q;have st:Step ρ H (ρ++[p]) (upd H p (.dK [])):=Step.new1 hp;have r1:RepH X.K (ρ++[p]) (h++[.dct []]) (upd H p (.dK [])):=r.newO hp ⟨[],qI,rfl⟩;have q1:PostV X.K (W.at σ) Q (ρ++[p]) (upd H p (.dK [])) (M.bind (qT F es env) (fun ds=>aW ks ds h.length) (h++[.dct []])):=Post.mono q st;refine qA3 hk (s.mono st) r1 (Post.bind q1 fun ρ2 h2 ds H2 e2 r2 q2=>?_);intro vs hvs;have q2:PostV X.K (W.at σ) Q ρ2 H2 (match h2[h.length]? with | some (.dct [])=>(if ks.length=ds.length/\ks.length<=15 then .ok (.ref h.length) (h2.set h.length (.dct (uD [] (ks.zip ds)))) else .bad) | _=>.bad):=q2;have hpl:(ρ++[p])[h.length]?=some p:=by rw[<- r.len,List.getElem?_append_right (Nat.le_refl _)];simp
  have hpl2:ρ2[h.length]?=some p:=vC e2.pre hpl;split at q2
  ·rename_i z;obtain ⟨⟨c1,c2⟩,q2⟩:=PostV.ite q2;obtain ⟨a,us,ea,ha,hH,hu⟩:=r2.dict z (v:=.ref p) ⟨p,hpl2,rfl⟩;cases ea;cases hu;refine⟨hH,(ks.map kyV).zip vs,rfl,?_,?_⟩
   ·rw[List.length_zip,List.length_map];omega
   ·have stp:Step ρ2 H2 ρ2 (upd H2 p (.dK (L2.mergeK [] ((ks.map kyV).zip vs)))):=Step.turn hH rfl (List.mem_of_getElem? ha);exact q2 ρ2 _ stp (r2.setDict z ha hH (RepK.merge (RepK.zip hvs) rfl)) (.ref p) ⟨p,hpl2,rfl⟩
  ·exact False.elim q2
 by_cases z:keys=[]
 ·obtain ⟨rfl,rfl,rfl⟩:=h0 z;subst z;refine PE.imp L2.pe_dnewK fun σ H Q t p hp=>?_;obtain ⟨hH,kvs,e1,_,q⟩:=main σ H Q t p hp;cases kvs with
  |cons a b=>cases e1
  |nil=>
   have:upd (upd H p (.dK [])) p (.dK (L2.mergeK [] []))=upd H p (.dK []):=L2.upd_upd
   rw[this] at q;exact q
 ·exact PE.imp (L2.pe_disp h hall hl z h15) fun σ H Q t=>main σ H Q t
end
open L2 (V Hp HO VK TE TT TA TS TI Cx Inv RelV Vals SqL SqT Rd upd qI qG PE PT PA PS PSs EP OpR qL IxR MtR SlR PO TO PI PG PIE Turn qP Ends)
def Its(z:Str):L2.It:=⟨fun i _=>i<z.cps.size,fun i H x H'=>H'=H/\∃ c,z.cps[i]?=some c/\x=.str ⟨#[c]⟩,fun i _=>i=z.cps.size⟩
theorem tR{P:Program}{w:World}{K:PySem.W.Frag}{tg:Expr}{z:Str}{t:Tok}{ty:String}(it:Addr)
  (hty:["enumerate","zip","dict_itemiterator","dict_reverseitemiterator","odict_iterator","itertools.zip_longest","itertools.pairwise"].contains ty=false)
  (W:∀ A':Around,A'.handled=none->Walks P w A' it [it] [it] z.cps.size (SignAt z) (fun i h=>h.IsStrIter it ty z t i))
  (W':∀ (A:Around) (i:Nat) (s:Shared) (Q:Value->Shared->Prop) (E:Value->Shared->Prop),s.heap.IsStrIter it ty z t i->Q (.ref it) s->wpAny (model P w) A (pyIter (.ref it)) Q E s) :
  Turn P w K tg (Its z) [it] it (fun i h=>h.IsStrIter it ty z t i) where
 mem:=by simp
 obj:=fun i h st b hb=>by
  have e:b=it:=by simpa using hb
  subst e;obtain ⟨o,e,c,d⟩:=st
  exact⟨o,e,fun v z=>by rw[d] at z;cases z⟩
 keep:=fun i h h' st k=>by
  obtain ⟨o,e,c,d⟩:=st
  exact⟨o,k it (by simp) o e,c,d⟩
 item:=by
  intro X hP hw hK hc i pins s σ H E I hf st hg;subst hP hw hK;obtain ⟨f0,f1,f2,f3,f4,f5⟩:=hf it (by simp);refine (W X.A (I.ok.hd hc)).item i s _ E hg st fun v h' tk hv st' kp=>?_;obtain ⟨c,u,hcz,rfl⟩:=hv;have I1:Inv X pins σ H { s with heap:=h',toks:=tk }:=I.turned (t':=tk) (fun b o hb e=>kp b o (by simpa using hb) e) f0 f1 f3 f4 f5;obtain ⟨o,e,cc,d⟩:=id st'
  exact⟨_,rfl,L2.go_of (s:={ s with heap:=h',toks:=tk }) e cc d hty ⟨.str ⟨#[c]⟩,H,I1,⟨u,rfl⟩,⟨rfl,c,hcz,rfl⟩,st',fun b hb=>(hf b hb).1⟩⟩
 done:=by
  intro X hP hw hK hc i pins s σ H E I hf st hg;subst hP hw hK;obtain ⟨f0,f1,f2,f3,f4,f5⟩:=hf it (by simp);have hg:i=z.cps.size:=hg;subst hg;exact (W X.A (I.ok.hd hc)).done s _ E st fun h' tk kp=>⟨rfl,I.turned (t':=tk) (fun b o hb e=>kp b o (by simpa using hb) e) f0 f1 f3 f4 f5⟩
 self:=fun A i s Q E st h=>W' A i s Q E st h
section
variable {X:Cx}{tg:Expr}
def qLf(K:PySem.W.Frag)(tl:TE):TI:=fun σ H R=>tl σ H fun x H1=>
 (∃ a,x=.ref a/\(∃ xs,SqL K H1 a xs)/\R (L2.Itl K a) H1)\/(∃ a,x=.ref a/\(∃ xs,SqT K H1 a xs)/\R (L2.Itt K a) H1)\/∃ z,x=.str z/\R (Its z) H1
theorem qGk{l:Expr}{tl:TE}(hl:PE X l tl):PI X tg l (qLf X.K tl):=by
 intro pins s σ H R I h;refine L2.thn (hl pins s σ H _ I h) fun v s1 ⟨x,H1,I1,r1,q1⟩=>?_
 have one:∀ {h':Heap} {t':Nat} {b:Addr},b∈[s1.heap.objs.size]->qP X pins H1 b:=fun hb=>by
  have e:=List.mem_singleton.mp hb;subst e;exact I1.fpOk (Nat.le_refl _) (I1.hok.fresh (Nat.le_refl _))
 rcases q1 with⟨a,e,⟨xs,hq⟩,q⟩ | ⟨a,e,⟨xs,hq⟩,q⟩ | ⟨z,e,q⟩
 ·subst e;cases r1;obtain ⟨its,rv,p,hz⟩:=I1.list hq;refine wpAny_pyIter_list p.isList ?_
  exact⟨s1.heap.objs.size,[s1.heap.objs.size],_,_,H1,rfl,I1.kept (t':=s1.toks) fun b o e=>Heap.get?_push_of_some _ e,L2.turn_list a _,⟨_,Heap.get?_push_size _ rfl,rfl,rfl⟩,fun b hb=>one (h':=s1.heap) (t':=0) hb,q⟩
 ·subst e;cases r1;obtain ⟨its,rv,p,hz⟩:=I1.tuple hq;refine wpAny_pyIter_tuple (show s1.heap.IsTuple a its.toArray from p) ?_
  exact⟨s1.heap.objs.size,[s1.heap.objs.size],_,_,H1,rfl,I1.kept (t':=s1.toks) fun b o e=>Heap.get?_push_of_some _ e,L2.turn_tuple a _,⟨_,Heap.get?_push_size _ rfl,rfl,rfl⟩,fun b hb=>one (h':=s1.heap) (t':=0) hb,q⟩
 ·subst e;obtain ⟨t,rfl⟩:=r1;cases ha:z.cps.all (·<128)
  ·refine wpAny_pyIter_wide ha ?_
   exact⟨s1.heap.objs.size,[s1.heap.objs.size],_,_,H1,rfl,I1.kept (t':=s1.toks) fun b o e=>Heap.get?_push_of_some _ e,tR (t:=t) _ (by decide) (fun A' hA=>Walks.strWide hA _ z t) (fun A i s Q E st h=>wpAny_pyIter_striter_wide st h),⟨_,Heap.get?_push_size _ rfl,rfl,rfl⟩,fun b hb=>one (h':=s1.heap) (t':=0) hb,q⟩
  ·refine wpAny_pyIter_ascii ha ?_
   exact⟨s1.heap.objs.size,[s1.heap.objs.size],_,_,H1,rfl,I1.kept (t':=s1.toks) fun b o e=>Heap.get?_push_of_some _ e,tR (t:=t) _ (by decide) (fun A' hA=>Walks.strAscii hA _ z t) (fun A i s Q E st h=>wpAny_pyIter_striter_ascii st h),⟨_,Heap.get?_push_size _ rfl,rfl,rfl⟩,fun b hb=>one (h':=s1.heap) (t':=0) hb,q⟩
end
def PostS(K:PySem.W.Frag)(W:WX)(D:Ends)(ρ:List Addr)(H:Hp):SR->Prop
 | .nx e h=>∀ ρ' H' st,Step ρ H ρ' H'->RepH K ρ' h H'->RepS K ρ' H' e st->D.nx st H'
 | .rt d h=>∀ ρ' H' v,Step ρ H ρ' H'->RepH K ρ' h H'->RepV K ρ' H' d v->D.rt v H'
 | .bk e h=>∀ ρ' H' st,Step ρ H ρ' H'->RepH K ρ' h H'->RepS K ρ' H' e st->D.bk st H'
 | .ct e h=>∀ ρ' H' st,Step ρ H ρ' H'->RepH K ρ' h H'->RepS K ρ' H' e st->D.ct st H'
 | .exc c e h=>∀ ρ' H' st,Step ρ H ρ' H'->RepH K ρ' h H'->RepS K ρ' H' e st->W c st H'
 | .bad=>False
theorem PostS.mono{K:PySem.W.Frag}{W:WX}{D:Ends}{ρ ρ1:List Addr}{H H1:Hp}{r:SR}(p:PostS K W D ρ H r)(e:Step ρ H ρ1 H1):PostS K W D ρ1 H1 r:=by
 cases r with
 |nx _ _=>exact fun ρ' H' st e'=>p ρ' H' st (e.trans e')
 |rt _ _=>exact fun ρ' H' st e'=>p ρ' H' st (e.trans e')
 |bk _ _=>exact fun ρ' H' st e'=>p ρ' H' st (e.trans e')
 |ct _ _=>exact fun ρ' H' st e'=>p ρ' H' st (e.trans e')
 |exc _ _ _=>exact fun ρ' H' st e'=>p ρ' H' st (e.trans e')
 |bad=>exact p
abbrev WF:WX:=fun _ _ _=>False
def tDS(K:PySem.W.Frag)(W:WX)(m:Env->AH->SR):TS:=fun D σ H=>∃ ρ env h,RepS K ρ H env σ/\RepH K ρ h H/\PostS K W D ρ H (m env h)
theorem PostS.ofR{α:Type}{K:PySem.W.Frag}{W:WX}{D:Ends}{rep:List Addr->Hp->α->Prop}{ρ:List Addr}{H:Hp}{env:Env}{σ:L2.St}{r:R α}{f:α->AH->SR}(s:RepS K ρ H env σ)(p:PostS K W D ρ H (SR.ofR env r f))
  (k:∀ ρ' h' a H',Step ρ H ρ' H'->RepH K ρ' h' H'->PostS K W D ρ' H' (f a h')->rep ρ' H' a):Post K (W.at σ) rep ρ H r:=by
 cases r with
 |ok a h=>exact fun ρ' H' e r'=>k ρ' h a H' e r' (PostS.mono p e)
 |exc c h=>exact fun ρ' H' e r'=>p ρ' H' σ e r' (s.mono e)
 |bad=>exact p
section
variable {X:Cx}{F:Nat->List D->M D}{B:Nat}{W:WX}
theorem qGC:PSs X [] (tDS X.K W (qB F B .skip)):=PSs.imp L2.pss_nil fun D σ H t=>by
 obtain ⟨ρ,env,h,s,r,p⟩:=t;exact p ρ H σ (Step.refl ρ H) r s
theorem qGH{st:Stmt}{rest:List Stmt}{a b:CS}(h1:PS X st (tDS X.K W (qB F B a)))(h2:PSs X rest (tDS X.K W (qB F B b))):PSs X (st::rest) (tDS X.K W (qB F B (.seq a b))):=PSs.imp (L2.pss_cons h1 h2) fun D σ H t=>by
 obtain ⟨ρ,env,h,s,r,p⟩:=t;refine⟨ρ,env,h,s,r,?_⟩;rw[qB] at p;cases e:qB F B a env h with
 |nx e1 g1=>rw[e] at p;exact fun ρ' H' st' e' r' s'=>⟨ρ',e1,g1,s',r',PostS.mono p e'⟩
 |rt _ _=>rw[e] at p;exact p
 |bk _ _=>rw[e] at p;exact p
 |ct _ _=>rw[e] at p;exact p
 |exc _ _ _=>rw[e] at p;exact p
 |bad=>rw[e] at p;exact p
theorem qAV{i:Nat}{x:Str}{e:Expr}{c:CE}{pos pos':Pos}(hN:X.N.Nodup)(hi:X.N[i]?=some x)(hx:L2.Loc X.env.scope x)(he:PE X e (tD X.K W (den F c)))
  (hs:swapsWith e (some (.Name x pos')) pos.line X.env=pure false) (hf:X.fn x=true\/X.env.scope.names.lookup x=some .local):PS X (.Assign [.Name x pos'] e pos) (tDS X.K W (qB F B (.set (.nm i) c))):=PS.imp (L2.ps_set hN hi hx he hs hf) fun D σ H t=>by
 obtain ⟨ρ,env,h,s,r,p⟩:=t;rw[qB] at p
 exact⟨ρ,env,h,s,r,PostS.ofR s p fun ρ' h' d H' e' r' q v hv=>q ρ' H' _ (Step.refl _ _) r' ((s.mono e').set i hv)⟩
theorem qGG{e:Expr}{c:CE}{pos:Pos}(he:PE X e (tD X.K W (den F c)))(hs:swapsWith e none pos.line X.env=pure false):PS X (.Expr e pos) (tDS X.K W (qB F B (.exp c))):=PS.imp (L2.ps_expr he hs) fun D σ H t=>by
 obtain ⟨ρ,env,h,s,r,p⟩:=t;rw[qB] at p
 exact⟨ρ,env,h,s,r,PostS.ofR s p fun ρ' h' d H' e' r' q v hv=>q ρ' H' _ (Step.refl _ _) r' (s.mono e')⟩
theorem qF7{e:Expr}{c:CE}{pos:Pos}(he:PE X e (tD X.K W (den F c))):PS X (.Return (some e) pos) (tDS X.K W (qB F B (.ret c))):=PS.imp (L2.ps_ret he) fun D σ H t=>by
 obtain ⟨ρ,env,h,s,r,p⟩:=t;rw[qB] at p
 exact⟨ρ,env,h,s,r,PostS.ofR s p fun ρ' h' d H' e' r' q v hv=>q ρ' H' v (Step.refl _ _) r' hv⟩
theorem qF6{pos:Pos}:PS X (.Return none pos) (tDS X.K W (qB F B .retN)):=PS.imp L2.ps_retN fun D σ H t=>by
 obtain ⟨ρ,env,h,s,r,p⟩:=t;rw[qB] at p;exact p ρ H .non (Step.refl _ _) r rfl
theorem qF9{pos:Pos}:PS X (.Pass pos) (tDS X.K W (qB F B .skip)):=PS.imp L2.ps_pass fun D σ H t=>by
 obtain ⟨ρ,env,h,s,r,p⟩:=t;exact p ρ H σ (Step.refl ρ H) r s
theorem qGJ{pos:Pos}:PS X (.Break pos) (tDS X.K W (qB F B .brk)):=PS.imp L2.ps_break fun D σ H t=>by
 obtain ⟨ρ,env,h,s,r,p⟩:=t;exact p ρ H σ (Step.refl ρ H) r s
theorem qGI{pos:Pos}:PS X (.Continue pos) (tDS X.K W (qB F B .cnt)):=PS.imp L2.ps_continue fun D σ H t=>by
 obtain ⟨ρ,env,h,s,r,p⟩:=t;exact p ρ H σ (Step.refl ρ H) r s
theorem qGD{c:Expr}{a b:List Stmt}{pos:Pos}{cc:CT}{ca cb:CS}(hc:PT X c (tDT X.K W (qK F cc)))(ha:PSs X a (tDS X.K W (qB F B ca)))(hb:PSs X b (tDS X.K W (qB F B cb))) :
  PS X (.If c a b pos) (tDS X.K W (qB F B (.ite cc ca cb))):=PS.imp (L2.ps_if hc ha hb) fun D σ H t=>by
 obtain ⟨ρ,env,h,s,r,p⟩:=t;rw[qB] at p;refine⟨ρ,env,h,s,r,PostS.ofR s p fun ρ' h' k H' e' r' q=>?_⟩;cases k with
 |true=>exact L2.iteT ⟨ρ',env,h',s.mono e',r',q⟩
 |false=>exact L2.iteF ⟨ρ',env,h',s.mono e',r',q⟩
def vZ(K:PySem.W.Frag)(t:TG)(g:L2.TG):Prop:=∀ (ρ:List Addr) (H:Hp) (env env':Env) (σ:L2.St) (d:D) (v:V) (Q:L2.St->Hp->Prop),RepS K ρ H env σ->RepV K ρ H d v->yX t d env=some env'->(∀ st,RepS K ρ H env' st->Q st H)->g v σ H Q
theorem qE9{K:PySem.W.Frag}(i:Nat):vZ K (.nm i) (L2.gName i):=by
 intro ρ H env env' σ d v Q s hv e q;cases e;exact q _ (s.set i hv)
theorem PostS.turn{K:PySem.W.Frag}{D:Ends}{ρ:List Addr}{H:Hp}{r:SR}{f:Env->AH->SR}{N:L2.St->Hp->Prop}(p:PostS K W D ρ H (r.turn f))
  (hN:∀ ρ' H' env h st,Step ρ H ρ' H'->RepH K ρ' h H'->RepS K ρ' H' env st->PostS K W D ρ' H' (f env h)->N st H'):PostS K WF { D with nx:=N,ct:=N,bk:=D.nx } ρ H r:=by
 cases r with
 |nx e g=>exact fun ρ' H' st e' r' s'=>hN ρ' H' e g st e' r' s' (PostS.mono p e')
 |ct e g=>exact fun ρ' H' st e' r' s'=>hN ρ' H' e g st e' r' s' (PostS.mono p e')
 |bk e g=>exact p
 |rt _ _=>exact p
 |exc _ _ _=>exact False.elim p
 |bad=>exact p
theorem qA7{K:PySem.W.Frag}{E:Ends}{ρ:List Addr}{H:Hp}{env:Env}{h:AH}{σ:L2.St}{t:TG}{g:L2.TG}{cb:CS}{d:D}{v:V}{f:Env->AH->SR}{N:L2.St->Hp->Prop}(ht:vZ K t g)(s:RepS K ρ H env σ)(r:RepH K ρ h H)(hv:RepV K ρ H d v)
  (p:PostS K W E ρ H ((zR t (qB F B cb) d env h).turn f)) (hN:∀ ρ' H' env h st,Step ρ H ρ' H'->RepH K ρ' h H'->RepS K ρ' H' env st->PostS K W E ρ' H' (f env h)->N st H') :
  g v σ H fun σ2 H2=>tDS K WF (qB F B cb) { E with nx:=N,ct:=N,bk:=E.nx } σ2 H2:=by
 unfold zR at p;cases e:yX t d env with
 |none=>rw[e] at p;exact False.elim p
 |some env'=>rw[e] at p;exact ht ρ H env env' σ d v _ s hv e fun st s'=>⟨ρ,env',h,s',r,PostS.turn p hN⟩
theorem qBl{K:PySem.W.Frag}{E:Ends}{ρ:List Addr}{H:Hp}{env:Env}{h:AH}{σ:L2.St}{t:TG}{g:L2.TG}{cb:CS}{J:L2.It}{xs:List D}(ht:vZ K t g)(s:RepS K ρ H env σ)(r:RepH K ρ h H)
  (go:∀ (i:Nat) ρ' H',Step ρ H ρ' H'->i<xs.length->J.go i H') (yl:∀ (i:Nat) ρ' H' x H'',Step ρ H ρ' H'->i<xs.length->J.yld i H' x H''->H''=H'/\∃ d,xs[i]?=some d/\RepV K ρ' H' d x) (sp:∀ (i:Nat) ρ' H',Step ρ H ρ' H'->i=xs.length->J.stop i H')
  (p:PostS K W E ρ H (zS (zR t (qB F B cb)) xs env h)) :
  ∃ Wi:Nat->Nat->L2.St->Hp->Prop,(∃ m,Wi 0 m σ H)/\∀ i m σ H,Wi i m σ H ->
   (J.stop i H/\E.nx σ H)\/(J.go i H/\∃ N:L2.St->Hp->Prop,(∀ σ' H',N σ' H'->∃ m',m'<m/\Wi (i+1) m' σ' H')/\∀ x H',J.yld i H x H'->g x σ H' fun σ2 H2=>tDS K WF (qB F B cb) { E with nx:=N,ct:=N,bk:=E.nx } σ2 H2):=by
 refine⟨fun i m σ' H'=>m=xs.length-i/\i<=xs.length/\∃ ρ' env' h',Step ρ H ρ' H'/\RepS K ρ' H' env' σ'/\RepH K ρ' h' H'/\PostS K W E ρ' H' (zS (zR t (qB F B cb)) (xs.drop i) env' h'),⟨_,rfl,Nat.zero_le _,ρ,env,h,Step.refl _ _,s,r,p⟩,?_⟩
 rintro i m σ' H' ⟨rfl,hi,ρ',env',h',e',s',r',p'⟩
 by_cases hlt:i<xs.length
 ·refine .inr ⟨go i ρ' H' e' hlt,fun σ2 H2=>∃ ρ2 env2 h2,Step ρ H ρ2 H2/\RepS K ρ2 H2 env2 σ2/\RepH K ρ2 h2 H2/\PostS K W E ρ2 H2 (zS (zR t (qB F B cb)) (xs.drop (i+1)) env2 h2),fun σ2 H2 q=>⟨xs.length-(i+1),by omega,rfl,hlt,q⟩,fun x H'' y=>?_⟩;obtain ⟨rfl,d,hd,hv⟩:=yl i ρ' H' x H'' e' hlt y;rw[List.drop_eq_getElem_cons hlt] at p'
  have ed:xs[i]=d:=by
   rw[List.getElem?_eq_getElem hlt] at hd;exact Option.some.inj hd
  rw[ed,zS] at p';exact qA7 ht s' r' hv p' fun ρ2 H2 env2 h2 st e2 r2 s2 p2=>⟨ρ2,env2,h2,e'.trans e2,s2,r2,p2⟩
 ·have e:i=xs.length:=by omega
  subst e;rw[List.drop_length] at p';exact .inl ⟨sp _ ρ' H' e' rfl,p' ρ' H' σ' (Step.refl _ _) r' s'⟩
theorem qJu{K:PySem.W.Frag}{E:Ends}{ρ:List Addr}{H:Hp}{env:Env}{h:AH}{σ:L2.St}{t:TG}{g:L2.TG}{cb:CS}{k:Nat}{a:Addr}{n:Nat}(ht:vZ K t g)(s:RepS K ρ H env σ)(r:RepH K ρ h H)(ha:ρ[k]?=some a)
  (p:PostS K W E ρ H (kI (zR t (qB F B cb)) k n 0 env h)) :
  ∃ Wi:Nat->Nat->L2.St->Hp->Prop,(∃ m,Wi 0 m σ H)/\∀ i m σ H,Wi i m σ H ->
   ((L2.Itl K a).stop i H/\E.nx σ H)\/((L2.Itl K a).go i H/\∃ N:L2.St->Hp->Prop,(∀ σ' H',N σ' H'->∃ m',m'<m/\Wi (i+1) m' σ' H')/\∀ x H',(L2.Itl K a).yld i H x H'->g x σ H' fun σ2 H2=>tDS K WF (qB F B cb) { E with nx:=N,ct:=N,bk:=E.nx } σ2 H2):=by
 refine⟨fun i m σ' H'=>∃ ρ' env' h',Step ρ H ρ' H'/\RepS K ρ' H' env' σ'/\RepH K ρ' h' H'/\PostS K W E ρ' H' (kI (zR t (qB F B cb)) k m i env' h'),⟨n,ρ,env,h,Step.refl _ _,s,r,p⟩,?_⟩
 rintro i m σ' H' ⟨ρ',env',h',e',s',r',p'⟩
 cases m with
 |zero=>exact False.elim p'
 |succ m=>
  rw[kI] at p';cases q:qC h' k with
  |none=>rw[q] at p';exact False.elim p'
  |some xs=>
   rw[q] at p';obtain ⟨b,vs,h1,h2,h3⟩:=r'.list q;rw[vC e'.pre ha] at h1;cases h1;cases qx:xs[i]? with
   |none=>simp only[qx] at p';refine .inl ⟨⟨vs,h2,?_⟩,p' ρ' H' σ' (Step.refl _ _) r' s'⟩;rw[h3.length];exact List.getElem?_eq_none_iff.mp qx
   |some d=>simp only[qx] at p';obtain ⟨w,hw,hv⟩:=h3.get qx;refine .inr ⟨⟨vs,w,h2,hw⟩,fun σ2 H2=>∃ ρ2 env2 h2,Step ρ H ρ2 H2/\RepS K ρ2 H2 env2 σ2/\RepH K ρ2 h2 H2/\PostS K W E ρ2 H2 (kI (zR t (qB F B cb)) k m (i+1) env2 h2),fun σ2 H2 z=>⟨m,by omega,z⟩,fun x H'' y=>?_⟩;obtain ⟨rfl,y⟩:=y;have ew:=y vs h2;rw[hw] at ew;cases ew;exact qA7 ht s' r' hv p' fun ρ2 H2 env2 h2 st e2 r2 s2 p2=>⟨ρ2,env2,h2,e'.trans e2,s2,r2,p2⟩
end
section
variable {X:Cx}{F:Nat->List D->M D}{W:WX}
theorem qEM{K:PySem.W.Frag}{ρ:List Addr}{H:Hp}{xs:List D}{vs:List V}{i:Int}{d:D}(l:RepL K ρ H xs vs)(e:(ixN xs.length i).bind (xs[·]?)=some d):∃ w,L2.atI vs i=some w/\RepV K ρ H d w:=by
 cases q:ixN xs.length i with
 |none=>rw[q] at e;cases e
 |some j=>rw[q] at e;have e:xs[j]?=some d:=e;obtain ⟨w,h1,h2⟩:=l.get e;refine⟨w,?_,h2⟩;show (L2.ixN vs.length i).bind (fun j=>vs[j]?)=some w;rw[l.length];have q':L2.ixN xs.length i=some j:=q;rw[q'];exact h1
theorem qKU:IxR X (rB X.K .ix):=by
 rintro value slice pins s σ H x y v u Q I rx ry ⟨w,ρ,h,d,e,r,hd,he,p⟩ hs
 cases d with
 |tup xs=>
  cases e with
  |int i=>
   cases he;obtain ⟨a,vs,rfl,h1,h2⟩:=hd;have p:PostV X.K w Q ρ H (match (ixN xs.length i).bind (xs[·]?) with | some d=>.ok d h | none=>.bad):=p;cases q:(ixN xs.length i).bind (xs[·]?) with
   |none=>rw[q] at p;exact False.elim p
   |some d=>rw[q] at p;obtain ⟨w,h3,h4⟩:=qEM h2 q;exact L2.ix_tup value slice pins s σ H _ _ v u Q I rx ry ⟨a,vs,i,w,rfl,rfl,h1,h3,PostV.now p r h4⟩ hs
  |_=>exact False.elim p
 |str x=>
  cases e with
  |int i=>
   cases he;cases hd;have p:PostV X.K w Q ρ H (if x.length<=16777216 then (match (ixN x.length i).bind (x[·]?) with | some c=>.ok (.str [c]) h | none=>.bad) else .bad):=p;obtain ⟨hz,p⟩:=PostV.ite p;cases q:(ixN x.length i).bind (x[·]?) with
   |none=>rw[q] at p;exact False.elim p
   |some c=>rw[q] at p;exact L2.ix_str value slice pins s σ H _ _ v u Q I rx ry ⟨⟨x.toArray⟩,i,c,rfl,rfl,by rw[zL,zK];exact hz,q,PostV.now p r rfl⟩ hs
  |_=>exact False.elim p
 |ref k=>
  cases e with
  |int i=>
   have p:PostV X.K w Q ρ H (match (qC h k).bind fun xs=>(ixN xs.length i).bind (xs[·]?) with | some d=>.ok d h | none=>ixK k (.int i) h):=p;cases q:((qC h k).bind fun xs=>(ixN xs.length i).bind (xs[·]?)) with
   |none=>rw[q] at p;exact qB4 (ky:=.int i) I r hd he rx ry p hs
   |some d=>
    rw[q] at p;cases he;cases q0:qC h k with
    |none=>rw[q0] at q;cases q
    |some xs=>rw[q0] at q;obtain ⟨a,vs,rfl,h1,h2⟩:=r.seen q0 hd;obtain ⟨w,h3,h4⟩:=qEM h2 q;exact L2.ix_list value slice pins s σ H _ _ v u Q I rx ry ⟨a,vs,i,w,rfl,rfl,h1,h3,PostV.now p r h4⟩ hs
  |str x=>exact qB4 (ky:=.str x) I r hd he rx ry p hs
  |_=>exact False.elim p
 |_=>exact False.elim p
theorem qM9{a b:Expr}{ca cb:CE}{pos:Pos}(ha:PE X a (tD X.K W (den F ca)))(hb:PE X b (tD X.K W (den F cb)))(hs:L2.PlainIx b):PE X (.Subscript a b pos) (tD X.K W (den F (.bi .ix ca cb))):=PE.imp (L2.pe_ix qKU ha hb hs) fun _ _ _ t=>two t
theorem qEc:L2.UnR X (unaryOp .USub) (rU X.K .neg):=by
 rintro pins s σ H x v Q I rx ⟨w,ρ,h,d,r,hd,p⟩
 cases d with
 |int i=>cases hd;exact L2.un_neg pins s σ H _ v Q I rx ⟨i,rfl,PostV.now p r rfl⟩
 |_=>exact False.elim p
theorem qM1{a:Expr}{ca:CE}{pos:Pos}(ha:PE X a (tD X.K W (den F ca))):PE X (.UnaryOp .USub a pos) (tD X.K W (den F (.un .neg ca))):=PE.imp (L2.pe_un qEc ha) fun _ _ _ t=>one t
theorem qNq:qL X (.builtin "len") (rC X.K .len):=by
 rintro pins s σ H xs us Q I rv ⟨x,rfl,w,ρ,h,d,r,hd,p⟩
 cases d with
 |str x=>cases hd;obtain ⟨hz,p⟩:=PostV.ite (c:=x.length<=16777216) p;exact L2.call_len pins s σ H _ us Q I rv ⟨_,x.length,rfl,⟨by rw[zL,zK];exact hz,by rw[zL]⟩,PostV.now p r rfl⟩
 |tup ys=>obtain ⟨a,vs,rfl,h1,h2⟩:=hd;exact L2.call_len pins s σ H _ us Q I rv ⟨_,ys.length,rfl,.inr ⟨vs,h1,h2.length.symm⟩,PostV.now (h:=h) p r rfl⟩
 |ref i=>
  have p:PostV X.K w Q ρ H (match qC h i with | some xs=>.ok (.int xs.length) h | none=>yB i h):=p;cases q:qC h i with
  |none=>
   rw[q] at p;cases rv with
   |cons ru rn=>cases rn;exact qJw I r hd ru p
  |some ys=>rw[q] at p;obtain ⟨a,vs,rfl,h1,h2⟩:=r.seen q hd;exact L2.call_len pins s σ H _ us Q I rv ⟨_,ys.length,rfl,.inl ⟨vs,h1,h2.length.symm⟩,PostV.now p r rfl⟩
 |_=>exact False.elim p
theorem qNk:qL X (.builtin "ord") (rC X.K .ord):=by
 rintro pins s σ H xs us Q I rv ⟨x,rfl,w,ρ,h,d,r,hd,p⟩
 cases d with
 |str x=>
  cases hd
  match x,p with
  | [c],p=>exact L2.call_ord pins s σ H _ us Q I rv ⟨_,rfl,rfl,PostV.now (h:=h) p r rfl⟩
  | [],p=>exact False.elim p
  |_::_::_,p=>exact False.elim p
 |_=>exact False.elim p
theorem qEx(i:Int):((toString i:String):Str)=⟨(txI i).toArray⟩:=by
 show Str.ofString (toString i)=_;rw[Str.ofString_eq_toList];rfl
theorem qNi:qL X (.type "str") (rC X.K .str):=by
 rintro pins s σ H xs us Q I rv ⟨x,rfl,w,ρ,h,d,r,hd,p⟩
 cases d with
 |int i=>cases hd;obtain ⟨hz,p⟩:=PostV.ite (c:=i.natAbs.log2<1920) p;exact L2.call_str_int pins s σ H _ us Q I rv ⟨i,rfl,hz,PostV.now p r (qEx i ▸ rfl)⟩
 |_=>exact False.elim p
theorem qNs:qL X (.type "int") (rC X.K .int):=by
 rintro pins s σ H xs us Q I rv ⟨x,rfl,w,ρ,h,d,r,hd,p⟩
 cases d with
 |int i=>cases hd;exact L2.call_int1 pins s σ H _ us Q I rv (.inl ⟨i,rfl,PostV.now (h:=h) p r rfl⟩)
 |bl b=>cases hd;exact L2.call_int1 pins s σ H _ us Q I rv (.inr ⟨b,rfl,PostV.now (h:=h) p r rfl⟩)
 |str x=>
  cases hd;obtain ⟨hc,p⟩:=PostV.ite (c:=x≠[]/\x.length<=640/\jH x=true) p;obtain ⟨h1,h2,h3⟩:=hc;obtain ⟨u,rfl,t,rfl⟩:=L2.vals1 rv
  have hd:PySem.NumText.AllDigits x:=fun c hc=>by
   have:=List.all_eq_true.mp h3 c hc
   exact of_decide_eq_true this
  exact PySem.W.KIN.call_text (PySem.intText_digits (x:=⟨x.toArray⟩) hd h1 (by rw[zL];omega)) (by rw[zL];exact h2) ⟨.int _,H,I.tok _,⟨_,rfl⟩,PostV.now p r rfl⟩
 |_=>exact False.elim p
theorem qNh:qL X (.type "tuple") (rC X.K .tuple):=by
 rintro pins s σ H xs us Q I rv ⟨x,rfl,w,ρ,h,d,r,hd,p⟩
 cases d with
 |tup ys=>obtain ⟨a,vs,rfl,h1,h2⟩:=hd;exact L2.call_tuple_of pins s σ H _ us Q I rv ⟨a,vs,rfl,.inr ⟨h1,PostV.now (h:=h) p r ⟨a,vs,rfl,h1,h2⟩⟩⟩
 |ref i=>
  have p:PostV X.K w Q ρ H (match qC h i with | some xs=>.ok (.tup xs) h | none=>.bad):=p;cases q:qC h i with
  |none=>rw[q] at p;exact False.elim p
  |some ys=>rw[q] at p;obtain ⟨a,vs,rfl,h1,h2⟩:=r.seen q hd;exact L2.call_tuple_of pins s σ H _ us Q I rv ⟨a,vs,rfl,.inl ⟨h1,PostV.newT p r h2⟩⟩
 |_=>exact False.elim p
theorem qNp:qL X (.type "list") (rC X.K .list):=by
 rintro pins s σ H xs us Q I rv ⟨x,rfl,w,ρ,h,d,r,hd,p⟩
 cases d with
 |tup ys=>obtain ⟨a,vs,rfl,h1,h2⟩:=hd;exact L2.call_list_of pins s σ H _ us Q I rv ⟨a,vs,rfl,.inr h1,(PostV.newL (h:=h) p r h2).2⟩
 |ref i=>
  have p:PostV X.K w Q ρ H (match qC h i with | some xs=>newL xs h | none=>.bad):=p;cases q:qC h i with
  |none=>rw[q] at p;exact False.elim p
  |some ys=>rw[q] at p;obtain ⟨a,vs,rfl,h1,h2⟩:=r.seen q hd;exact L2.call_list_of pins s σ H _ us Q I rv ⟨a,vs,rfl,.inl h1,(PostV.newL p r h2).2⟩
 |_=>exact False.elim p
theorem qNn (hc:X.calm=true):qL X (.builtin "min") (rC2 X.K .min2):=by
 rintro pins s σ H xs us Q I rv ⟨x,y,rfl,w,ρ,h,d,e,r,hd,he,p⟩
 cases d with
 |int i=>
  cases e with
  |int j=>cases hd;cases he;exact L2.call_min2 hc pins s σ H _ us Q I rv ⟨i,j,rfl,PostV.now (h:=h) p r rfl⟩
  |_=>exact False.elim p
 |_=>exact False.elim p
theorem qNo (hc:X.calm=true):qL X (.builtin "max") (rC2 X.K .max2):=by
 rintro pins s σ H xs us Q I rv ⟨x,y,rfl,w,ρ,h,d,e,r,hd,he,p⟩
 cases d with
 |int i=>
  cases e with
  |int j=>cases hd;cases he;exact L2.call_max2 hc pins s σ H _ us Q I rv ⟨i,j,rfl,PostV.now (h:=h) p r rfl⟩
  |_=>exact False.elim p
 |_=>exact False.elim p
theorem qCB{ca:CE}{σ:L2.St}{H:Hp}{Q:VK}(t:tD X.K W (den F (.un .isN ca)) σ H Q):L2.tIsN (tD X.K W (den F ca)) σ H Q:=by
 obtain ⟨ρ,env,h,s,r,p⟩:=one t;refine⟨ρ,env,h,s,r,Post.imp p fun ρ' H' d q v hv=>?_⟩;obtain ⟨w1,ρ1,h1,d1,r1,hd1,p1⟩:=q v hv
 have e:=PostV.now (h:=h1) p1 r1 (v:=.bl (decide (v=.non))) (by
  cases d1 <;> first
   | (cases hd1;rfl)
   | (obtain ⟨a,vs,rfl,_⟩:=hd1;rfl)
   | (obtain ⟨a,_,rfl⟩:=hd1;rfl))
 exact e
theorem qBD{ca:CE}{σ:L2.St}{H:Hp}{Q:VK}(t:tD X.K W (den F (.un .notN ca)) σ H Q):L2.tNotN (tD X.K W (den F ca)) σ H Q:=by
 obtain ⟨ρ,env,h,s,r,p⟩:=one t;refine⟨ρ,env,h,s,r,Post.imp p fun ρ' H' d q v hv=>?_⟩;obtain ⟨w1,ρ1,h1,d1,r1,hd1,p1⟩:=q v hv
 have e:=PostV.now (h:=h1) p1 r1 (v:=.bl (!decide (v=.non))) (by
  cases d1 <;> first
   | (cases hd1;rfl)
   | (obtain ⟨a,vs,rfl,_⟩:=hd1;rfl)
   | (obtain ⟨a,_,rfl⟩:=hd1;rfl))
 exact e
theorem tP{o:Un}(ho:o=.isN\/o=.notN){ca:CE}(env:Env)(h:AH)(d:D)(h':AH)(e:den F (.un o ca) env h=.ok d h'):∃ k,d=.bl k:=by
 rw[den] at e;obtain ⟨x,g1,_,e⟩:=bind_ok e;rcases ho with rfl | rfl <;> (cases e;exact⟨_,rfl⟩)
theorem qNC{a:Expr}{ca:CE}{j:Nat}{pos pos':Pos}(ha:PE X a (tD X.K W (den F ca))):PE X (.Compare a [.Is] [.Constant .none j pos'] pos) (tD X.K W (den F (.un .isN ca))):=PE.imp (L2.pe_cmp (L2.pc_isN ha)) fun σ H Q t=>qCB t
theorem qMz{a:Expr}{ca:CE}{j:Nat}{pos pos':Pos}(ha:PE X a (tD X.K W (den F ca))):PE X (.Compare a [.IsNot] [.Constant .none j pos'] pos) (tD X.K W (den F (.un .notN ca))):=PE.imp (L2.pe_cmp (L2.pc_notN ha)) fun σ H Q t=>qBD t
theorem qMV{a:Expr}{ca:CE}{j:Nat}{pos pos':Pos}(ha:PE X a (tD X.K W (den F ca))):PT X (.Compare a [.Is] [.Constant .none j pos'] pos) (tDT X.K W (qK F (.val (.un .isN ca)))):=PT.imp (L2.pt_cmp (L2.pc_isN ha)) fun σ H Q t=>qCB (cO (tP (.inl rfl)) t)
theorem qMT{a:Expr}{ca:CE}{j:Nat}{pos pos':Pos}(ha:PE X a (tD X.K W (den F ca))):PT X (.Compare a [.IsNot] [.Constant .none j pos'] pos) (tDT X.K W (qK F (.val (.un .notN ca)))):=PT.imp (L2.pt_cmp (L2.pc_notN ha)) fun σ H Q t=>qBD (cO (tP (.inr rfl)) t)
end
section
variable {X:Cx}{F:Nat->List D->M D}{B:Nat}{W:WX}
theorem PS.nox{st:Stmt}{t:TS}(h:PS X.nox st t):PS X st t:=fun pins s σ H D I hw=>
 wpAny_mono (h pins s σ H D (I.wish _) hw) (fun _ _ q=>q.unwish) fun _ _ z=>False.elim z
theorem qFz{c:Expr}{body:List Stmt}{pos:Pos}{cc:CT}{cb:CS}(hc:PT X.nox c (tDT X.K WF (qK F cc)))(hb:PSs X.nox body (tDS X.K WF (qB F B cb))) :
  PS X (.While c body [] pos) (tDS X.K W (qB F B (.whil cc cb))):=PS.imp (PS.nox (L2.ps_while PassesOwn.never hc hb)) fun E σ H q=>by
 obtain ⟨ρ,env,h,s,r,p⟩:=q;rw[qB] at p;refine⟨fun m σ' H'=>∃ ρ' env' h',RepS X.K ρ' H' env' σ'/\RepH X.K ρ' h' H'/\PostS X.K W E ρ' H' (vL (qK F cc) (qB F B cb) m env' h'),⟨B,ρ,env,h,s,r,p⟩,?_⟩
 rintro m σ' H' ⟨ρ',env',h',s',r',p'⟩
 cases m with
 |zero=>exact False.elim p'
 |succ m=>
  rw[vL] at p';refine⟨ρ',env',h',s',r',?_⟩;cases q:qK F cc env' h' with
  |ok k g=>
   rw[q] at p';intro ρ1 H1 e1 r1;have q1:=PostS.mono p' e1;cases k with
   |true=>
    refine L2.iteT ⟨fun σ2 H2=>∃ ρ2 env2 h2,RepS X.K ρ2 H2 env2 σ2/\RepH X.K ρ2 h2 H2/\PostS X.K W E ρ2 H2 (vL (qK F cc) (qB F B cb) m env2 h2),fun σ2 H2 z=>⟨m,Nat.lt_succ_self _,z⟩,?_⟩
    exact⟨ρ1,env',g,s'.mono e1,r1,PostS.turn q1 fun ρ2 H2 env2 h2 st e2 r2 s2 p2=>⟨ρ2,env2,h2,s2,r2,p2⟩⟩
   |false=>exact L2.iteF (q1 ρ1 H1 σ' (Step.refl _ _) r1 (s'.mono e1))
  |exc _ _=>rw[q] at p';exact False.elim p'
  |bad=>rw[q] at p';exact False.elim p'
theorem qMU{a:Expr}{ca:CT}{pos:Pos}(ha:PT X a (tDT X.K W (qK F ca))):PT X (.UnaryOp .Not a pos) (tDT X.K W (qK F (.not ca))):=PT.imp (L2.pt_not ha) fun σ H Q t=>by
 obtain ⟨ρ,env,h,s,r,p⟩:=t;rw[qK] at p
 exact⟨ρ,env,h,s,r,Post.bind p fun ρ1 h1 k H1 e1 r1 q=>Post.ret q r1⟩
theorem qMQ{a b:Expr}{rest:List Expr}{ca cb:CT}{pos:Pos}(ha:PT X a (tDT X.K W (qK F ca)))(hb:L2.PW X (.BoolOp .And (b::rest) pos) (tDT X.K W (qK F cb))):L2.PW X (.BoolOp .And (a::b::rest) pos) (tDT X.K W (qK F (.and ca cb))):=fun wh pins s σ H Q I t=>
 L2.pw_and ha hb wh pins s σ H Q I (by
  obtain ⟨ρ,env,h,s,r,p⟩:=t;rw[qK] at p;refine⟨ρ,env,h,s,r,Post.bind p fun ρ1 h1 k H1 e1 r1 q=>?_⟩;cases k with
  |true=>exact L2.iteT ⟨ρ1,env,h1,s.mono e1,r1,q⟩
  |false=>exact L2.iteF (Post.ret q r1))
theorem qMP{a b:Expr}{rest:List Expr}{ca cb:CT}{pos:Pos}(ha:PT X a (tDT X.K W (qK F ca)))(hb:L2.PW X (.BoolOp .Or (b::rest) pos) (tDT X.K W (qK F cb))):L2.PW X (.BoolOp .Or (a::b::rest) pos) (tDT X.K W (qK F (.or ca cb))):=fun wh pins s σ H Q I t=>
 L2.pw_or ha hb wh pins s σ H Q I (by
  obtain ⟨ρ,env,h,s,r,p⟩:=t;rw[qK] at p;refine⟨ρ,env,h,s,r,Post.bind p fun ρ1 h1 k H1 e1 r1 q=>?_⟩;cases k with
  |true=>exact L2.iteT (Post.ret q r1)
  |false=>exact L2.iteF ⟨ρ1,env,h1,s.mono e1,r1,q⟩)
end
open PySem PySem.Spec PyProof.Rows PySem.SeqAt
def jN(f:D->D->Option Bool)(xs ys:List D)(j:Nat):Bool:=match xs[j]?,ys[j]? with
 |some x,some y=>(f x y).getD false
 |_,_=>false
theorem yN{f:D->D->Option Bool}:∀ {xs ys:List D} {b:Bool},eqW f xs ys=some b ->
  (∀ j x y,xs[j]?=some x->ys[j]?=some y->f x y=some (jN f xs ys j))/\b=((List.range (min xs.length ys.length)).all (jN f xs ys)&&(xs.length == ys.length))
 | [],[],b,e=>by
  cases e
  exact⟨fun j x y h=>by simp at h,rfl⟩
 | [],y::ys,b,e=>by
  cases e
  exact⟨fun j x y h=>by simp at h,by simp⟩
 |x::xs,[],b,e=>by
  cases e
  exact⟨fun j x y _ h=>by simp at h,by simp⟩
 |x::xs,y::ys,b,e=>by
  unfold eqW at e;cases e1:f x y with
  |none=>rw[e1] at e;cases e
  |some c=>
   cases e2:eqW f xs ys with
   |none=>rw[e1,e2] at e;cases e
   |some d=>
    rw[e1,e2] at e;cases e;obtain ⟨h1,h2⟩:=yN e2;refine⟨fun j x' y' hx hy=>?_,?_⟩
    ·cases j with
     |zero=>cases hx;cases hy;show f x y=some ((f x y).getD false);rw[e1];rfl
     |succ j=>exact h1 j x' y' (by simpa using hx) (by simpa using hy)
    ·rw[h2]
     have e3:jN f (x::xs) (y::ys) 0=c:=by
      show (f x y).getD false=c;rw[e1];rfl
     have e4:∀ j,jN f (x::xs) (y::ys) (j+1)=jN f xs ys j:=fun j=>by
      unfold jN;simp
     have e5:min (x::xs).length (y::ys).length=min xs.length ys.length+1:=by simp
     rw[e5,List.range_succ_eq_map,List.all_cons,e3,List.all_map];have e6:(jN f (x::xs) (y::ys) ∘ Nat.succ)=jN f xs ys:=funext e4;rw[e6];simp[Bool.and_assoc]
section
variable {X:Cx}{pins:List (Addr × Obj)}{σ:L2.St}{H:Hp}{s:Shared}{ρ:List Addr}{h:AH}
theorem qCH{y:D}(h:RepV X.K ρ H y .non):y=.non:=by
 cases y with
 |non=>rfl
 |tup xs=>obtain ⟨_,_,z,_⟩:=h;cases z
 |ref i=>obtain ⟨_,_,z⟩:=h;cases z
 |_=>cases h
theorem qCJ{y:D}{c:Bool}(h:RepV X.K ρ H y (.bl c)):y=.bl c:=by
 cases y with
 |bl d=>cases h;rfl
 |tup xs=>obtain ⟨_,_,z,_⟩:=h;cases z
 |ref i=>obtain ⟨_,_,z⟩:=h;cases z
 |_=>cases h
theorem qCI{y:D}{c:Int}(h:RepV X.K ρ H y (.int c)):y=.int c:=by
 cases y with
 |int d=>cases h;rfl
 |tup xs=>obtain ⟨_,_,z,_⟩:=h;cases z
 |ref i=>obtain ⟨_,_,z⟩:=h;cases z
 |_=>cases h
theorem qCG{y:D}{c:Tx}(h:RepV X.K ρ H y (.str ⟨c.toArray⟩)):y=.str c:=by
 cases y with
 |str d=>
  have z:V.str ⟨c.toArray⟩=V.str ⟨d.toArray⟩:=h;have z:c.toArray=d.toArray:=by injection z with z;injection z
  have z:c=d:=by simpa using congrArg Array.toList z
  rw[z]
 |tup xs=>obtain ⟨_,_,z,_⟩:=h;cases z
 |ref i=>obtain ⟨_,_,z⟩:=h;cases z
 |_=>cases h
theorem aK{y:D}{a:Addr}(h:RepV X.K ρ H y (.ref a)):(∃ ys vs,y=.tup ys/\SqT X.K H a vs/\RepL X.K ρ H ys vs)\/∃ j,y=.ref j/\ρ[j]?=some a:=by
 cases y with
 |tup xs=>obtain ⟨_,vs,z,h1,h2⟩:=h;cases z;exact .inl ⟨xs,vs,rfl,h1,h2⟩
 |ref i=>obtain ⟨_,h1,z⟩:=h;cases z;exact .inr ⟨i,rfl,h1⟩
 |_=>cases h
theorem qGg{x:D}{v:V}{vv:Value}(h:RepV X.K ρ H x v)(r:RelV v vv):vv=.none\/(∃ c,vv=.bool c)\/(∃ c t,vv=.int c t)\/(∃ c t,vv=.str c t)\/∃ c,vv=.ref c:=by
 cases x with
 |non=>cases h;exact .inl r
 |bl c=>cases h;exact .inr (.inl ⟨c,r⟩)
 |int c=>cases h;obtain ⟨t,r⟩:=r;exact .inr (.inr (.inl ⟨c,t,r⟩))
 |str c=>cases h;obtain ⟨t,r⟩:=r;exact .inr (.inr (.inr (.inl ⟨_,t,r⟩)))
 |tup xs=>obtain ⟨a,_,rfl,_⟩:=h;exact .inr (.inr (.inr (.inr ⟨a,r⟩)))
 |ref i=>obtain ⟨a,_,rfl⟩:=h;exact .inr (.inr (.inr (.inr ⟨a,r⟩)))
theorem qFy(I:Inv X pins σ H s)(r:RepH X.K ρ h H):∀ (n:Nat) (x y:D) (b:Bool) (v:V),eqD h n x y=some b->RepV X.K ρ H x v->RepV X.K ρ H y v->b=true:=by
 intro n
 have rows:∀ m,(∀ (x y:D) (b:Bool) (v:V),eqD h m x y=some b->RepV X.K ρ H x v->RepV X.K ρ H y v->b=true)->∀ (xs ys:List D) (b:Bool) (vs:List V),eqW (eqD h m) xs ys=some b->RepL X.K ρ H xs vs->RepL X.K ρ H ys vs->b=true:=by
  intro m ih xs
  induction xs with
  |nil=>
   intro ys b vs e hx hy;cases hx;cases ys with
   |nil=>cases e;rfl
   |cons y ys=>obtain ⟨_,_,z,_⟩:=hy;cases z
  |cons x xs ihx=>
   intro ys b vs e hx hy;obtain ⟨v,rest,rfl,h1,h2⟩:=hx;cases ys with
   |nil=>cases hy
   |cons y ys=>
    obtain ⟨v',rest',z,k1,k2⟩:=hy;cases z;unfold eqW at e;cases e1:eqD h m x y with
    |none=>rw[e1] at e;cases e
    |some c=>
     cases e2:eqW (eqD h m) xs ys with
     |none=>rw[e1,e2] at e;cases e
     |some d=>rw[e1,e2] at e;cases e;rw[ih x y c v e1 h1 k1,ihx ys d rest e2 h2 k2];rfl
 induction n with
 |zero=>
  intro x y b v e hx hy;cases x with
  |non=>cases hx;cases qCH hy;cases e;rfl
  |bl c=>cases hx;cases qCJ hy;cases e;simp
  |int c=>cases hx;cases qCI hy;cases e;simp
  |str c=>cases hx;cases qCG hy;cases e;simp
  |tup xs=>
   obtain ⟨a,vs,rfl,k1,k2⟩:=hx;rcases aK hy with⟨ys,ws,rfl,k3,k4⟩ | ⟨j,rfl,k3⟩
   ·cases e
   ·cases e
  |ref i=>
   obtain ⟨a,k1,rfl⟩:=hx;rcases aK hy with⟨ys,ws,rfl,k3,k4⟩ | ⟨j,rfl,k3⟩
   ·cases e
   ·cases e
 |succ n ih=>
  intro x y b v e hx hy;cases x with
  |non=>cases hx;cases qCH hy;cases e;rfl
  |bl c=>cases hx;cases qCJ hy;cases e;simp
  |int c=>cases hx;cases qCI hy;cases e;simp
  |str c=>cases hx;cases qCG hy;cases e;simp
  |tup xs=>
   obtain ⟨a,vs,rfl,k1,k2⟩:=hx;rcases aK hy with⟨ys,ws,rfl,k3,k4⟩ | ⟨j,rfl,k3⟩
   ·have:=I.tuple_inj k1 k3
    subst this;exact rows n ih xs ys b vs e k2 k4
   ·cases e
  |ref i=>
   obtain ⟨a,k1,rfl⟩:=hx;rcases aK hy with⟨ys,ws,rfl,k3,k4⟩ | ⟨j,rfl,k3⟩
   ·cases e
   ·have e:(match qC h i,qC h j with | some xs,some ys=>eqW (eqD h n) xs ys | _,_=>none)=some b:=e;cases q:qC h i with
    |none=>rw[q] at e;cases e
    |some xs=>
     cases q2:qC h j with
     |none=>rw[q,q2] at e;cases e
     |some ys=>
      rw[q,q2] at e;obtain ⟨a1,vs,m1,m2,m3⟩:=r.list q;obtain ⟨a2,ws,n1,n2,n3⟩:=r.list q2;rw[k1] at m1;rw[k3] at n1;cases m1;cases n1
      have:=I.list_inj m2 n2
      subst this;exact rows n ih xs ys b vs e m3 n3
theorem qML(I:Inv X pins σ H s)(r:RepH X.K ρ h H):∀ (m:Nat),(∀ (x y:D) (b:Bool) (v u:V) (vv uu:Value) (A:Around),eqD h m x y=some b->RepV X.K ρ H x v->RepV X.K ρ H y u->RelV v vv->RelV u uu->A.units+m<cLine->RcAt A s vv uu b) ->
  ∀ (x y:D) (b:Bool) (v u:V) (vv uu:Value) (A:Around),eqD h m x y=some b->RepV X.K ρ H x v->RepV X.K ρ H y u->RelV v vv->RelV u uu->A.units+m<cLine->EqAt A s vv uu b:=by
 intro m ih x y b v u vv uu A e hx hy rv ru hu prog w E Q hq;unfold eqBool;refine wpAny_holding ?_;refine wpAny_ite_split (fun hab=>?_) (fun _=>?_)
 ·have hab:=eq_of_beq hab;subst hab
  have:=rv.inj ru
  subst this
  have:=qFy I r m x y b v e hx hy
  subst this;exact wpAny_bind (wpAny_rule (wpAny_pure hq))
 ·have go:=ih x y b v u vv uu A e hx hy rv ru hu prog w E (fun c s'=>wpAny (model prog w) A (truthOfDropped c) Q E s') (wpAny_truthy_bool hq);rcases qGg hx rv with rfl | ⟨c,rfl⟩ | ⟨c,t,rfl⟩ | ⟨c,t,rfl⟩ | ⟨c,rfl⟩ <;> exact wpAny_bind go
theorem gO(I:Inv X pins σ H s)(r:RepH X.K ρ h H):∀ (m:Nat) (A:Around),(∀ (x y:D) (b:Bool) (v u:V) (vv uu:Value) (A:Around),eqD h m x y=some b->RepV X.K ρ H x v->RepV X.K ρ H y u->RelV v vv->RelV u uu->A.units+m<cLine->RcAt A s vv uu b)->A.units+(m+1)<cLine ->
  ∀ (xs ys:List D) (b:Bool) (vs us:List V) (its its2:List Value),eqW (eqD h m) xs ys=some b->RepL X.K ρ H xs vs->RepL X.K ρ H ys us->Vals vs its->Vals us its2 ->
   (∀ j (h1:j<its.toArray.size) (h2:j<its2.toArray.size),EqAt A.in1 s its.toArray[j] its2.toArray[j] (jN (eqD h m) xs ys j)):=by
 intro m A ih hu xs ys b vs us its its2 e hx hy rv ru j h1 h2;obtain ⟨k1,_⟩:=yN e;have l1:=rv.length;have l2:=ru.length;have l3:=hx.length;have l4:=hy.length;rw[List.size_toArray] at h1 h2;have q1:xs[j]?=some (xs[j]'(by omega)):=by simp
 have q2:ys[j]?=some (ys[j]'(by omega)):=by simp
 obtain ⟨w1,p1,p2⟩:=hx.get q1;obtain ⟨w2,p3,p4⟩:=hy.get q2;obtain ⟨u1,p5,p6⟩:=rv.get p1;obtain ⟨u2,p7,p8⟩:=ru.get p3
 have f1:its.toArray[j]'(by simpa using h1)=u1:=by
  have:its[j]?=some (its[j]'h1):=by simp
  rw[this] at p5;simpa using p5
 have f2:its2.toArray[j]'(by simpa using h2)=u2:=by
  have:its2[j]?=some (its2[j]'h2):=by simp
  rw[this] at p7;simpa using p7
 rw[f1,f2];exact qML I r m ih _ _ _ w1 w2 u1 u2 A.in1 (k1 j _ _ q1 q2) p2 p4 p6 p8 (by show A.units+1+m<cLine;omega)
theorem iA(I:Inv X pins σ H s)(r:RepH X.K ρ h H):∀ (n:Nat) (x y:D) (b:Bool) (v u:V) (vv uu:Value) (A:Around),eqD h n x y=some b->RepV X.K ρ H x v->RepV X.K ρ H y u->RelV v vv->RelV u uu->A.units+n<cLine->RcAt A s vv uu b:=by
 intro n
 have tups:∀ {l b:Addr} {vs us:List V},SqT X.K H l vs->SqT X.K H b us->∃ its its2:List Value,Vals vs its/\Vals us its2/\s.heap.IsTuple l its.toArray/\s.heap.IsTuple b its2.toArray:=fun h1 h2=>by
  obtain ⟨its,k1,k2,_⟩:=I.tuple h1;obtain ⟨its2,k3,k4,_⟩:=I.tuple h2
  exact⟨its,its2,k1,k3,k2,k4⟩
 have strEq:∀ {A:Around} (x y:Tx) (t t':Tok),RcAt A s (.str ⟨x.toArray⟩ t) (.str ⟨y.toArray⟩ t') (x == y):=fun x y t t'=>by
  have e:(x == y)=((⟨x.toArray⟩:Str) == (⟨y.toArray⟩:Str)):=by
   rw[Bool.eq_iff_iff];simp
  rw[e];exact RcAt.str_str _ _ _ _
 induction n with
 |zero=>
  intro x y b v u vv uu A e hx hy rv ru hu;have hu0:A.units<cLine:=by omega
  cases x with
  |non=>
   cases y with
   |non=>cases hx;cases rv;cases hy;cases ru;cases e;exact RcAt.none_none
   |_=>cases e
  |bl x=>
   cases y with
   |bl y=>cases hx;cases rv;cases hy;cases ru;cases e;exact RcAt.bool_bool _ _
   |int y=>cases hx;cases rv;cases hy;obtain ⟨t',rfl⟩:=ru;cases e;exact RcAt.bool_int _ _ _
   |_=>cases e
  |int x=>
   cases y with
   |bl y=>cases hx;obtain ⟨t,rfl⟩:=rv;cases hy;cases ru;cases e;exact RcAt.int_bool _ _ _
   |int y=>cases hx;obtain ⟨t,rfl⟩:=rv;cases hy;obtain ⟨t',rfl⟩:=ru;cases e;exact RcAt.int_int _ _ _ _
   |_=>cases e
  |str x=>
   cases y with
   |str y=>cases hx;obtain ⟨t,rfl⟩:=rv;cases hy;obtain ⟨t',rfl⟩:=ru;cases e;exact strEq _ _ _ _
   |_=>cases e
  |tup x=>
   cases y with
   |_=>cases e
  |ref x=>
   cases y with
   |_=>cases e
 |succ n ih=>
  intro x y b v u vv uu A e hx hy rv ru hu;have hu0:A.units<cLine:=by omega
  have tt:∀ {a a2:Addr} {vs us:List V} {xs ys:List D},SqT X.K H a vs->SqT X.K H a2 us->RepL X.K ρ H xs vs->RepL X.K ρ H ys us->eqW (eqD h n) xs ys=some b->RcAt A s (.ref a) (.ref a2) b:=fun k1 m1 k2 m2 e=>by
   obtain ⟨its,its2,q1,q2,q3,q4⟩:=tups k1 m1
   have:=RcAt.tuples (e:=jN (eqD h n) _ _) q3 q4 hu0 (gO I r n A ih (by omega) _ _ b _ _ its its2 e k2 m2 q1 q2)
   obtain ⟨_,eb⟩:=yN e;rw[eb];have l1:=q1.length;have l2:=q2.length;have l3:=k2.length;have l4:=m2.length;rw[List.size_toArray,List.size_toArray,<- l1,<- l2,l3,l4] at this;exact this
  have ll:∀ {i j:Nat} {a a2:Addr},ρ[i]?=some a->ρ[j]?=some a2->(match qC h i,qC h j with | some xs,some ys=>eqW (eqD h n) xs ys | _,_=>none)=some b->RcAt A s (.ref a) (.ref a2) b:=fun {i j a a2} k1 m1 e=>by
   cases q:qC h i with
   |none=>rw[q] at e;cases e
   |some xs=>
    cases q2:qC h j with
    |none=>rw[q,q2] at e;cases e
    |some ys=>
     rw[q,q2] at e;obtain ⟨a1,vs,p1,p2,p3⟩:=r.list q;obtain ⟨a2',us,o1,o2,o3⟩:=r.list q2;rw[k1] at p1;rw[m1] at o1;cases p1;cases o1;obtain ⟨its,r1,pl1,_⟩:=I.list p2;obtain ⟨its2,r2,pl2,_⟩:=I.list o2;have l1:=r1.length;have l2:=r2.length;have l3:=p3.length;have l4:=o3.length;obtain ⟨_,eb⟩:=yN e;rw[eb]
     by_cases hsz:xs.length=ys.length
     ·have:=RcAt.lists (e:=jN (eqD h n) xs ys) pl1.isList pl2.isList (by rw[List.size_toArray,List.size_toArray];omega) hu0 (gO I r n A ih (by omega) _ _ b _ _ its its2 e p3 o3 r1 r2)
      rw[List.size_toArray,<- l1,l3] at this;rw[<- hsz,Nat.min_self,beq_self_eq_true,Bool.and_true];exact this
     ·have e2:(xs.length == ys.length)=false:=by simpa using hsz
      rw[e2,Bool.and_false];exact RcAt.lists_lengths pl1.isList pl2.isList (by rw[List.size_toArray,List.size_toArray,<- l1,<- l2,l3,l4];simpa using hsz) hu0
  cases x with
  |non=>
   cases y with
   |non=>cases hx;cases rv;cases hy;cases ru;cases e;exact RcAt.none_none
   |_=>cases e
  |bl x=>
   cases y with
   |bl y=>cases hx;cases rv;cases hy;cases ru;cases e;exact RcAt.bool_bool _ _
   |int y=>cases hx;cases rv;cases hy;obtain ⟨t',rfl⟩:=ru;cases e;exact RcAt.bool_int _ _ _
   |_=>cases e
  |int x=>
   cases y with
   |bl y=>cases hx;obtain ⟨t,rfl⟩:=rv;cases hy;cases ru;cases e;exact RcAt.int_bool _ _ _
   |int y=>cases hx;obtain ⟨t,rfl⟩:=rv;cases hy;obtain ⟨t',rfl⟩:=ru;cases e;exact RcAt.int_int _ _ _ _
   |_=>cases e
  |str x=>
   cases y with
   |str y=>cases hx;obtain ⟨t,rfl⟩:=rv;cases hy;obtain ⟨t',rfl⟩:=ru;cases e;exact strEq _ _ _ _
   |_=>cases e
  |tup x=>
   cases y with
   |tup y=>obtain ⟨a,vs,rfl,k1,k2⟩:=hx;cases rv;obtain ⟨a2,us,rfl,m1,m2⟩:=hy;cases ru;exact tt k1 m1 k2 m2 e
   |_=>cases e
  |ref x=>
   cases y with
   |ref y=>obtain ⟨a,k1,rfl⟩:=hx;cases rv;obtain ⟨a2,m1,rfl⟩:=hy;cases ru;exact ll k1 m1 e
   |_=>cases e
theorem qIk(I:Inv X pins σ H s)(r:RepH X.K ρ h H):∀ (n:Nat) (x y:D) (b:Bool) (v u:V) (vv uu:Value) (A:Around),eqD h (n+1) x y=some b->RepV X.K ρ H x v->RepV X.K ρ H y u->RelV v vv->RelV u uu->A.units+(n+1)<cLine->RcNeAt A s vv uu (!b):=by
 intro n
 have tups:∀ {l b:Addr} {vs us:List V},SqT X.K H l vs->SqT X.K H b us->∃ its its2:List Value,Vals vs its/\Vals us its2/\s.heap.IsTuple l its.toArray/\s.heap.IsTuple b its2.toArray:=fun h1 h2=>by
  obtain ⟨its,k1,k2,_⟩:=I.tuple h1;obtain ⟨its2,k3,k4,_⟩:=I.tuple h2
  exact⟨its,its2,k1,k3,k2,k4⟩
 have strEq:∀ {A:Around} (x y:Tx) (t t':Tok),RcNeAt A s (.str ⟨x.toArray⟩ t) (.str ⟨y.toArray⟩ t') (!(x == y)):=fun x y t t'=>by
  have e:(x == y)=((⟨x.toArray⟩:Str) == (⟨y.toArray⟩:Str)):=by
   rw[Bool.eq_iff_iff];simp
  rw[e];exact RcNeAt.str_str _ _ _ _
 intro x y b v u vv uu A e hx hy rv ru hu;have hu0:A.units<cLine:=by omega
 have tt:∀ {a a2:Addr} {vs us:List V} {xs ys:List D},SqT X.K H a vs->SqT X.K H a2 us->RepL X.K ρ H xs vs->RepL X.K ρ H ys us->eqW (eqD h n) xs ys=some b->RcNeAt A s (.ref a) (.ref a2) (!b):=fun k1 m1 k2 m2 e=>by
  obtain ⟨its,its2,q1,q2,q3,q4⟩:=tups k1 m1
  have:=RcNeAt.tuples (e:=jN (eqD h n) _ _) q3 q4 hu0 (gO I r n A (iA I r n) (by omega) _ _ b _ _ its its2 e k2 m2 q1 q2)
  obtain ⟨_,eb⟩:=yN e;rw[eb];have l1:=q1.length;have l2:=q2.length;have l3:=k2.length;have l4:=m2.length;rw[List.size_toArray,List.size_toArray,<- l1,<- l2,l3,l4] at this;exact this
 have ll:∀ {i j:Nat} {a a2:Addr},ρ[i]?=some a->ρ[j]?=some a2->(match qC h i,qC h j with | some xs,some ys=>eqW (eqD h n) xs ys | _,_=>none)=some b->RcNeAt A s (.ref a) (.ref a2) (!b):=fun {i j a a2} k1 m1 e=>by
  cases q:qC h i with
  |none=>rw[q] at e;cases e
  |some xs=>
   cases q2:qC h j with
   |none=>rw[q,q2] at e;cases e
   |some ys=>
    rw[q,q2] at e;obtain ⟨a1,vs,p1,p2,p3⟩:=r.list q;obtain ⟨a2',us,o1,o2,o3⟩:=r.list q2;rw[k1] at p1;rw[m1] at o1;cases p1;cases o1;obtain ⟨its,r1,pl1,_⟩:=I.list p2;obtain ⟨its2,r2,pl2,_⟩:=I.list o2;have l1:=r1.length;have l2:=r2.length;have l3:=p3.length;have l4:=o3.length;obtain ⟨_,eb⟩:=yN e;rw[eb]
    by_cases hsz:xs.length=ys.length
    ·have:=RcNeAt.lists (e:=jN (eqD h n) xs ys) pl1.isList pl2.isList (by rw[List.size_toArray,List.size_toArray];omega) hu0 (gO I r n A (iA I r n) (by omega) _ _ b _ _ its its2 e p3 o3 r1 r2)
     rw[List.size_toArray,<- l1,l3] at this;rw[<- hsz,Nat.min_self,beq_self_eq_true,Bool.and_true];exact this
    ·have e2:(xs.length == ys.length)=false:=by simpa using hsz
     rw[e2,Bool.and_false];exact RcNeAt.lists_lengths pl1.isList pl2.isList (by rw[List.size_toArray,List.size_toArray,<- l1,<- l2,l3,l4];simpa using hsz) hu0
 cases x with
 |non=>
  cases y with
  |non=>cases hx;cases rv;cases hy;cases ru;cases e;exact RcNeAt.none_none
  |_=>cases e
 |bl x=>
  cases y with
  |bl y=>cases hx;cases rv;cases hy;cases ru;cases e;exact RcNeAt.bool_bool _ _
  |int y=>cases hx;cases rv;cases hy;obtain ⟨t',rfl⟩:=ru;cases e;exact RcNeAt.bool_int _ _ _
  |_=>cases e
 |int x=>
  cases y with
  |bl y=>cases hx;obtain ⟨t,rfl⟩:=rv;cases hy;cases ru;cases e;exact RcNeAt.int_bool _ _ _
  |int y=>cases hx;obtain ⟨t,rfl⟩:=rv;cases hy;obtain ⟨t',rfl⟩:=ru;cases e;exact RcNeAt.int_int _ _ _ _
  |_=>cases e
 |str x=>
  cases y with
  |str y=>cases hx;obtain ⟨t,rfl⟩:=rv;cases hy;obtain ⟨t',rfl⟩:=ru;cases e;exact strEq _ _ _ _
  |_=>cases e
 |tup x=>
  cases y with
  |tup y=>obtain ⟨a,vs,rfl,k1,k2⟩:=hx;cases rv;obtain ⟨a2,us,rfl,m1,m2⟩:=hy;cases ru;exact tt k1 m1 k2 m2 e
  |_=>cases e
 |ref x=>
  cases y with
  |ref y=>obtain ⟨a,k1,rfl⟩:=hx;cases rv;obtain ⟨a2,m1,rfl⟩:=hy;cases ru;exact ll k1 m1 e
  |_=>cases e
end
section
variable {X:Cx}
theorem qG3(hu:X.A.units+64<cLine):OpR X (compareOp .Eq) (rB X.K .eq):=by
 rintro pins s σ H x y v u Q I rx ry ⟨w,ρ,h,d,e,r,hd,he,p⟩
 have p:PostV X.K w Q ρ H (match eqD h 40 d e with | some b=>.ok (.bl b) h | none=>.bad):=p;cases q:eqD h 40 d e with
 |none=>rw[q] at p;exact False.elim p
 |some b=>rw[q] at p;exact iA I r 40 d e b x y v u X.A q hd he rx ry (by omega) X.prog X.w X.xe _ ⟨.bl b,H,I,rfl,PostV.now p r rfl⟩
theorem qGu(hu:X.A.units+64<cLine):OpR X (compareOp .NotEq) (rB X.K .ne):=by
 rintro pins s σ H x y v u Q I rx ry ⟨w,ρ,h,d,e,r,hd,he,p⟩
 have p:PostV X.K w Q ρ H (match eqD h 40 d e with | some b=>.ok (.bl (!b)) h | none=>.bad):=p;cases q:eqD h 40 d e with
 |none=>rw[q] at p;exact False.elim p
 |some b=>rw[q] at p;exact qIk I r 39 d e b x y v u X.A q hd he rx ry (by omega) X.prog X.w X.xe _ ⟨.bl (!b),H,I,rfl,PostV.now p r rfl⟩
end
open PySem PySem.Spec PyProof.Rows PySem.StrLaws Builtin.Str
theorem uP(n d:Nat)(o:Option Int):qU n d o=HT.sIx n d o:=by cases o <;> rfl
theorem qCp(xs:List V)(lo hi:Option Int):L2.cutV xs lo hi=qO xs lo hi:=by
 unfold L2.cutV qO;rw[uP,uP]
theorem qCr(n d:Nat)(hd:d<=n)(o:Option Int):qU n d o<=n:=by rw[uP];exact HT.sIx_le n d hd o
theorem RepL.cut{K:PySem.W.Frag}{ρ:List Addr}{H:Hp}{xs:List D}{vs:List V}(l:RepL K ρ H xs vs)(lo hi:Option Int):RepL K ρ H (qO xs lo hi) (qO vs lo hi):=by
 unfold qO;rw[l.length];exact (l.drop _).take _
theorem qB3(lo hi:Option Int)(n:Nat):strSliceIndices lo hi 1 n=(List.range (qU n n hi-qU n 0 lo)).map fun k=>qU n 0 lo+k:=by
 have c1:(match lo with | none=>(0:Int) | some i=>max 0 (min (if i<0 then i+(n:Int) else i) (n:Int)))=(qU n 0 lo:Int):=by
  cases lo with
  |none=>rfl
  |some v=>unfold qU;simp only;split <;> omega
 have c2:(match hi with | none=>(n:Int) | some i=>max 0 (min (if i<0 then i+(n:Int) else i) (n:Int)))=(qU n n hi:Int):=by
  cases hi with
  |none=>rfl
  |some v=>unfold qU;simp only;split <;> omega
 have e:strSliceIndices lo hi 1 n=sliceRange (qU n 0 lo:Int) (qU n n hi:Int) 1:=by
  rw[<- c1,<- c2];unfold strSliceIndices;cases lo <;> cases hi <;> simp
 rw[e];unfold sliceRange;simp only[show (1:Int) > 0 from by decide,if_true]
 by_cases hlt:(qU n 0 lo:Int)<(qU n n hi:Int)
 ·rw[if_pos hlt]
  have e3:(((qU n n hi:Int)-(qU n 0 lo:Int)+1-1) / 1).toNat=qU n n hi-qU n 0 lo:=by
   rw[Int.ediv_one];omega
  rw[e3];refine List.map_congr_left fun k _=>?_;omega
 ·rw[if_neg hlt]
  have:qU n n hi-qU n 0 lo=0:=by omega
  rw[this];rfl
theorem qFm(x:Tx)(lo hi:Option Int):Txt.slice ⟨x.toArray⟩ lo hi=⟨(qO x lo hi).toArray⟩:=by
 have hl:(⟨x.toArray⟩:Str).length=x.length:=zL x;have a1:=qCr x.length 0 (Nat.zero_le _) lo;have a2:=qCr x.length x.length (Nat.le_refl _) hi
 have pk:((strSliceIndices lo hi 1 (⟨x.toArray⟩:Str).length).filterMap ((⟨x.toArray⟩:Str).cps[·]?))=qO x lo hi:=by
  rw[hl,qB3];unfold qO
  by_cases hc:qU x.length 0 lo<=qU x.length x.length hi
  ·have:=picks x (qU x.length x.length hi-qU x.length 0 lo) (qU x.length 0 lo) (by omega)
   simpa using this
  ·have:qU x.length x.length hi-qU x.length 0 lo=0:=by omega
   rw[this];simp
 unfold Txt.slice;split
 ·rename_i hc;have hc':(strSliceIndices lo hi 1 (⟨x.toArray⟩:Str).length).length=x.length:=by simpa [hl] using hc
  rw[hl,qB3,List.length_map,List.length_range] at hc'
  have e:qO x lo hi=x:=by
   unfold qO;have z:qU x.length 0 lo=0:=by omega
   rw[z,List.drop_zero];exact List.take_of_length_le (by omega)
  rw[e]
 ·rw[pk]
section
open HT
variable {prog:Program}{w:World}{A:Around}{E:Value->Shared->Prop}{s:Shared}
theorem qE2{t sl:Addr}{items:Array Value}{vl vu:Value}{lo hi:Option Int}{Q:Value->Shared->Prop}(ht:IsTup s.heap t items)(hs:s.heap.IsSliceOf sl vl vu .none)(pl:IsPart vl lo)(pu:IsPart vu hi)
  (hw:sIx items.size 0 lo=0/\sIx items.size items.size hi=items.size) (h:Q (.ref t) s):wpAny (model prog w) A (getItem (.ref t) (.ref sl)) Q E s:=by
 obtain ⟨os,hos,hcs,hds⟩:=id hs;have hTs:s.TypeIs (.ref sl) "slice":=⟨os,hos,hcs⟩;unfold getItem
 try with_reducible refine wpAny_holding ?_
 first | refine wpAny_bind (wpAny_pure ?_) | skip
 refine wpAny_bind (wpAny_sequenceKey ht.typeIs (by decide) ?_)
 refine wpAny_bind (wpAny_callSpecial?_slot (name:=Str.ofString "__getitem__") ht.typeIs PyProof.Rows.slot_tuple_getitem
  (wpAny_call_entry PyProof.Rows.slot_tuple_getitem ht.typeIs entry_tuple_getitem ?_ (args_tuple_getitem _ _)))
 show wpAny _ _ (Builtin.Tuple.tupleItemsOf (.ref t) >>= _) _ _ s;refine wpAny_bind (tupleItemsOf_ ht ?_);refine wpAny_bind (wpAny_typeOf hTs ?_);rw[if_pos (by decide)];refine wpAny_bind (qAS hs pl pu ?_)
 have hno:((((sIx items.size 0 lo:Nat):Int) == 0&&(1:Int) == 1&&(sIx items.size items.size hi-sIx items.size 0 lo) == items.size)=true):=by
  rw[hw.1,hw.2];simp
 show wpAny _ _ (if (((sIx items.size 0 lo:Nat):Int) == 0&&(1:Int) == 1&&(sIx items.size items.size hi-sIx items.size 0 lo) == items.size)=true then _ else _) _ _ s;rw[if_pos hno];refine wpAny_bind ?_;unfold Builtin.Tuple.tupleIsExact;refine wpAny_bind (wpAny_typeOf ht.typeIs (wpAny_pure ?_));rw[if_pos (by decide)];exact wpAny_bind (wpAny_rule (wpAny_pure ⟨_,rfl,wpAny_pure h⟩))
end
section
variable {X:Cx}{F:Nat->List D->M D}{W:WX}
theorem qA2{v:Value}{o:Option Int}(p:IsPart v o):∃ q:Option (Int × Tok),v=partValue q/\q.map (·.1)=o:=by
 cases p with
 |none=>exact⟨none,rfl,rfl⟩
 |int i t=>exact⟨some (i,t),rfl,rfl⟩
def rSl(K:PySem.W.Frag):V->Option Int->Option Int->Hp->VK->Prop:=fun x lo hi H Q=>∃ (w:W1),∃ ρ h d,RepH K ρ h H/\RepV K ρ H d x/\PostV K w Q ρ H (slD d lo hi h)
theorem qFp:SlR X (rSl X.K):=by
 rintro pins s σ H x v vl vu lo hi sl Q I rx hs pl pu ⟨w,ρ,h,d,r,hd,p⟩
 unfold slD at p;cases d with
 |str x=>
  cases hd;obtain ⟨t,rfl⟩:=rx;obtain ⟨hz,p⟩:=PostV.ite (c:=x.length<=16777216) p;obtain ⟨ql,rfl,rfl⟩:=qA2 pl;obtain ⟨qu,rfl,rfl⟩:=qA2 pu;refine⟨"str",_,F.slot_str_getitem.lookup,typeIs_str _ _ _,wpAny_getItem_str_slice (l:=ql) (u:=qu) (st:=none) hs rfl ?_⟩;refine post_val_or_str ?_;show (Txt.slice ⟨x.toArray⟩ (ql.map (·.1)) (qu.map (·.1))).length<=sizeLine/\∀ t' k,EP X pins σ Q (.str (Txt.slice ⟨x.toArray⟩ (ql.map (·.1)) (qu.map (·.1))) t') { s with toks:=k };refine⟨Nat.le_trans (Txt.slice_le _ _ _) (by rw[zL,zK];exact hz),fun t' k=>?_⟩;rw[qFm]
  exact⟨.str ⟨(qO x (ql.map fun z:Int × Tok=>z.1) (qu.map fun z:Int × Tok=>z.1)).toArray⟩,H,I.tok k,⟨t',rfl⟩,PostV.now p r rfl⟩
 |tup xs=>
  obtain ⟨a,vs,rfl,h1,h2⟩:=hd
  by_cases hw:HT.sIx vs.length 0 lo=0/\HT.sIx vs.length vs.length hi=vs.length
  ·cases rx;obtain ⟨its,rv,ht,hz⟩:=I.tuple h1;refine⟨"tuple",_,PyProof.Rows.slot_tuple_getitem.lookup,ht.typeIs,qE2 ht hs pl pu (by rw[List.size_toArray,<- rv.length];exact hw) ?_⟩;refine⟨.ref a,H,I,rfl,PostV.now p r ⟨a,vs,rfl,h1,?_⟩⟩
   have e:qO xs lo hi=xs:=by
    unfold qO;rw[uP,uP,<- h2.length,hw.1,hw.2,List.drop_zero,Nat.sub_zero,h2.length];exact List.take_length
   rw[e];exact h2
  ·exact L2.sl_tup pins s σ H _ v vl vu lo hi sl Q I rx hs pl pu ⟨a,vs,rfl,h1,hw,by rw[qCp];exact PostV.newT p r (h2.cut lo hi)⟩
 |ref i=>
  simp only at p;cases q:qC h i with
  |none=>rw[q] at p;exact False.elim p
  |some xs=>rw[q] at p;obtain ⟨a,vs,rfl,h1,h2⟩:=r.seen q hd;exact L2.sl_list pins s σ H _ v vl vu lo hi sl Q I rx hs pl pu ⟨a,vs,rfl,h1,by rw[qCp];exact (PostV.newL p r (h2.cut lo hi)).2⟩
 |_=>exact False.elim p
def tDP(K:PySem.W.Frag)(W:WX)(m:Env->M (Option Int)):TO:=fun σ H Q=>∃ ρ env h,RepS K ρ H env σ/\RepH K ρ h H/\Post K (W.at σ) (fun _ H' o=>Q o H') ρ H (m env h)
theorem PO.imp{o:Option Expr}{t t':TO}(h:PO X o t)(i:∀ σ H Q,t' σ H Q->t σ H Q):PO X o t':=fun pins s σ H Q I q=>h pins s σ H Q I (i σ H Q q)
theorem qMY:PO X none (tDP X.K W (kJ F .no)):=PO.imp L2.po_none fun σ H Q t=>by
 obtain ⟨ρ,env,h,s,r,p⟩:=t;rw[kJ] at p;exact Post.ret p r
theorem qMZ{e:Expr}{c:CE}(he:PE X e (tD X.K W (den F c))):PO X (some e) (tDP X.K W (kJ F (.at c))):=PO.imp (L2.po_some he) fun σ H Q t=>by
 obtain ⟨ρ,env,h,s,r,p⟩:=t;rw[kJ] at p;refine⟨ρ,env,h,s,r,Post.bind p fun ρ1 h1 d H1 e1 r1 q v hv=>?_⟩;cases d with
 |int i=>cases hv;exact⟨i,rfl,Post.ret (a:=some i) q r1⟩
 |_=>exact False.elim q
theorem qMw{a:Expr}{lo hi:Option Expr}{ca:CE}{cl ch:CP}{p2 pos:Pos}(ha:PE X a (tD X.K W (den F ca)))(hl:PO X lo (tDP X.K W (kJ F cl)))(hh:PO X hi (tDP X.K W (kJ F ch))) :
  PE X (.Subscript a (.Slice lo hi none p2) pos) (tD X.K W (den F (.sl ca cl ch))):=PE.imp (L2.pe_slice qFp ha hl hh) fun σ H Q t=>by
 obtain ⟨ρ,env,h,s,r,p⟩:=t;rw[den] at p
 exact⟨ρ,env,h,s,r,Post.bind p fun ρ1 h1 d H1 e1 r1 q v hv=>⟨ρ1,env,h1,s.mono e1,r1,Post.bind q fun ρ2 h2 l H2 e2 r2 q2=>⟨ρ2,env,h2,(s.mono e1).mono e2,r2,Post.bind q2 fun ρ3 h3 u H3 e3 r3 q3=>⟨_,ρ3,h3,d,r3,(hv.mono e2 _ _).mono e3 _ _,q3⟩⟩⟩⟩
end
def tyS:Ty->String
 | .int=>"int" | .str=>"str" | .bool=>"bool" | .list=>"list" | .tuple=>"tuple"
section
variable (K:PySem.W.Frag)
theorem qKA (t:Ty):PySem.W.kitOne K (.type "NoneType") (.type (tyS t))=some false:=by cases t <;> first | rfl | kernel_rfl
theorem qKD (t:Ty):PySem.W.kitOne K (.type "bool") (.type (tyS t))=some (t == .bool || t == .int):=by cases t <;> first | rfl | kernel_rfl
theorem qKC (t:Ty):PySem.W.kitOne K (.type "int") (.type (tyS t))=some (t == .int):=by cases t <;> first | rfl | kernel_rfl
theorem qJ9 (t:Ty):PySem.W.kitOne K (.type "str") (.type (tyS t))=some (t == .str):=by cases t <;> first | rfl | kernel_rfl
theorem qJ8 (t:Ty):PySem.W.kitOne K (.type "tuple") (.type (tyS t))=some (t == .tuple):=by cases t <;> first | rfl | kernel_rfl
theorem qKB (t:Ty):PySem.W.kitOne K (.type "list") (.type (tyS t))=some (t == .list):=by cases t <;> first | rfl | kernel_rfl
end
section
variable {X:Cx}{F:Nat->List D->M D}{W:WX}
theorem qKb{pins:List (Addr × Obj)}{σ:L2.St}{H:Hp}{s:Shared}{ρ:List Addr}{h:AH}{t:Ty}{d:D}{x:V}{u:Value}{b:Bool}{A:Around}{E:Value->Shared->Prop}{Q:Value->Shared->Prop}
  (I:Inv X pins σ H s) (r:RepH X.K ρ h H) (hd:RepV X.K ρ H d x) (rx:RelV x u) (e:kB h t d=some b) (q:∀ tk,Q (.bool b) { s with toks:=tk }) :
  wpAny (model X.prog X.w) A (call (.builtin "isinstance") [u,.type (tyS t)]) Q E s:=by
 cases d with
 |non=>cases hd;cases e;cases (show u=Value.none from rx);exact PySem.W.kia_one PySem.W.kitx_none I.kIn True.intro (qKA _ t) (fun z=>nomatch z) q
 |bl c=>cases hd;cases e;cases (show u=Value.bool c from rx);exact PySem.W.kia_one PySem.W.kitx_bool I.kIn True.intro (qKD _ t) (fun z=>nomatch z) q
 |int i=>cases hd;cases e;obtain ⟨tk,z⟩:=rx;cases z;exact PySem.W.kia_one PySem.W.kitx_int I.kIn True.intro (qKC _ t) (fun z=>nomatch z) q
 |str y=>cases hd;cases e;obtain ⟨tk,z⟩:=rx;cases z;exact PySem.W.kia_one PySem.W.kitx_str I.kIn True.intro (qJ9 _ t) (fun z=>nomatch z) q
 |tup ys=>obtain ⟨a,vs,rfl,h1,h2⟩:=hd;cases e;cases rx;obtain ⟨its,_,⟨o,k1,k2,_⟩,_⟩:=I.tuple h1;exact PySem.W.kia_one PySem.W.kitx_tuple I.kIn ⟨o,k1,k2⟩ (qJ8 _ t) (fun z=>nomatch z) q
 |ref i=>
  have e:(qC h i).map (fun _=>t == .list)=some b:=e;cases z:qC h i with
  |none=>rw[z] at e;cases e
  |some ys=>rw[z] at e;cases e;obtain ⟨a,vs,rfl,h1,h2⟩:=r.seen z hd;cases rx;obtain ⟨its,_,pl,_⟩:=I.list h1;obtain ⟨o,n,k1,k2,_⟩:=pl;exact PySem.W.kia_one PySem.W.kitx_list I.kIn ⟨o,k1,k2⟩ (qKB _ t) (fun z=>nomatch z) q
def qGZ(K:PySem.W.Frag)(t:Ty):List V->Hp->VK->Prop:=fun xs H Q=>∃ x,xs=[x,.ty (tyS t)]/\rU K (.isi t) x H Q
theorem qNr (t:Ty):qL X (.builtin "isinstance") (qGZ X.K t):=by
 rintro pins s σ H xs us Q I rv ⟨x,rfl,w,ρ,h,d,r,hd,p⟩
 obtain ⟨u,w,rfl,ru,rw'⟩:=L2.Vals.two rv;cases rw';have p:PostV X.K w Q ρ H (match kB h t d with | some b=>.ok (.bl b) h | none=>.bad):=p;cases e:kB h t d with
 |none=>rw[e] at p;exact False.elim p
 |some b=>rw[e] at p;exact qKb I r hd ru e fun tk=>⟨.bl b,H,I.tok tk,rfl,PostV.now p r rfl⟩
theorem qNB {a:Expr} {ca:CE} {t:Ty} {x y:Str} {p1 p2 pos:Pos} (hx:x="isinstance") (hg:L2.Gl X x) (hm:X.mg x=none) (hgT:L2.Gl X y) (hmT:X.mg y=none) (hv:bootBuiltins y=some (.type (tyS t))) (hn:y≠"__name__") (hdb:(y == ("__debug__":Str))=false)
  (ha:PE X a (tD X.K W (den F ca))) (hst:starEach [a,.Name y p2] X.env=[(false,eval a X.env),(false,eval (.Name y p2) X.env)]):PE X (.Call (.Name x p1) [a,.Name y p2] [] pos) (tD X.K W (den F (.un (.isi t) ca))):=by
 subst hx;refine PE.imp (L2.pe_callB (qNr t) hg hm boot_isinstance (L2.pa_cons ha (L2.pa_cons (L2.pe_bltn (v:=.ty (tyS t)) hgT hmT hv rfl hn hdb) L2.pa_nil (by rfl)) (by rw[hst];rfl)) (he:=by rw[hst];rfl)) fun σ H Q q=>?_;obtain ⟨ρ,env,h,s,r',p⟩:=one q
 exact⟨ρ,env,h,s,r',Post.imp p fun ρ' H' d q v hv=>⟨v,rfl,q v hv⟩⟩
theorem wL{o:Bi}{ca cb:CE}{e:Expr}{T:String}{r:V->List V->Hp->VK->Prop}(he:PE X e (L2.tBM X.K T r (tD X.K W (den F ca)) (L2.tCons (tD X.K W (den F cb)) L2.tNil)))
  (hty:∀ ρ h d v H,RepH X.K ρ h H->RepV X.K ρ H d v->∀ h',jA o d h=.ok () h'->h'=h/\L2.tyV X.K T v H) (hexc:∀ d h c h',jA o d h≠.exc c h') (hr:∀ x y H Q,rB X.K o x y H Q->r x [y] H Q):PE X e (tD X.K W (den F (.me o ca cb))):=PE.imp he fun σ H Q t=>by
 obtain ⟨ρ,env,h,s,r',p⟩:=t;rw[den] at p;refine⟨ρ,env,h,s,r',Post.bind p fun ρ1 h1 d H1 e1 r1 q v hv=>?_⟩;unfold M.bind at q;cases z:jA o d h1 with
 |ok u h2=>rw[z] at q;obtain ⟨rfl,ty⟩:=hty ρ1 h1 d v H1 r1 hv _ z;refine⟨ty,ρ1,env,_,s.mono e1,r1,?_⟩;exact Post.bind q fun ρ2 h2 d2 H2 e2 r2 q2 w hw=>hr v w H2 Q ⟨_,ρ2,h2,d,d2,r2,hv.mono e2 _ _,hw,q2⟩
 |exc c h2=>exact absurd z (hexc _ _ _ _)
 |bad=>rw[z] at q;exact False.elim q
theorem wD(o:Bi)(d:D)(h:AH)(c:Nat)(h':AH):jA o d h≠.exc c h':=by
 unfold jA;intro z;split at z
 all_goals first | cases z | (split at z <;> cases z)
theorem qNL {a b:Expr} {ca cb:CE} {x:Str} {apos cpos:Pos} (hx:x="append") (ha:PE X a (tD X.K W (den F ca))) (hb:PE X b (tD X.K W (den F cb))) (hbase:attributeBase a x X.env (eval a X.env)=eval a X.env) (hline:(apos.endLine == cpos.line)=true)
  (hst:starEach [b] X.env=[(false,eval b X.env)]):PE X (.Call (.Attribute a x apos) [b] [] cpos) (tD X.K W (den F (.me .append ca cb))):=by
 subst hx;refine wL (L2.pe_bm PySem.F.plainAttrs_list PySem.F.slot_list_append PySem.F.type_list_append L2.mt_append ha (L2.pa_cons hb L2.pa_nil (by rw[hst];rfl)) hbase (by rw[hst];rfl) hline (by rw[hst];rfl)) (fun ρ h d v H r hv h' z=>?_) (wD _) (fun x y H Q z=>?_)
 ·cases d with
  |ref i=>
   have z:(match qC h i with | some _=>R.ok () h | none=>.bad)=.ok () h':=z;cases e:qC h i with
   |none=>rw[e] at z;cases z
   |some xs=>
    rw[e] at z;cases z;obtain ⟨a,vs,rfl,h1,_⟩:=r.seen e hv
    exact⟨rfl,.inl ⟨rfl,vs,h1⟩⟩
  |_=>cases z
 ·obtain ⟨w,ρ,h,d,e,r,hd,he,p⟩:=z;cases d with
  |ref k=>
   have p:PostV X.K w Q ρ H (match h[k]? with | some (.lst xs)=>if xs.length<16777216 then .ok .non (h.set k (.lst (xs++[e]))) else .bad | _=>.bad):=p;split at p
   ·rename_i xs q;obtain ⟨hz,p⟩:=PostV.ite p;obtain ⟨a,vs,rfl,ha,hH,hl⟩:=r.own q hd;refine⟨a,vs,y,rfl,rfl,hH,by rw[hl.length,zK];exact hz,?_⟩;have hl':RepL X.K ρ H (xs++[e]) (vs++[y]):=hl.append ⟨y,[],rfl,he,rfl⟩;exact p ρ _ (Step.turn hH rfl (List.mem_of_getElem? ha)) (r.setList q ha hH hl') _ rfl
   ·exact False.elim p
  |_=>exact False.elim p
theorem fR{K:PySem.W.Frag}{ρ:List Addr}{H:Hp}:∀ {ds:List D} {vs:List V} {ns:List Int},jB ds=some ns->RepL K ρ H ds vs->vs=ns.map V.int
 | [],_,_,e,h=>by cases e;cases h;rfl
 |d::ds,_,ns,e,⟨v,vs,hv,h1,h2⟩=>by
  subst hv;cases d with
  |int b=>
   unfold jB at e;cases q:jB ds with
   |none=>rw[q] at e;cases e
   |some cs=>rw[q] at e;cases e;cases h1;rw[List.map_cons,fR q h2]
  |_=>cases e
theorem qKp(a:Int)(ns:List Int):L2.inV (.int a) (ns.map V.int)=ns.contains a:=by
 unfold L2.inV;rw[List.any_map,List.contains_eq_any_beq];congr 1;funext i;show L2.eqV (.int i) (.int a)=(a == i);rw[Bool.eq_iff_iff];simp[L2.eqV];exact eq_comm
theorem qME(ns:List Int):(ns.map V.int).all L2.flatV=true:=by
 rw[List.all_map,List.all_eq_true];intro _ _;rfl
theorem qGz(hu:X.A.units+64<cLine):OpR X (compareOp .In) (rB X.K .isin):=by
 rintro pins s σ H x y v u Q I rx ry ⟨w,ρ,h,d,e,r,hd,he,p⟩
 cases d with
 |str a=>
  cases e with
  |str b=>
   cases hd;cases he
   match a,p,rx with
   | [c],p,rx=>obtain ⟨t,rfl⟩:=rx;obtain ⟨t',rfl⟩:=ry;refine PyProof.Rows.in_str ?_;refine⟨.bl (b.contains c),H,I,?_,PostV.now (h:=h) p r rfl⟩;show Value.bool _=Value.bool _;have e1:(⟨[c].toArray⟩:Str)=⟨#[c]⟩:=rfl;rw[e1,PySem.StrLaws.found_one];congr 1;rw[Bool.eq_iff_iff];simp
   | [],p,_=>exact False.elim p
   |_::_::_,p,_=>exact False.elim p
  |_=>exact False.elim p
 |_=>exact False.elim p
theorem qGt:OpR X (compareOp .NotIn) (rB X.K .notin):=by
 rintro pins s σ H x y v u Q I rx ry ⟨w,ρ,h,d,e,r,hd,he,p⟩
 cases d with
 |str a=>
  cases e with
  |str b=>
   cases hd;cases he
   match a,p,rx with
   | [c],p,rx=>obtain ⟨t,rfl⟩:=rx;obtain ⟨t',rfl⟩:=ry;refine PyProof.Rows.notIn_str ?_;refine⟨.bl (!b.contains c),H,I,?_,PostV.now (h:=h) p r rfl⟩;show Value.bool _=Value.bool _;have e1:(⟨[c].toArray⟩:Str)=⟨#[c]⟩:=rfl;rw[e1,PySem.StrLaws.found_one];congr 2;rw[Bool.eq_iff_iff];simp
   | [],p,_=>exact False.elim p
   |_::_::_,p,_=>exact False.elim p
  |_=>exact False.elim p
 |int c=>
  cases e with
  |ref i=>
   have p:PostV X.K w Q ρ H (match (qC h i).bind jB with | some xs=>.ok (.bl (!xs.contains c)) h | none=>vF i (.int c) h):=p;cases q1:(qC h i).bind jB with
   |none=>rw[q1] at p;exact qHf (ky:=.int c) I r hd he rx ry p
   |some ns=>
    rw[q1] at p;cases q:qC h i with
    |none=>rw[q] at q1;cases q1
    |some ds=>rw[q] at q1;obtain ⟨a,vs,rfl,h1,h2⟩:=r.seen q he;have hv:=fR q1 h2;subst hv;cases hd;refine L2.op_notIn_seq pins s σ H _ _ v u Q I rx ry ⟨a,_,rfl,.inl h1,rfl,qME ns,?_⟩;show Q (.bl (!L2.inV (.int c) (ns.map V.int))) H;rw[qKp];exact PostV.now (h:=h) p r rfl
  |_=>exact False.elim p
 |_=>exact False.elim p
theorem qDF{K:PySem.W.Frag}{ρ:List Addr}{H:Hp}:∀ {ds:List D} {vs:List V} {us:List Value} {bs:List Bool},kK ds=some bs->RepL K ρ H ds vs->Vals vs us->LSm.BoolsAre us bs
 | [],_,_,_,e,h,r=>by
  cases e;cases h;cases r;exact .nil
 |d::ds,_,us,bs,e,⟨v,vs,hv,h1,h2⟩,r=>by
  subst hv;cases d with
  |bl b=>
   unfold kK at e;cases q:kK ds with
   |none=>rw[q] at e;cases e
   |some cs=>
    rw[q] at e;cases e;cases h1;cases r with
    |cons r1 r2=>cases r1;exact .cons b (qDF q h2 r2)
  |_=>cases e
theorem qNt (hc:X.calm=true):qL X (.builtin "all") (rC X.K .all):=by
 rintro pins s σ H xs us Q I rv ⟨x,rfl,w,ρ,h,d,r,hd,p⟩
 cases d with
 |ref i=>
  have p:PostV X.K w Q ρ H (match (qC h i).bind wM with | some b=>.ok (.bl b) h | none=>.bad):=p;cases q:qC h i with
  |none=>rw[q] at p;exact False.elim p
  |some ds=>
   rw[q] at p;have p:PostV X.K w Q ρ H (match (kK ds).map (·.all id) with | some b=>.ok (.bl b) h | none=>.bad):=p;cases qb:kK ds with
   |none=>rw[qb] at p;exact False.elim p
   |some bs=>
    rw[qb] at p;obtain ⟨a,vs,rfl,h1,h2⟩:=r.seen q hd;obtain ⟨u,rfl,ru⟩:=L2.Vals.one rv;cases ru;obtain ⟨its,rv',pl,hz⟩:=I.list h1;have hb:=qDF qb h2 rv';have hl:=pl.isList;have hlt:a<s.heap.objs.size:=by obtain ⟨_,e,_⟩:=hl;exact Heap.lt_size e
    refine PySem.call_all_walk (wpAny_pyIter_list hl ?_)
    refine⟨s.heap.objs.size,[s.heap.objs.size,a],[s.heap.objs.size],its.toArray.size,_,_,fun i=>(bs[i]?).getD true,rfl,Walks.list (A:=X.A.in1) (I.ok.hd hc) _ a (Nat.ne_of_lt hlt) its.toArray,
     ⟨⟨_,Heap.get?_push_size _ rfl,rfl,rfl⟩,hl.push _⟩,fun i v s' Q' E' hP hQ=>?_,fun h' tk hk=>?_⟩
    ·obtain ⟨b,e,rfl⟩:=hb.get i v (by simpa using hP);simp only[e,Option.getD_some] at hQ;exact wpAny_truthy_bool hQ
    ·have e:((List.range its.toArray.size).all fun i=>(bs[i]?).getD true)=bs.all id:=by
      rw[show its.toArray.size=bs.length by simpa using hb.length];exact LSm.range_all bs
     rw[e]
     exact⟨.bl (bs.all id),H,I.kept (t':=tk) (LSm.kept_iter hk),rfl,PostV.now p r rfl⟩
 |_=>exact False.elim p
end
section
variable {K:PySem.W.Frag}{ρ:List Addr}{H:Hp}
theorem RepK.drop(k:Ky):∀ {kvs:List (Ky × D)} {vs:List (L2.Key × V)},RepK K ρ H kvs vs->RepK K ρ H (qCm kvs k) (L2.dropK vs (kyV k))
 | [],_,h=>by cases h;rfl
 |x::kvs,_,⟨v,r,rfl,h1,h2⟩=>by
  unfold qCm L2.dropK
  by_cases e:x.1=k
  ·rw[List.filter_cons_of_neg (by simpa using e),List.filter_cons_of_neg (by simpa using kyV_inj.mpr e)];exact RepK.drop k h2
  ·rw[List.filter_cons_of_pos (by simpa using e),List.filter_cons_of_pos (by simpa using fun z=>e (kyV_inj.mp z))]
   exact⟨v,_,rfl,h1,RepK.drop k h2⟩
end
section
variable {prog:Program}{w:World}{K:Type}[DecidableEq K]{knd:KeyKind prog w K}{A:Around}{E:Value->Shared->Prop}{s:Shared}
end
section
variable {prog:Program}{w:World}{K:Type}[DecidableEq K]
end
section
variable {X:Cx}{F:Nat->List D->M D}{W:WX}
theorem qMk {ρ:List Addr} {h h':AH} {d:D} {v:V} {H:Hp} (r:RepH X.K ρ h H) (hv:RepV X.K ρ H d v) (z:jA .get d h=.ok () h'):h'=h/\L2.tyV X.K "dict" v H:=by
 cases d with
 |ref i=>
  have z:(match h[i]? with | some (.dct _)=>R.ok () h | _=>.bad)=.ok () h':=z;split at z
  ·rename_i kvs q;cases z;obtain ⟨a,vs,rfl,_,h1,_⟩:=r.dict q hv
   exact⟨rfl,.inr (.inr (.inl ⟨rfl,.inl ⟨vs,h1⟩⟩))⟩
  ·cases z
 |_=>cases z
theorem qND {a b:Expr} {ca cb:CE} {x:Str} {apos cpos:Pos} (hx:x="get") (ha:PE X a (tD X.K W (den F ca))) (hb:PE X b (tD X.K W (den F cb))) (hbase:attributeBase a x X.env (eval a X.env)=eval a X.env) (hline:(apos.endLine == cpos.line)=true)
  (hst:starEach [b] X.env=[(false,eval b X.env)]):PE X (.Call (.Attribute a x apos) [b] [] cpos) (tD X.K W (den F (.me .get ca cb))):=by
 subst hx
 have mt:L2.MtR X "dict.get" fun x ys H Q=>∃ y,ys=[y]/\rB X.K .get x y H Q:=by
  rintro pins s σ H x vs v us Q I rx rv ⟨y,rfl,w,ρ,h,d,e,r,hd,he,p⟩
  obtain ⟨u,rfl,ru⟩:=rv.one;cases d with
  |ref k=>
   cases e with
   |int i=>
    have p:PostV X.K w Q ρ H (match h[k]? with | some (.dct kvs)=>.ok ((zE kvs (.int i)).getD .non) h | _=>.bad):=p;split at p
    ·rename_i kvs q;obtain ⟨a,ws,rfl,ha',hH,hk⟩:=r.dict q hd;cases rx;cases he;obtain ⟨z,hd',os,rel,dd⟩:=L2.dk_rd I.hok (.inl hH);have ry:RelV (L2.kV (.inl i)) u:=ru;refine call_meetsIn PySem.F.slot_dict_get dd.typeIs PySem.F.entry_dict_get (PySem.F.args_dict_get_2 _ _) (meets_dict_get (L2.mixKind X.prog X.w) a (L2.kV_is ry) hd') ⟨_,dd.mapOf,?_⟩;have gv:=(rel.val (.inl i)).getD (d:=.non) (d':=.none) rfl;rcases hk.val (.int i) with⟨d,v',e1,e2,hv⟩ | ⟨e1,e2⟩
     ·rw[e1] at p;have e2:L2.valV ws (Sum.inl i)=some v':=e2;rw[e2] at gv
      exact⟨v',H,I.tok _,gv,PostV.now p r hv⟩
     ·rw[e1] at p;have e2:L2.valV ws (Sum.inl i)=none:=e2;rw[e2] at gv
      exact⟨.non,H,I.tok _,gv,PostV.now p r rfl⟩
    ·exact False.elim p
   |_=>exact False.elim p
  |_=>exact False.elim p
 exact wL (L2.pe_bm PySem.F.plainAttrs_dict PySem.F.slot_dict_get PySem.F.type_dict_get mt ha (L2.pa_cons hb L2.pa_nil (by rw[hst];rfl)) hbase (by rw[hst];rfl) hline (by rw[hst];rfl)) (fun ρ h d v H r hv h' z=>qMk r hv z) (wD _) (fun x y H Q z=>⟨y,rfl,z⟩)
end
section
open PySem.Builtin PySem.Builtin.Str
theorem gX(a:Tx)(c limit:Nat):∀ (r:Tx) (k:Nat) (f:Array Nat) (free:Nat),a.drop k=r->free<=k->f.size<=limit ->
  (forIn (List.range' k (r.length+1)) (f,free) (StrLaws.occBody ⟨a.toArray⟩ ⟨#[c]⟩ a.length limit)).run.fst.toList=f.toList++(zM c k r).take (limit-f.size)
 | [],k,f,free,hr,hf,hl=>by
  show (forIn [k] (f,free) (StrLaws.occBody ⟨a.toArray⟩ ⟨#[c]⟩ a.length limit)).run.fst.toList=_;rw[List.forIn_cons]
  have hk:a.length<=k:=by
   have:=congrArg List.length hr
   rw[List.length_drop] at this;simp at this;omega
  unfold StrLaws.occBody;rw[if_neg (by rintro ⟨⟨_,z⟩,_⟩;have z:k+1<=a.length:=z;omega)];show f.toList=f.toList++List.take _ [];simp
 |x::r,k,f,free,hr,hf,hl=>by
  have hx:a[k]?=some x:=by
   have:=List.getElem?_drop (xs:=a) (i:=k) (j:=0)
   rw[hr] at this;simpa using this.symm
  have hr':a.drop (k+1)=r:=by
   rw[<- List.drop_drop,hr];rfl
  rw[List.length_cons,List.range'_succ,List.forIn_cons]
  have key:(k+(⟨#[c]⟩:PySem.Str).length<=a.length/\subAt ⟨a.toArray⟩ ⟨#[c]⟩ k=true)↔x=c:=by
   have:=StrLaws.subAt_one ⟨a.toArray⟩ c k
   have e:(⟨a.toArray⟩:PySem.Str).length=a.length:=by show a.toArray.size=_;simp
   rw[e] at this;rw[this];show a.toArray.toList[k]?=some c↔_;rw[List.toList_toArray,hx];constructor
   ·intro h;exact Option.some.inj h
   ·intro h;rw[h]
  unfold StrLaws.occBody;unfold zM
  by_cases e:x=c
  ·rw[if_pos e]
   by_cases hz:f.size<limit
   ·rw[if_pos ⟨⟨⟨hz,hf⟩,(key.mpr e).1⟩,(key.mpr e).2⟩];have ih:=gX a c limit r (k+1) (f.push k) (k+1) hr' (Nat.le_refl _) (by rw[Array.size_push];omega);refine ih.trans ?_;rw[Array.toList_push,Array.size_push,show limit-f.size=(limit-(f.size+1))+1 by omega,List.take_succ_cons];simp
   ·rw[if_neg (fun z=>hz z.1.1.1)];have ih:=gX a c limit r (k+1) f free hr' (by omega) hl;refine ih.trans ?_;rw[show limit-f.size=0 by omega];simp
  ·rw[if_neg e,if_neg (fun z=>e (key.mp ⟨z.1.2,z.2⟩))];exact gX a c limit r (k+1) f free hr' (by omega) hl
theorem qG9(a:Tx)(c limit:Nat):occurrences ⟨a.toArray⟩ ⟨#[c]⟩ 0 a.length limit=(zM c 0 a).take limit:=by
 rw[StrLaws.occ_eq]
 have:=gX a c limit a 0 #[] 0 rfl (Nat.le_refl _) (Nat.zero_le _)
 simpa using this
theorem qAw(c:Nat):∀ (k:Nat) (a:Tx),(zM c k a).length<=a.length
 |_,[]=>Nat.le_refl _
 |k,x::r=>by
  have:=qAw c (k+1) r
  unfold zM;split
  ·simp only[List.length_cons];omega
  ·simp only[List.length_cons];omega
theorem eU(c:Nat):∀ (k:Nat) (a:Tx),(zV c k a=none/\∀ i:Nat,a[i]?≠some c)\/∃ i:Nat,zV c k a=some (k+i)/\a[i]?=some c/\∀ j:Nat,i<j->a[j]?≠some c
 |k,[]=>.inl ⟨rfl,fun i=>by simp⟩
 |k,x::r=>by
  unfold zV;rcases eU c (k+1) r with⟨h1,h2⟩ | ⟨i,h1,h2,h3⟩
  ·rw[h1];simp only
   by_cases e:x=c
   ·rw[if_pos e];refine .inr ⟨0,rfl,by rw[e];rfl,fun j hj=>?_⟩;rw[show j=(j-1)+1 by omega,List.getElem?_cons_succ];exact h2 _
   ·rw[if_neg e];refine .inl ⟨rfl,fun i=>?_⟩;cases i with
    |zero=>simpa using e
    |succ i=>rw[List.getElem?_cons_succ];exact h2 i
  ·rw[h1];refine .inr ⟨i+1,by show some (k+1+i)=_;congr 1;omega,by rw[List.getElem?_cons_succ];exact h2,fun j hj=>?_⟩;rw[show j=(j-1)+1 by omega,List.getElem?_cons_succ];exact h3 _ (by omega)
theorem qJ5(a:Tx)(c:Nat):lastOccurrence ⟨a.toArray⟩ ⟨#[c]⟩ 0 a.length=zV c 0 a:=by
 have e:(⟨a.toArray⟩:PySem.Str).length=a.length:=by show a.toArray.size=_;simp
 have at':∀ i,StrLaws.At ⟨a.toArray⟩ ⟨#[c]⟩ (⟨a.toArray⟩:PySem.Str).length i↔a[i]?=some c:=fun i=>by
  have:=StrLaws.subAt_one ⟨a.toArray⟩ c i
  exact this
 have key:=StrLaws.last_spec ⟨a.toArray⟩ ⟨#[c]⟩;rw[e] at key at';rcases key with⟨h1,h2⟩ | ⟨i,h1,h2,h3⟩
 ·rw[h1];rcases eU c 0 a with⟨g1,g2⟩ | ⟨j,g1,g2,g3⟩
  ·rw[g1]
  ·exact absurd ((at' j).mpr g2) (h2 j)
 ·rw[h1];rcases eU c 0 a with⟨g1,g2⟩ | ⟨j,g1,g2,g3⟩
  ·exact absurd ((at' i).mp h2) (g2 i)
  ·rw[g1,Nat.zero_add];rcases Nat.lt_trichotomy i j with z | z | z
   ·exact absurd ((at' j).mpr g2) (h3 j z)
   ·rw[z]
   ·exact absurd ((at' i).mp h2) (g3 i z)
theorem cV(a:Tx)(i j:Nat):strSub ⟨a.toArray⟩ i j=⟨((a.drop i).take (j-i)).toArray⟩:=by
 unfold strSub;congr 1;apply Array.toList_inj.mp;rw[Array.toList_extract,List.toList_toArray,List.toList_toArray]
 try simp[List.extract]
theorem qGq(a:Tx)(cuts:List Nat):partsBetween ⟨a.toArray⟩ cuts 1=(jX a cuts).map fun p=>⟨p.toArray⟩:=by
 unfold partsBetween jX;rw[List.map_map];show List.map _ ((0::cuts.map (·+1)).zip (cuts++[a.toArray.size]))=_;rw[List.size_toArray];congr 1;funext ⟨i,j⟩;exact cV a i j
theorem qKE{c:Nat}(hc:c<256)(x:PySem.Str):Builtin.Str.strKind x<Builtin.Str.strKind ⟨#[c]⟩↔False:=by
 have h1:Builtin.Str.strKind ⟨#[c]⟩=1:=by
  unfold Builtin.Str.strKind;rw[if_pos (by simpa using hc)]
 have h2:1<=Builtin.Str.strKind x:=by
  unfold Builtin.Str.strKind;split
  ·omega
  ·split <;> omega
 constructor
 ·intro h;omega
 ·exact False.elim
end
section
variable {K:PySem.W.Frag}{ρ:List Addr}{H:Hp}
theorem dJ:∀ ps:List Tx,RepL K ρ H (ps.map D.str) (ps.map fun p=>V.str ⟨p.toArray⟩)
 | []=>rfl
 |p::ps=>⟨_,_,rfl,rfl,dJ ps⟩
end
theorem tM:∀ (tk:Nat) (ps:List Tx),Vals (ps.map fun p=>V.str ⟨p.toArray⟩) (strsFrom tk (ps.map fun p=>(⟨p.toArray⟩:Str)))
 |_,[]=>.nil
 |tk,p::ps=>.cons ⟨tk,rfl⟩ (tM (tk+1) ps)
theorem qGo(z:Tx):jX z []=[z]:=by
 unfold jX;show [(z.drop 0).take (z.length-0)]=[z];rw[List.drop_zero,Nat.sub_zero,List.take_length]
section
variable {X:Cx}{F:Nat->List D->M D}{W:WX}
theorem qAF {o:Bi} (ho:∀ d h h',jA o d h=.ok () h'->h'=h/\∃ y,d=.str y):∀ ρ h d v H,RepH X.K ρ h H->RepV X.K ρ H d v->∀ h',jA o d h=.ok () h'->h'=h/\L2.tyV X.K "str" v H:=fun ρ h d v H r hv h' z=>by
 obtain ⟨rfl,y,rfl⟩:=ho d h h' z;cases hv
 exact⟨rfl,rfl⟩
theorem qMv {a b:Expr} {ca cb:CE} {x:Str} {apos cpos:Pos} (hx:x="split") (ha:PE X a (tD X.K W (den F ca))) (hb:PE X b (tD X.K W (den F cb))) (hbase:attributeBase a x X.env (eval a X.env)=eval a X.env) (hline:(apos.endLine == cpos.line)=true)
  (hst:starEach [b] X.env=[(false,eval b X.env)]):PE X (.Call (.Attribute a x apos) [b] [] cpos) (tD X.K W (den F (.me .split ca cb))):=by
 subst hx
 have mt:L2.MtR X "str.split" fun x ys H Q=>∃ y,ys=[y]/\rB X.K .split x y H Q:=by
  rintro pins s σ H x ys v us Q I rx rv ⟨y,rfl,w,ρ,h,d,e,r,hd,he,p⟩
  obtain ⟨u,rfl,ru⟩:=L2.Vals.one rv;cases d with
  |str z=>
   cases e with
   |str w'=>
    cases hd;cases he
    match w',p,ru with
    | [c],p,ru=>
     obtain ⟨t,rfl⟩:=rx;obtain ⟨t',rfl⟩:=ru;have p:PostV X.K w Q ρ H (if c<256/\z.length<=1000000 then newL ((jX z (zM c 0 z)).map .str) h else .bad):=p;obtain ⟨⟨hc,hl⟩,p⟩:=PostV.ite p;obtain ⟨hz,q⟩:=PostV.newL p r (dJ _)
     have fin:∀ (its:List Value) (tk:Nat),Vals ((jX z (zM c 0 z)).map fun x=>V.str ⟨x.toArray⟩) its->EP X pins σ Q (.ref s.heap.objs.size) { s with heap:=s.heap.push { cls:=.type "list",data:=.seq its.toArray },toks:=tk }:=fun its tk hv=>
      ⟨.ref _,_,I.laid (t':=tk) (o:=.lst _) (fun b ob q=>Heap.get?_push_of_some _ q) (Nat.le_refl _) ⟨hz,_,0,hv,Heap.get?_push_size _ rfl⟩,rfl,q _ (I.hok.fresh (Nat.le_refl _))⟩
     have e1:(⟨[c].toArray⟩:Str)=⟨#[c]⟩:=rfl;have kd:=qKE hc (⟨z.toArray⟩:Str);have sl:(⟨z.toArray⟩:Str).length=z.length:=zL z
     have oc:Builtin.Str.occurrences ⟨z.toArray⟩ ⟨#[c]⟩ 0 (⟨z.toArray⟩:Str).length ((⟨z.toArray⟩:Str).length+1)=zM c 0 z:=by
      rw[sl,qG9];exact List.take_of_length_le (by have:=qAw c 0 z;omega)
     by_cases h0:z=[]
     ·have h1:(decide ((⟨z.toArray⟩:Str).length<(⟨[c].toArray⟩:Str).length) || decide (Builtin.Str.strKind ⟨z.toArray⟩<Builtin.Str.strKind ⟨[c].toArray⟩))=true:=by
       rw[sl,h0];rfl
      refine call_meets PySem.F.slot_str_split (typeIs_str _ _ _) PySem.F.entry_str_split (PySem.F.args_str_split_2 _ _) (meets_str_split_cannot_occur _ _ _ _ h1) ?_;exact fin [Value.str ⟨z.toArray⟩ t] s.toks (by subst h0;exact .cons ⟨t,rfl⟩ .nil)
     ·have hz1:1<=z.length:=by cases z with | nil=>exact absurd rfl h0 | cons _ _=>simp
      have h1:(decide ((⟨z.toArray⟩:Str).length<(⟨[c].toArray⟩:Str).length) || decide (Builtin.Str.strKind ⟨z.toArray⟩<Builtin.Str.strKind ⟨[c].toArray⟩))=false:=by
       rw[sl,Bool.or_eq_false_iff,decide_eq_false_iff_not,decide_eq_false_iff_not]
       exact⟨by show ¬ z.length<1;omega,fun z=>kd.mp z⟩
      cases hp:zM c 0 z with
      |nil=>refine call_meets PySem.F.slot_str_split (typeIs_str _ _ _) PySem.F.entry_str_split (PySem.F.args_str_split_2 _ _) (meets_str_split_not_found _ _ _ _ h1 rfl (by rw[e1,oc,hp];rfl)) ?_;refine fin [Value.str ⟨z.toArray⟩ t] s.toks ?_;rw[hp,qGo];exact .cons ⟨t,rfl⟩ .nil
      |cons i r'=>
       have pb:Builtin.Str.partsBetween ⟨z.toArray⟩ (Builtin.Str.occurrences ⟨z.toArray⟩ ⟨[c].toArray⟩ 0 (⟨z.toArray⟩:Str).length ((⟨z.toArray⟩:Str).length+1)) (⟨[c].toArray⟩:Str).length=(jX z (zM c 0 z)).map fun p=>⟨p.toArray⟩:=by
        rw[e1,oc];exact qGq z _
       refine call_meets PySem.F.slot_str_split (typeIs_str _ _ _) PySem.F.entry_str_split (PySem.F.args_str_split_2 _ _) (meets_str_split_sep _ _ _ _ h1 rfl (by rw[e1,oc,hp];rfl) (by rw[sl,zK];omega) (by rw[pb,List.length_map];rw[List.length_map] at hz;exact hz)) ?_;show EP X pins σ Q _ _;rw[pb];exact fin _ _ (tM s.toks _)
    | [],p,_=>exact False.elim p
    |_::_::_,p,_=>exact False.elim p
   |_=>exact False.elim p
  |_=>exact False.elim p
 refine wL (L2.pe_bm PySem.F.plainAttrs_str PySem.F.slot_str_split PySem.F.type_str_split mt ha (L2.pa_cons hb L2.pa_nil (by rw[hst];rfl)) hbase (by rw[hst];rfl) hline (by rw[hst];rfl)) (qAF fun d h h' z=>?_) (wD _) (fun x y H Q z=>⟨y,rfl,z⟩);cases d with
 |str y=>cases z;exact⟨rfl,y,rfl⟩
 |_=>cases z
theorem qMx {a b:Expr} {ca cb:CE} {x:Str} {apos cpos:Pos} (hx:x="rpartition") (ha:PE X a (tD X.K W (den F ca))) (hb:PE X b (tD X.K W (den F cb))) (hbase:attributeBase a x X.env (eval a X.env)=eval a X.env) (hline:(apos.endLine == cpos.line)=true)
  (hst:starEach [b] X.env=[(false,eval b X.env)]):PE X (.Call (.Attribute a x apos) [b] [] cpos) (tD X.K W (den F (.me .rpart ca cb))):=by
 subst hx
 have mt:L2.MtR X "str.rpartition" fun x ys H Q=>∃ y,ys=[y]/\rB X.K .rpart x y H Q:=by
  rintro pins s σ H x ys v us Q I rx rv ⟨y,rfl,w,ρ,h,d,e,r,hd,he,p⟩
  obtain ⟨u,rfl,ru⟩:=L2.Vals.one rv;cases d with
  |str z=>
   cases e with
   |str w'=>
    cases hd;cases he
    match w',p,ru with
    | [c],p,ru=>
     obtain ⟨t,rfl⟩:=rx;obtain ⟨t',rfl⟩:=ru;have p:PostV X.K w Q ρ H (if z.length<=1000000 then .ok (.tup ((jM z c).map .str)) h else .bad):=p;obtain ⟨hl,p⟩:=PostV.ite p;have q:=PostV.newT p r (dJ _);have hz3:(jM z c).length<=sizeLine:=by unfold jM;split <;> exact (by decide:3<=sizeLine)
     have fin:∀ (its:List Value) (tk:Nat),Vals ((jM z c).map fun x=>V.str ⟨x.toArray⟩) its->EP X pins σ Q (.ref s.heap.objs.size) { s with heap:=s.heap.push { cls:=.type "tuple",data:=.seq its.toArray },toks:=tk }:=fun its tk hv=>
      ⟨.ref _,_,I.laid (t':=tk) (o:=.tup _) (fun b ob q=>Heap.get?_push_of_some _ q) (Nat.le_refl _) ⟨by rw[List.length_map];exact hz3,its,hv,IsTup.new _ _⟩,rfl,q _ (I.hok.fresh (Nat.le_refl _))⟩
     have e1:(⟨[c].toArray⟩:Str)=⟨#[c]⟩:=rfl;have sl:(⟨z.toArray⟩:Str).length=z.length:=zL z
     have oc:Builtin.Str.lastOccurrence ⟨z.toArray⟩ ⟨[c].toArray⟩ 0 (⟨z.toArray⟩:Str).length=zV c 0 z:=by
      rw[sl,e1,qJ5]
     refine call_meets PySem.F.slot_str_rpartition (typeIs_str _ _ _) PySem.F.entry_str_rpartition (PySem.F.args_str_rpartition_2 _ _) (meets_str_rpartition _ _ _ _ rfl (by rw[sl,zK];omega)) ?_;rw[oc];cases hp:zV c 0 z with
     |none=>
      have e2:jM z c=[[],[],z]:=by unfold jM;rw[hp]
      exact fin [.str Str.empty s.toks,.str Str.empty s.toks,.str ⟨z.toArray⟩ t] _ (by rw[e2];exact .cons ⟨_,rfl⟩ (.cons ⟨_,rfl⟩ (.cons ⟨_,rfl⟩ .nil)))
     |some i=>
      have e2:jM z c=[z.take i,[c],z.drop (i+1)]:=by unfold jM;rw[hp]
      have c1:Builtin.Str.strSub ⟨z.toArray⟩ 0 i=⟨(z.take i).toArray⟩:=by rw[cV];simp
      have c2:Builtin.Str.strSub ⟨z.toArray⟩ (i+(⟨[c].toArray⟩:Str).length) (⟨z.toArray⟩:Str).length=⟨(z.drop (i+1)).toArray⟩:=by
       rw[cV,sl];congr 2;exact List.take_of_length_le (by rw[List.length_drop];exact Nat.le_refl _)
      refine fin [.str (Builtin.Str.strSub ⟨z.toArray⟩ 0 i) s.toks,.str ⟨[c].toArray⟩ t',.str (Builtin.Str.strSub ⟨z.toArray⟩ (i+(⟨[c].toArray⟩:Str).length) (⟨z.toArray⟩:Str).length) (s.toks+1)] _ ?_;rw[e2,c1,c2];exact .cons ⟨_,rfl⟩ (.cons ⟨_,rfl⟩ (.cons ⟨_,rfl⟩ .nil))
    | [],p,_=>exact False.elim p
    |_::_::_,p,_=>exact False.elim p
   |_=>exact False.elim p
  |_=>exact False.elim p
 refine wL (L2.pe_bm PySem.F.plainAttrs_str PySem.F.slot_str_rpartition PySem.F.type_str_rpartition mt ha (L2.pa_cons hb L2.pa_nil (by rw[hst];rfl)) hbase (by rw[hst];rfl) hline (by rw[hst];rfl)) (qAF fun d h h' z=>?_) (wD _) (fun x y H Q z=>⟨y,rfl,z⟩);cases d with
 |str y=>cases z;exact⟨rfl,y,rfl⟩
 |_=>cases z
end
section
variable {X:Cx}{F:Nat->List D->M D}{W:WX}
theorem qNG {a b:Expr} {ca cb:CE} {x:Str} {apos cpos:Pos} (hx:x="extend") (ha:PE X a (tD X.K W (den F ca))) (hb:PE X b (tD X.K W (den F cb))) (hbase:attributeBase a x X.env (eval a X.env)=eval a X.env) (hline:(apos.endLine == cpos.line)=true)
  (hst:starEach [b] X.env=[(false,eval b X.env)]):PE X (.Call (.Attribute a x apos) [b] [] cpos) (tD X.K W (den F (.me .extend ca cb))):=by
 subst hx;refine wL (L2.pe_bm PySem.F.plainAttrs_list PySem.F.slot_list_extend PySem.F.type_list_extend L2.mt_extend ha (L2.pa_cons hb L2.pa_nil (by rw[hst];rfl)) hbase (by rw[hst];rfl) hline (by rw[hst];rfl)) (fun ρ h d v H r hv h' z=>?_) (wD _) (fun x y H Q z=>?_)
 ·cases d with
  |ref i=>
   have z:(match qC h i with | some _=>R.ok () h | none=>.bad)=.ok () h':=z;cases e:qC h i with
   |none=>rw[e] at z;cases z
   |some xs=>
    rw[e] at z;cases z;obtain ⟨a,vs,rfl,h1,_⟩:=r.seen e hv
    exact⟨rfl,.inl ⟨rfl,vs,h1⟩⟩
  |_=>cases z
 ·obtain ⟨w,ρ,h,d,e,r,hd,he,p⟩:=z;cases d with
  |ref k=>
   cases e with
   |ref j=>
    have p:PostV X.K w Q ρ H (match h[k]?,h[j]? with | some (.lst xs),some (.lst ys)=>(if xs.length+ys.length<=16777216 then .ok .non (h.set k (.lst (xs++ys))) else .bad) | _,_=>.bad):=p;split at p
    ·rename_i xs ys q1 q2;obtain ⟨hz,p⟩:=PostV.ite p;obtain ⟨a,vs,rfl,ha,hH,hl⟩:=r.own q1 hd;obtain ⟨b,us,rfl,hb,hB,hm⟩:=r.own q2 he;have stp:Step ρ H ρ (upd H a (.lst (vs++us))):=Step.turn hH rfl (List.mem_of_getElem? ha)
     exact⟨a,b,vs,us,rfl,rfl,hH,hB,by rw[hl.length,hm.length,zK];exact hz,p ρ _ stp (r.setList q1 ha hH (hl.append hm)) .non rfl⟩
    ·exact False.elim p
   |_=>exact False.elim p
  |_=>exact False.elim p
end
section
variable {X:Cx}{F:Nat->List D->M D}{W:WX}
theorem qEQ(z:Tx)(n:Int)(h0:0<=n)(hd:jH z=true):Txt.zfill ⟨z.toArray⟩ n=⟨(List.replicate (n.toNat-z.length) 48++z).toArray⟩:=by
 unfold Txt.zfill;rw[zL]
 by_cases h:n<=(z.length:Int)
 ·rw[if_pos h,show n.toNat-z.length=0 by omega];rfl
 ·rw[if_neg h]
  have key:zfilled ⟨z.toArray⟩ (n.toNat-z.length)=Builtin.Str.padded ⟨z.toArray⟩ (n.toNat-z.length) 0 48:=by
   unfold zfilled;split
   ·rename_i e;have e:z[0]?=some 43:=by simpa using e
    have:=List.all_eq_true.mp hd 43 (List.mem_of_getElem? e)
    cases of_decide_eq_true this;omega
   ·rename_i e;have e:z[0]?=some 45:=by simpa using e
    have:=List.all_eq_true.mp hd 45 (List.mem_of_getElem? e)
    cases of_decide_eq_true this;omega
   ·rfl
  rw[key];unfold Builtin.Str.padded;congr 1;simp
theorem qMs {a b:Expr} {ca cb:CE} {x:Str} {apos cpos:Pos} (hx:x="zfill") (ha:PE X a (tD X.K W (den F ca))) (hb:PE X b (tD X.K W (den F cb))) (hbase:attributeBase a x X.env (eval a X.env)=eval a X.env) (hline:(apos.endLine == cpos.line)=true)
  (hst:starEach [b] X.env=[(false,eval b X.env)]):PE X (.Call (.Attribute a x apos) [b] [] cpos) (tD X.K W (den F (.me .zfill ca cb))):=by
 subst hx
 have mt:L2.MtR X "str.zfill" fun x ys H Q=>∃ y,ys=[y]/\rB X.K .zfill x y H Q:=by
  rintro pins s σ H x ys v us Q I rx rv ⟨y,rfl,w,ρ,h,d,e,r,hd,he,p⟩
  obtain ⟨u,rfl,ru⟩:=L2.Vals.one rv;cases d with
  |str z=>
   cases e with
   |int n=>
    cases hd;cases he;obtain ⟨⟨h1,h2,h3,h4⟩,p⟩:=PostV.ite (c:=0<=n/\n<=1000/\jH z=true/\z.length<=1000) p;obtain ⟨t,rfl⟩:=rx;obtain ⟨t',rfl⟩:=ru;refine PySem.SC.zfill ?_ fun t2 k=>?_
    ·unfold PadOk fitsSsize;rw[Bool.and_eq_true,Bool.not_eq_true',Bool.not_eq_true']
     exact⟨by rw[decide_eq_false (by omega),decide_eq_false (by omega)];rfl,decide_eq_false (by rw[zK];omega)⟩
    ·rw[qEQ z n h1 h3]
     exact⟨V.str ⟨(List.replicate (n.toNat-z.length) 48++z:List Nat).toArray⟩,H,I.tok _,⟨_,rfl⟩,PostV.now p r rfl⟩
   |_=>exact False.elim p
  |_=>exact False.elim p
 refine wL (L2.pe_bm PySem.F.plainAttrs_str PySem.F.slot_str_zfill PySem.F.type_str_zfill mt ha (L2.pa_cons hb L2.pa_nil (by rw[hst];rfl)) hbase (by rw[hst];rfl) hline (by rw[hst];rfl)) (fun ρ h d v H r hv h' z=>?_) (wD _) (fun x y H Q z=>⟨y,rfl,z⟩);cases d with
 |str y=>cases z;cases hv;exact⟨rfl,rfl⟩
 |_=>cases z
theorem qAC{K:PySem.W.Frag}{ρ:List Addr}{H:Hp}:∀ {ds:List D} {vs:List V} {us:List Value} {xs:List Tx},jC ds=some xs->RepL K ρ H ds vs->Vals vs us->∃ l:List (Str × Tok),us=strValues l/\l.map (·.1)=xs.map fun x=>⟨x.toArray⟩
 | [],_,_,_,e,h,r=>by
  cases e;cases h;cases r
  exact⟨[],rfl,rfl⟩
 |d::ds,_,us,bs,e,⟨v,vs,hv,h1,h2⟩,r=>by
  subst hv;cases d with
  |str b=>
   unfold jC at e;cases q:jC ds with
   |none=>rw[q] at e;cases e
   |some cs=>
    rw[q] at e;cases e;cases h1;cases r with
    |cons r1 r2=>
     obtain ⟨t,rfl⟩:=r1;obtain ⟨l,rfl,e2⟩:=qAC q h2 r2
     exact⟨(⟨b.toArray⟩,t)::l,rfl,by rw[List.map_cons,List.map_cons,e2]⟩
  |_=>cases e
theorem qBz(z:Tx):∀ xs:List Tx,Str.join ⟨z.toArray⟩ (xs.map fun x=>⟨x.toArray⟩)=⟨(zF z xs).toArray⟩
 | []=>rfl
 | [x]=>rfl
 |x::y::r=>by
  have ih:=qBz z (y::r);show (⟨x.toArray⟩:Str)++⟨z.toArray⟩++Str.join ⟨z.toArray⟩ ((y::r).map fun x=>⟨x.toArray⟩)=_;rw[ih,wP,wP];rfl
theorem qM8 {a b:Expr} {ca cb:CE} {x:Str} {apos cpos:Pos} (hx:x="join") (ha:PE X a (tD X.K W (den F ca))) (hb:PE X b (tD X.K W (den F cb))) (hbase:attributeBase a x X.env (eval a X.env)=eval a X.env) (hline:(apos.endLine == cpos.line)=true)
  (hst:starEach [b] X.env=[(false,eval b X.env)]):PE X (.Call (.Attribute a x apos) [b] [] cpos) (tD X.K W (den F (.me .join ca cb))):=by
 subst hx
 have mt:L2.MtR X "str.join" fun x ys H Q=>∃ y,ys=[y]/\rB X.K .join x y H Q:=by
  rintro pins s σ H x ys v us Q I rx rv ⟨y,rfl,w,ρ,h,d,e,r,hd,he,p⟩
  obtain ⟨u,rfl,ru⟩:=L2.Vals.one rv;cases d with
  |str z=>
   cases e with
   |ref i=>
    cases hd;have p:PostV X.K w Q ρ H (match (qC h i).bind jC with | some xs=>if kA z xs<=16777216 then .ok (.str (zF z xs)) h else .bad | none=>.bad):=p;cases q:qC h i with
    |none=>rw[q] at p;exact False.elim p
    |some ds=>
     rw[q] at p;cases qs:jC ds with
     |none=>have p:PostV X.K w Q ρ H (match jC ds with | some xs=>if kA z xs<=16777216 then .ok (.str (zF z xs)) h else .bad | none=>.bad):=p;rw[qs] at p;exact False.elim p
     |some xs=>
      have p:PostV X.K w Q ρ H (match jC ds with | some xs=>if kA z xs<=16777216 then .ok (.str (zF z xs)) h else .bad | none=>.bad):=p;rw[qs] at p;obtain ⟨hz,p⟩:=PostV.ite (c:=kA z xs<=16777216) p;obtain ⟨a',vs,rfl,h1,h2⟩:=r.seen q he;cases ru;obtain ⟨t,rfl⟩:=rx;obtain ⟨its,rv',pl,_⟩:=I.list h1;obtain ⟨l,rfl,el⟩:=qAC qs h2 rv';refine PySem.SC.join (l:=l) (texts:=xs.map fun x=>⟨x.toArray⟩) pl.isList el ?_ fun t2 k=>?_
      ·unfold JoinOk;rw[PySem.StrLaws.joinTotal,Bool.not_eq_true'];refine decide_eq_false ?_;rw[zK,List.map_map,List.length_map,zL];unfold kA at hz
       have:(xs.map ((fun p:Str=>p.length) ∘ fun x=>(⟨x.toArray⟩:Str)))=xs.map List.length:=List.map_congr_left fun x _=>zL x
       rw[this];omega
      ·have e:Txt.join ⟨z.toArray⟩ (xs.map fun x=>⟨x.toArray⟩)=⟨(zF z xs).toArray⟩:=by
        unfold Txt.join;rw[PySem.StrLaws.glued_eq_join,qBz]
       rw[e]
       exact⟨.str ⟨(zF z xs).toArray⟩,H,I.tok _,⟨_,rfl⟩,PostV.now p r rfl⟩
   |_=>exact False.elim p
  |_=>exact False.elim p
 refine wL (L2.pe_bm PySem.F.plainAttrs_str PySem.F.slot_str_join PySem.F.type_str_join mt ha (L2.pa_cons hb L2.pa_nil (by rw[hst];rfl)) hbase (by rw[hst];rfl) hline (by rw[hst];rfl)) (fun ρ h d v H r hv h' z=>?_) (wD _) (fun x y H Q z=>⟨y,rfl,z⟩);cases d with
 |str y=>cases z;cases hv;exact⟨rfl,rfl⟩
 |_=>cases z
end
open L2 (V Hp HO VK TE TT TA TS TI Cx Inv RelV Vals SqL SqT Rd upd qI qG PE PT PA PS PSs EP OpR qL IxR MtR SlR PO TO PI PG PIE Turn qP Ends thn)
section
variable {X:Cx}{F:Nat->List D->M D}{W:WX}
theorem qNE{a b:Expr}{ca cb:CE}{c:Str}{j:Nat}{p1 p2 p3 pos:Pos}(ha:PE X a (tD X.K W (den F ca)))(hb:PE X b (tD X.K W (den F cb))) :
  PE X (.JoinedStr [.FormattedValue a (-1) none p1,.Constant (.str c) j p2,.FormattedValue b (-1) none p3] pos) (tD X.K W (den F (.bi .add (.bi .add ca (.lit (.str c.cps.toList))) cb))):=by
 intro pins s σ H Q I t;obtain ⟨ρ,env,h,st,r,p⟩:=t
 have p:PostV X.K (W.at σ) Q ρ H (M.bind (den F ca env) (fun x=>M.bind (biD .add x (.str c.cps.toList)) fun y=>M.bind (den F cb env) fun z=>biD .add y z) h):=by
  rw[den,den,den] at p;rw[jR] at p;exact p
 have cc:(⟨c.cps.toList.toArray⟩:Str)=c:=by simp
 refine wpAny_JoinedStr ?_
 refine wpAny_FormattedValue_plain (thn (ha pins s σ H (fun v H1=>∃ z:Tx,v=V.str ⟨z.toArray⟩/\z.length+c.cps.toList.length<=16777216/\tD X.K W (fun e=>M.bind (den F cb e) fun y=>biD .add (.str (z++c.cps.toList)) y) σ H1 Q) I
  ⟨ρ,env,h,st,r,Post.bind p fun ρ1 h1 d H1 e1 r1 q v hv=>?_⟩) fun v s1 ⟨x,H1,I1,r1,q1⟩=>?_)
 ·cases d with
  |str z=>
   cases hv;unfold M.bind at q;rw[show biD .add (.str z) (.str c.cps.toList) h1=(if z.length+c.cps.toList.length<=16777216 then .ok (.str (z++c.cps.toList)) h1 else .bad) from rfl] at q
   by_cases hz:z.length+c.cps.toList.length<=16777216
   ·rw[if_pos hz] at q
    exact⟨z,rfl,hz,ρ1,env,h1,st.mono e1,r1,q⟩
   ·rw[if_neg hz] at q;exact False.elim q
  |_=>exact (show False from q).elim
 ·obtain ⟨z,rfl,hz,t2⟩:=q1;obtain ⟨t,rfl⟩:=r1
  have key:∀ t' s',Inv X pins σ H1 s'->∃ y u,Value.str ⟨z.toArray⟩ t'=.str y u/\(Str.empty++y).length<=sizeLine/\Joins (model X.prog X.w) X.A X.xe (evalEach [.Constant (.str c) j p2,.FormattedValue b (-1) none p3] X.env) (Str.empty++y) (fun out s₁=>out.length<=sizeLine/\EP X pins σ Q (.str out s₁.toks) { s₁ with toks:=s₁.toks+1 }) s':=by
   intro t' s' I';have e0:Str.empty++(⟨z.toArray⟩:Str)=⟨z.toArray⟩:=wP [] z;refine⟨⟨z.toArray⟩,t',rfl,by rw[e0,zL,zK];omega,?_⟩;rw[e0];refine thn (L2.pe_str (X:=X) (x:=c) (j:=j) (pos:=p2) pins s' σ H1 (fun v H'=>v=V.str c/\H'=H1) I' ⟨rfl,rfl⟩) fun v s2 ⟨x,H2,I2,r2,ex,eh⟩=>?_;subst ex eh;obtain ⟨u,rfl⟩:=r2
   have e1:(⟨z.toArray⟩:Str)++c=⟨(z++c.cps.toList).toArray⟩:=by
    conv=>lhs;rw[<- cc]
    exact wP z c.cps.toList
   refine⟨c,u,rfl,by rw[e1,zL,List.length_append,zK];exact hz,?_⟩;rw[e1];obtain ⟨ρ2,env2,h2,st2,rr2,pp2⟩:=t2
   refine wpAny_FormattedValue_plain (thn (hb pins s2 σ H2 (fun v H3=>∃ y:Tx,v=V.str ⟨y.toArray⟩/\(z++c.cps.toList).length+y.length<=16777216/\Q (.str ⟨(z++c.cps.toList++y).toArray⟩) H3) I2
    ⟨ρ2,env2,h2,st2,rr2,Post.bind pp2 fun ρ3 h3 d H3 e3 r3 q v hv=>?_⟩) fun v s3 ⟨x,H3,I3,r3,q3⟩=>?_)
   ·cases d with
    |str y=>
     cases hv;have q:PostV X.K (W.at σ) Q ρ3 H3 (if (z++c.cps.toList).length+y.length<=16777216 then .ok (.str (z++c.cps.toList++y)) h3 else .bad):=q;obtain ⟨hz2,q⟩:=PostV.ite q
     exact⟨y,rfl,hz2,q.now r3 rfl⟩
    |_=>exact (show False from q).elim
   ·obtain ⟨y,rfl,hz2,qq⟩:=q3;obtain ⟨t3,rfl⟩:=r3
    have last:∀ t4 s4,Inv X pins σ H3 s4->∃ y' u',Value.str ⟨y.toArray⟩ t4=.str y' u'/\((⟨(z++c.cps.toList).toArray⟩:Str)++y').length<=sizeLine/\Joins (model X.prog X.w) X.A X.xe (evalEach [] X.env) (⟨(z++c.cps.toList).toArray⟩++y') (fun out s₁=>out.length<=sizeLine/\EP X pins σ Q (.str out s₁.toks) { s₁ with toks:=s₁.toks+1 }) s4:=by
     intro t4 s4 I4;have e2:(⟨(z++c.cps.toList).toArray⟩:Str)++⟨y.toArray⟩=⟨(z++c.cps.toList++y).toArray⟩:=wP _ _;have hl:(⟨(z++c.cps.toList++y).toArray⟩:Str).length<=sizeLine:=by rw[zL,List.length_append,zK];exact hz2
     refine⟨⟨y.toArray⟩,t4,rfl,by rw[e2];exact hl,?_⟩;rw[e2]
     exact⟨hl,.str _,H3,I4.tok _,⟨_,rfl⟩,qq⟩
    exact wpAny_formatField_str (last _ _ I3) (last _ _ (I3.tok _)) (by rw[zL,zK];omega)
  exact wpAny_formatField_str (key _ _ I1) (key _ _ (I1.tok _)) (by rw[zL,zK];omega)
end
section
variable {X:Cx}{F:Nat->List D->M D}{W:WX}
end
theorem fT(x:Int):∀ l:List Int,(yJ x l).Perm (x::l)
 | []=>.refl _
 |y::r=>by
  unfold yJ;split
  ·exact .refl _
  ·exact ((fT x r).cons y).trans (.swap x y r)
theorem qAQ:∀ l:List Int,(jV l).Perm l
 | []=>.refl _
 |x::r=>(fT x (jV r)).trans ((qAQ r).cons x)
theorem qCM(x:Int):∀ {l:List Int},l.Pairwise (·<=·)->(yJ x l).Pairwise (·<=·)
 | [],_=>List.pairwise_singleton ..
 |y::r,h=>by
  unfold yJ;obtain ⟨h1,h2⟩:=List.pairwise_cons.mp h;split
  ·rename_i c;refine List.pairwise_cons.mpr ⟨fun z hz=>?_,h⟩;rcases List.mem_cons.mp hz with e | e
   ·omega
   ·have:=h1 z e;omega
  ·rename_i c;refine List.pairwise_cons.mpr ⟨fun z hz=>?_,qCM x h2⟩;rcases List.mem_cons.mp ((fT x r).mem_iff.mp hz) with e | e
   ·omega
   ·exact h1 z e
theorem qAP:∀ l:List Int,(jV l).Pairwise (·<=·)
 | []=>.nil
 |x::r=>qCM x (qAP r)
theorem tO:∀ {a b:List Int},a.Perm b->a.Pairwise (·<=·)->b.Pairwise (·<=·)->a=b
 | [],b,p,_,_=>(List.nil_perm.mp p).symm
 |x::a,[],p,_,_=>absurd p.length_eq (by simp)
 |x::a,y::b,p,ha,hb=>by
  obtain ⟨a1,a2⟩:=List.pairwise_cons.mp ha;obtain ⟨b1,b2⟩:=List.pairwise_cons.mp hb;have hx:x∈y::b:=p.mem_iff.mp (List.mem_cons_self ..);have hy:y∈x::a:=p.mem_iff.mpr (List.mem_cons_self ..)
  have e:x=y:=by
   rcases List.mem_cons.mp hx with e | e
   ·exact e
   ·rcases List.mem_cons.mp hy with z | z
    ·exact z.symm
    ·have:=b1 x e
     have:=a1 y z
     omega
  subst e;rw[tO ((List.perm_cons x).mp p) a2 b2]
theorem qAm{K:PySem.W.Frag}{ρ:List Addr}{H:Hp}:∀ ns:List Int,RepL K ρ H (ns.map .int) (ns.map V.int)
 | []=>rfl
 |n::r=>⟨.int n,_,rfl,rfl,qAm r⟩
theorem vals_ints:∀ {us:List Value} {ns:List Int},IntsAre us ns->Vals (ns.map V.int) us
 | [],[],_=>.nil
 |u::us,n::ns,h=>by
  cases h with
  |cons _ t h2=>exact .cons ⟨_,rfl⟩ (vals_ints h2)
section
variable {X:Cx}{F:Nat->List D->M D}{W:WX}
theorem qNj:qL X (.builtin "sorted") (rC X.K .sorted):=by
 rintro pins s σ H xs us Q I rv ⟨x,rfl,w,ρ,h,d,r,hd,p⟩
 cases d with
 |ref i=>
  have p:PostV X.K w Q ρ H (match (qC h i).bind jB with | some xs=>(if xs.length<64 then newL ((jV xs).map .int) h else .bad) | none=>.bad):=p;cases q:qC h i with
  |none=>rw[q] at p;exact False.elim p
  |some ds=>
   rw[q] at p;have p:PostV X.K w Q ρ H (match jB ds with | some xs=>(if xs.length<64 then newL ((jV xs).map .int) h else .bad) | none=>.bad):=p;cases qb:jB ds with
   |none=>rw[qb] at p;exact False.elim p
   |some ns=>
    rw[qb] at p;obtain ⟨h64,p⟩:=PostV.ite (c:=ns.length<64) p;obtain ⟨a,vs,rfl,h1,h2⟩:=r.seen q hd;obtain ⟨u,rfl,ru⟩:=L2.Vals.one rv;cases ru;obtain ⟨its,rv',pl,hz⟩:=I.list h1;have hv:=fR qb h2;subst hv;have hb:=L2.intsAre_of rv';have hl:=pl.isList;have len:=rv'.length;rw[List.length_map] at len;refine sorted_ints hl hb (by omega) fun out ns' o1 o2 o3=>?_;have e:ns'=jV ns:=tO (o2.trans (qAQ ns).symm) o3 (qAP ns);subst e;obtain ⟨e,he⟩:=sortedAll_at s.heap its out;have pv:=PostV.newL p r (qAm (K:=X.K) (ρ:=ρ) (H:=H) (jV ns))
    exact⟨.ref (s.heap.objs.size+1),_,I.laid (t':=s.toks) (fun _ _=>sortedAll_old) (Nat.le_succ _) (show L2.ObjOk X.prog X.w _ _ _ (.lst ((jV ns).map V.int)) from ⟨pv.1,out.toList,e,vals_ints o1,he⟩),rfl,pv.2 _ (I.hok.fresh (Nat.le_succ _))⟩
 |_=>exact False.elim p
end
open L2 (V Hp HO VK TE TT TA TS TI Cx Inv RelV Vals SqL SqT Rd upd qI qG PE PT PA PS PSs EP PI PG PIE Turn qP Ends Un HOk frs)
section
variable {prog:Program}{w:World}{A:Around}{R:Result->Shared->Prop}{s:Shared}
theorem qNU{elt target iter:Expr}{ifs:List Expr}{scope:Scope}{pos:Pos}{it acc:Value}{env:PySem.Env}(I:Nat->Shared->Prop)
  (turn:∀ n s,I n s->wpAny (model prog w) A (pyNext it) (fun r s₁=>match r with
   |none=>R (.ok .next) s₁
   |some v=>wpAny (model prog w) A (letOwnedTupleGo target it v) (fun _ s₁'=>wpAny (model prog w) A (assign target env v) (fun _ s₂=>
     wpAny (model prog w) A (forIn ifs true fun c r=>if r=true then do let ok <- isTrue c env (eval c env);pure (ForInStep.yield ok) else pure (ForInStep.yield r)) (fun ok s₃=>
      if ok=true then wpAny (model prog w) A (eval elt env) (fun x s₄=>
       wpAny (model prog w) A (call (.builtin "list.append") [acc,x]) (fun _ s₅=>∃ m,m<n/\I m s₅) (notedBy (model prog w) A env fun e s'=>R (.error e) s') s₄) (notedBy (model prog w) A env fun e s'=>R (.error e) s') s₃
      else ∃ m,m<n/\I m s₃) (notedBy (model prog w) A env fun e s'=>R (.error e) s') s₂) (notedBy (model prog w) A env fun e s'=>R (.error e) s') s₁') (notedBy (model prog w) A env fun e s'=>R (.error e) s') s₁) (notedBy (model prog w) A env fun e s'=>R (.error e) s') s)
  (n:Nat) (h:I n s):codeAny (model prog w) A (.compLoop (.ListComp elt [⟨target,iter,ifs,0⟩] scope pos) 0 it acc env) R s:=by
 refine codeAny_loop rfl I (fun n s hI=>?_) n h;show wpAny _ A ((compTurn (.ListComp elt [⟨target,iter,ifs,0⟩] scope pos) 0 it acc env).onRaise (fun x=>do noteFrame x env;theTreesLotGoes x)) _ _ s;refine wpAny_noted ?_;rw[compTurn_list];refine wpAny_bind (wpAny_standAt (wpAny_bind (wpAny_mono (turn n s hI) (fun r s₁ h₁=>?_) fun _ _ h'=>h')));cases r with
 |none=>exact wpAny_pure h₁
 |some v=>
  refine wpAny_bind (wpAny_mono h₁ (fun _ s₁' h₁'=>?_) fun _ _ h'=>h');refine wpAny_bind (wpAny_mono h₁' (fun _ s₂ h₂=>wpAny_bind (wpAny_mono h₂ (fun ok s₃ h₃=>?_) fun _ _ h'=>h')) fun _ _ h'=>h');cases ok with
  |false=>exact wpAny_pure ⟨rfl,h₃⟩
  |true=>exact wpAny_bind (wpAny_bind (wpAny_mono h₃ (fun x s₄ h₄=>wpAny_bind (wpAny_mono h₄ (fun _ s₅ h₅=>wpAny_pure (wpAny_pure ⟨rfl,h₅⟩)) fun _ _ h'=>h')) fun _ _ h'=>h'))
end
theorem nT{env:PySem.Env}:∀ (names:List (Str × NameKind)) (acc:List (Str × Addr)),(∀ y∈names,y.2=.free->∃ c,env.cells.lookup y.1=some c)->(∀ y c,acc.lookup y=some c->env.cells.lookup y=some c) ->
  ∃ cl,(forIn names acc fun (p:Str × NameKind) (r:List (Str × Addr))=>(do if (p.2 == NameKind.free)=true then (do let a <- cellOf env p.1;pure (ForInStep.yield ((p.1,a)::r))) else pure (ForInStep.yield r):Sem (ForInStep (List (Str × Addr)))))=(pure cl:Sem (List (Str × Addr))) /\
   (∀ y c,cl.lookup y=some c->env.cells.lookup y=some c)/\(∀ y∈names,y.2=.free->∃ c,cl.lookup y.1=some c)/\∀ y c,acc.lookup y=some c->∃ c,cl.lookup y=some c
 | [],acc,_,ha=>⟨acc,rfl,ha,fun _ h=>absurd h (by simp),fun y c h=>⟨c,h⟩⟩
 | (n,k)::r,acc,hn,ha=>by
  by_cases hk:k=.free
  ·subst hk;obtain ⟨c,hc⟩:=hn (n,.free) (List.mem_cons_self ..) rfl
   have ha':∀ y d,((n,c)::acc).lookup y=some d->env.cells.lookup y=some d:=fun y d h=>by
    rw[List.lookup_cons] at h;cases q:(y == n) with
    |true=>
     rw[q] at h;cases h
     have:y=n:=by simpa using q
     rw[this];exact hc
    |false=>rw[q] at h;exact ha y d h
   obtain ⟨cl,h1,h2,h3,h4⟩:=nT r ((n,c)::acc) (fun y hy=>hn y (List.mem_cons_of_mem _ hy)) ha';have hl:((n,c)::acc).lookup n=some c:=by rw[List.lookup_cons];simp
   refine⟨cl,?_,h2,fun y hy hf=>?_,fun y d hd=>?_⟩
   ·rw[List.forIn_cons];have e:cellOf env n=pure c:=by unfold cellOf;rw[hc]
    simp only[beq_self_eq_true,if_true,e];exact h1
   ·rcases List.mem_cons.mp hy with rfl | hy
    ·exact h4 n c hl
    ·exact h3 y hy hf
   ·by_cases q:y=n
    ·subst q;exact h4 y c hl
    ·refine h4 y d ?_;rw[List.lookup_cons]
     have:(y == n)=false:=by simpa using q
     rw[this];exact hd
  ·obtain ⟨cl,h1,h2,h3,h4⟩:=nT r acc (fun y hy=>hn y (List.mem_cons_of_mem _ hy)) ha;refine⟨cl,?_,h2,fun y hy hf=>?_,h4⟩
   ·rw[List.forIn_cons];have e:(k == NameKind.free)=false:=by simpa using hk
    simp only[e,Bool.false_eq_true,if_false];exact h1
   ·rcases List.mem_cons.mp hy with rfl | hy
    ·exact absurd hf hk
    ·exact h3 y hy hf
theorem qNZ{env:PySem.Env}{scope:Scope}(hn:∀ y∈scope.names,y.2=.free->∃ c,env.cells.lookup y.1=some c) :
  ∃ cl,closureFor scope env=pure cl/\(∀ y c,cl.lookup y=some c->env.cells.lookup y=some c)/\∀ y∈scope.names,y.2=.free->∃ c,cl.lookup y.1=some c:=by
 obtain ⟨cl,h1,h2,h3,_⟩:=nT (env:=env) scope.names [] hn (fun _ _ h=>nomatch h);refine⟨cl,?_,h2,h3⟩;exact (congrArg (fun t:Sem (List (Str × Addr))=>t >>= fun z=>pure z) h1).trans rfl
abbrev noN:Str:=""
def jF(N:List Str)(x:Str):List Str:=N.map fun y=>if y=x then noN else y
theorem aA(N:List Str)(x:Str):(jF N x).length=N.length:=by unfold jF;simp
theorem qI6{N:List Str}{x y:Str}{i:Nat}(h:(jF N x)[i]?=some y):(N[i]?=some y/\y≠x)\/(N[i]?=some x/\y=noN):=by
 unfold jF at h;rw[List.getElem?_map] at h;cases q:N[i]? with
 |none=>rw[q] at h;cases h
 |some z=>
  rw[q] at h;have h:(if z=x then noN else z)=y:=Option.some.inj h
  by_cases e:z=x
  ·rw[if_pos e] at h;exact .inr ⟨by rw[e],h.symm⟩
  ·rw[if_neg e] at h;exact .inl ⟨by rw[h],h ▸ e⟩
theorem qBP{N:List Str}{x:Str}(nd:N.Nodup)(h1:x≠noN)(h2:x∈N->noN∉N):(jF N x++[x]).Nodup:=by
 have inj:∀ a∈N,∀ b∈N,(if a=x then noN else a)=(if b=x then noN else b)->a=b:=fun a ha b hb e=>by
  by_cases ea:a=x
  ·by_cases eb:b=x
   ·rw[ea,eb]
   ·rw[if_pos ea,if_neg eb] at e;exact absurd (e ▸ hb) (h2 (ea ▸ ha))
  ·by_cases eb:b=x
   ·rw[if_neg ea,if_pos eb] at e;exact absurd (e ▸ ha) (h2 (eb ▸ hb))
   ·rw[if_neg ea,if_neg eb] at e;exact e
 rw[List.nodup_append];refine⟨?_,by simp,fun a ha b hb z=>?_⟩
 ·unfold jF
  clear h1 h2
  induction N with
  |nil=>simp
  |cons c r ih=>
   rw[List.nodup_cons] at nd;rw[List.map_cons,List.nodup_cons];refine⟨fun hm=>?_,ih nd.2 fun a ha b hb=>inj a (List.mem_cons_of_mem _ ha) b (List.mem_cons_of_mem _ hb)⟩;obtain ⟨d,hd,e⟩:=List.mem_map.mp hm
   have:=inj d (List.mem_cons_of_mem _ hd) c (List.mem_cons_self ..) e
   exact nd.1 (this ▸ hd)
 ·rw[List.mem_singleton.mp hb] at z;subst z;unfold jF at ha;obtain ⟨d,hd,e⟩:=List.mem_map.mp ha;have e:(if d=a then noN else d)=a:=e
  by_cases q:d=a
  ·rw[if_pos q] at e;exact h1 e.symm
  ·rw[if_neg q] at e;exact q e
def cxC(X:Cx)(x:Str)(scope:Scope)(cl:List (Str × Addr))(C:Addr)(s3:Shared)(H3:Hp)(fp:List Addr)(E:Value->Shared->Prop):Cx:=
 { X with N:=jF X.N x++[x],s₀:=s3,H₀:=H3,env:=compEnvC scope cl C X.env,outer:=X.stack,ex:=fp,fn:=fun _=>false,pn:=[],xe:=E }
structure CompOk (X:Cx) (x:Str) (scope:Scope):Prop where
 kind:scope.kind=.function
 nocell:∀ y∈scope.names,y.2≠.cell
 loc:∀ y∈scope.names,y.2=.local->scope.names.lookup y.1=some .local
 own:scope.names.lookup x=some .local
 free:∀ y∈scope.names,y.2=.free->X.env.kindOf y.1=some .cell\/X.env.kindOf y.1=some .free
 new:x≠noN
 hole:x∈X.N->noN∉X.N/\scope.names.lookup noN=none
 others:∀ y,y≠x->scope.names.lookup y=some .local->y∈X.N->False
section
variable {X:Cx}{x:Str}{scope:Scope}{cl:List (Str × Addr)}{pins:List (Addr × Obj)}{σ:L2.St}{H:Hp}{s:Shared}{fp:List Addr}
theorem jZ{env:PySem.Env}{y:Str}{k:NameKind}:∀ {names:List (Str × NameKind)},(names.map fun (n,k)=>if (k == NameKind.free&&env.scope.kind == .function&&env.kindOf n == some .cell) then (n,NameKind.cell) else (n,k)).lookup y=some k ->
  names.lookup y=some k\/(names.lookup y=some .free/\k=.cell)
 | [],h=>by simp at h
 | (n,k')::r,h=>by
  have ih:=@jZ env y k r;have h:List.lookup y ((if (k' == NameKind.free&&env.scope.kind == .function&&env.kindOf n == some .cell)=true then (n,NameKind.cell) else (n,k'))::(r.map fun (n,k)=>if (k == NameKind.free&&env.scope.kind == .function&&env.kindOf n == some .cell) then (n,NameKind.cell) else (n,k)))=some k:=h
  by_cases hc:(k' == NameKind.free&&env.scope.kind == .function&&env.kindOf n == some .cell)=true
  ·rw[if_pos hc,List.lookup_cons] at h;rw[List.lookup_cons];cases q:(y == n) with
   |true=>
    rw[q] at h;cases h
    have:k'=.free:=by
     simp only[Bool.and_eq_true] at hc;simpa using hc.1.1
    subst this;exact .inr ⟨rfl,rfl⟩
   |false=>rw[q] at h;exact ih h
  ·rw[if_neg hc,List.lookup_cons] at h;rw[List.lookup_cons];cases q:(y == n) with
   |true=>rw[q] at h;exact .inl h
   |false=>rw[q] at h;exact ih h
theorem wC{names:List (Str × NameKind)}{y:Str}{k:NameKind}(h:names.lookup y=some k):(y,k)∈names:=PySem.mem_of_lookup h
theorem CompOk.vis(C:CompOk X x scope){y:Str}(hy:y∈X.N)(hne:y≠x)(hv:L2.Vis (relabel scope X.env) y):(scope.names.lookup y=some .free)/\((relabel scope X.env).names.lookup y=some .cell\/(relabel scope X.env).names.lookup y=some .free):=by
 rcases hv with h | h | h
 ·rcases jZ h with z | ⟨_,z⟩
  ·exact (C.others y hne z hy).elim
  ·cases z
 ·rcases jZ h with z | ⟨z,_⟩
  ·exact absurd rfl (C.nocell _ (wC z))
  ·exact⟨z,.inl h⟩
 ·rcases jZ h with z | ⟨z,w⟩
  ·exact⟨z,.inr h⟩
  ·cases w
theorem qNN{C:Addr}{E:Value->Shared->Prop}(K:CompOk X x scope)(I:Inv X pins σ H s)(hC:C=s.heap.objs.size)(hcl:∀ y c,cl.lookup y=some c->X.env.cells.lookup y=some c)(hfr:∀ y∈scope.names,y.2=.free->∃ c,cl.lookup y.1=some c)
  (hfp:∀ b∈fp,qP X pins H b) (hlt:∀ b∈fp,b<s.heap.objs.size):(cxC X x scope cl C s H fp E).Ok where
 mod:=I.mod
 kind:=K.kind
 glob:=I.ok.glob
 blt:=I.ok.blt
 above:=by rw[hC];exact Nat.le_refl _
 inj:=fun y z c h1 h2=>I.ok.inj y z c (hcl y c h1) (hcl z c h2)
 has:=fun y hy=>by
  have hy:(relabel scope X.env).names.lookup y=some .cell\/(relabel scope X.env).names.lookup y=some .free:=hy
  have:scope.names.lookup y=some .free:=by
   rcases hy with h | h
   ·rcases jZ h with z | ⟨z,_⟩
    ·exact absurd rfl (K.nocell _ (wC z))
    ·exact z
   ·rcases jZ h with z | ⟨_,w⟩
    ·exact z
    ·cases w
  exact hfr _ (wC this) rfl
 cab:=fun y c h=>by cases h
 hd:=I.ok.hd
 frames:=I.ok.frames
 stk:=.inl rfl
 exf:=fun b hb=>⟨fun z=>by have:=hlt b hb;rw[show b=C from z,hC] at this;exact absurd this (Nat.lt_irrefl _),fun y c h=>(hfp b hb).2.2.2.2.1 y c (hcl y c h)⟩
 bs:=I.bs
 bsz:=Nat.le_trans I.ok.bsz I.sz
 noex:=fun b o e hb=>by
  obtain ⟨_,_,_,f3,_⟩:=hfp b hb;rcases f3 with z | z
  ·exact I.ok.noex b o e z
  ·exact absurd (Nat.lt_of_lt_of_le (Heap.lt_size e) (Nat.le_trans I.ok.bsz z)) (Nat.lt_irrefl _)
 exfs:=fun b hb z=>by
  obtain ⟨_,f1,f2,_⟩:=hfp b hb;rcases List.mem_cons.mp (I.stkSub b z) with q | q
  ·exact f1 q
  ·exact f2 q
 funs:=I.stack
 frf:=I.stkFree
theorem qNO{C:Addr}{E:Value->Shared->Prop}{h1:Heap}{tk:Nat}(K:CompOk X x scope)(I:Inv X pins σ H s)(hC:C=s.heap.objs.size)(hcl:∀ y c,cl.lookup y=some c->X.env.cells.lookup y=some c)(hfr:∀ y∈scope.names,y.2=.free->∃ c,cl.lookup y.1=some c)
  (hfp:∀ b∈fp,qP X pins H b) (hlt:∀ b∈fp,b<s.heap.objs.size) (hns:h1.Ns C fun _=>none) (old:∀ b o,s.heap.get? b=some o->h1.get? b=some o) :
  Inv (cxC X x scope cl C s H fp E) [] (σ++[none]) H { s with heap:=h1,toks:=tk }:=by
 have ok:(cxC X x scope cl C s H fp E).Ok:=qNN K I hC hcl hfr hfp hlt;have fC:H C=none:=I.hok.fresh (by rw[hC];exact Nat.le_refl _);refine⟨ok,rfl,I.bare,Un.kept old,⟨_,hns,fun i y v e1 e2 e3=>?_⟩,fun y c h=>?_,fC,fun y c h=>I.freeC y c (hcl y c h),fun p hp=>absurd hp (by show p∉([]:List (Addr × Obj))++[];simp),I.hok.kept old,?_⟩
 ·have e1:(jF X.N x++[x])[i]?=some y:=e1
  by_cases hi:i<σ.length
  ·rw[List.getElem?_append_left hi] at e2;rw[List.getElem?_append_left (by rw[aA,<- I.len];exact hi)] at e1;rcases qI6 e1 with⟨e1,hne⟩ | ⟨e9,rfl⟩
   rotate_left
   ·exfalso;have hz:=(K.hole (List.mem_of_getElem? e9)).2;rcases e3 with z | z | z
    ·rcases jZ z with w | ⟨w,_⟩ <;> (rw[hz] at w;cases w)
    ·rcases jZ z with w | ⟨w,_⟩ <;> (rw[hz] at w;cases w)
    ·rcases jZ z with w | ⟨w,_⟩ <;> (rw[hz] at w;cases w)
   obtain ⟨hf,hk⟩:=K.vis (List.mem_of_getElem? e1) hne e3;have ho:=K.free _ (wC hf) rfl;obtain ⟨m,hn,hl⟩:=I.loc
   have vo:L2.Vis X.env.scope y:=by
    rcases ho with z | z
    ·exact .inr (.inl z)
    ·exact .inr (.inr z)
   obtain ⟨u,r,l⟩:=hl i y v e1 e2 vo;refine⟨u,r,.inr ⟨hk,?_⟩⟩;rcases l with⟨hk',_⟩ | ⟨_,c,hc,o,hoc,hd⟩
   ·rcases ho with z | z
    ·have z:X.env.kindOf y=some .cell:=z;rw[hk'] at z;cases z
    ·have z:X.env.kindOf y=some .free:=z;rw[hk'] at z;cases z
   ·obtain ⟨c',hc'⟩:=hfr _ (wC hf) rfl;have e:=hcl _ _ hc';rw[hc] at e;cases e
    exact⟨c,hc',o,old _ _ hoc,hd⟩
  ·rw[List.getElem?_append_right (Nat.le_of_not_lt hi)] at e2;cases q:i-σ.length with
   |zero=>rw[q] at e2;cases e2
   |succ n=>rw[q] at e2;simp at e2
 ·obtain ⟨v,o,ho,hd⟩:=I.cell y c (hcl y c h)
  exact⟨v,o,old _ _ ho,hd⟩
 ·show (σ++[none]).length=(jF X.N x++[x]).length;rw[List.length_append,List.length_append,aA,I.len];rfl
end
open L2 (wQ V Hp HO VK TE TT TA TS TI Cx Inv RelV Vals SqL SqT Rd upd qI qG PE PT PA PS PSs EP TP PI PG PIE Turn qP Ends Un HOk frs thn)
def gS:Option TT->TT
 |none=>fun _ H Q=>Q true H
 |some t=>t
def yY(K:PySem.W.Frag)(wi:TI)(tt:Option TT)(te:TE):TE:=fun σ H Q=>wi σ H fun J H1=>∀ d,H1 d=none->K.lookup d=none->∃ W:Nat->Nat->Hp->Prop,(∃ m,W 0 m (upd H1 d (.lst [])))/\∀ i m H,W i m H ->
 (J.stop i H/\Q (.ref d) H)\/(J.go i H/\∀ x H',J.yld i H x H'->gS tt (σ++[some x]) H' fun b H2=>if b=true then te (σ++[some x]) H2 fun y H3=>∃ ys,H3 d=some (.lst ys)/\ys.length<sizeLine/\∃ m',m'<m/\W (i+1) m' (upd H3 d (.lst (ys++[y]))) else ∃ m',m'<m/\W (i+1) m' H2)
def PTs(X:Cx)(ifs:List Expr):Option TT->Prop
 |none=>ifs=[]
 |some t=>∃ c,ifs=[c]/\PT X c t
section
variable {X:Cx}{x:Str}{scope:Scope}{pins:List (Addr × Obj)}{σ:L2.St}{H:Hp}{s:Shared}{elt iter:Expr}{ifs:List Expr}{px pos p:Pos}{wi:TI}{tt:Option TT}{te:TE}{Q:VK}
theorem qFA{t:Option TT}{Q':Bool->Hp->Prop}(h:PTs X ifs t)(I:Inv X pins σ H s)(q:gS t σ H Q') :
  wpAny (model X.prog X.w) X.A (forIn ifs true fun c r=>if r=true then do let ok <- isTrue c X.env (eval c X.env);pure (ForInStep.yield ok) else pure (ForInStep.yield r)) (TP X pins σ Q') X.xe s:=by
 cases t with
 |none=>have h:ifs=[]:=h;subst h;exact wpAny_tests_nil ⟨H,I,q⟩
 |some t=>obtain ⟨c,rfl,hc⟩:=h;exact wpAny_tests_one (hc pins s σ H Q' I q)
theorem qCv{use:Option (Value->Sem Unit)}{Qf:Value->Shared->Prop}(K:CompOk X x scope)(nd:X.N.Nodup)(hc:X.calm=true)(hi:PI X (.Name x px) iter wi)(hfs:∀ x,foldedSetIterable iter X.env x=pure x)
  (hin:∀ cl C s3 H3 fp E,PE (cxC X x scope cl C s3 H3 fp E) elt te/\PTs (cxC X x scope cl C s3 H3 fp E) ifs tt) (I:Inv X pins σ H s) (h:yY X.K wi tt te σ H Q)
  (fin:∀ (d C:Addr) (H':Hp) (s':Shared) (m:Str->Option Value),Inv X pins σ H' s'->s'.heap.Ns C m->qP X pins H' C->Q (.ref d) H'->compPost (model X.prog X.w) X.A X.xe use Qf (.ref d) C (.ok .next) s') :
  wpAny (model X.prog X.w) X.A (comprehension (.ListComp elt [⟨.Name x px,iter,ifs,0⟩] scope pos) scope X.env p (newList []) false (eval iter X.env) use) Qf X.xe s:=by
 obtain ⟨cl,hclos,hcl,hfr⟩:=qNZ (env:=X.env) (scope:=scope) fun y hy hf=>I.ok.has _ (K.free y hy hf);refine wpAny_comprehension_free (use:=use) rfl hfs hclos K.kind K.loc (thn (hi pins s σ H _ I h) fun v s1 h1=>thn h1 fun itv s2 h2=>?_);obtain ⟨it,fp,tn,J,H2,e,I2,T,st2,f2,hR⟩:=h2;subst e;refine wpAny_newObj_type ?_
 obtain ⟨W,⟨m0,w0⟩,turn⟩:=hR s2.heap.objs.size I2.fresh (by
  cases q:X.K.lookup s2.heap.objs.size with
  |none=>rfl
  |some o=>exact absurd (Heap.lt_size (I2.kIn _ o q)) (Nat.lt_irrefl _))
 have I3:=I2.lnew (its:=[]) (ys:=[]) (t':=s2.toks) .nil (Nat.zero_le _);have fd:∀ b∈fp,b<s2.heap.objs.size:=fun b hb=>let ⟨o,e,_⟩:=T.obj _ _ st2 b hb;Heap.lt_size e;have f3:∀ b∈fp,qP X pins (upd H2 s2.heap.objs.size (.lst [])) b:=fun b hb=>⟨by rw[qG (Nat.ne_of_lt (fd b hb))];exact (f2 b hb).1,(f2 b hb).2⟩;have st3:tn 0 (s2.heap.push { cls:=.type "list",data:=.seq ([]:List Value).toArray }):=T.keep _ _ _ st2 fun b _ o e=>Heap.get?_push_of_some _ e;generalize hd:s2.heap.objs.size=d at *;generalize hH3:upd H2 d (.lst [])=H3 at *;generalize hs3:({ s2 with heap:=s2.heap.push { cls:=.type "list",data:=.seq ([]:List Value).toArray },toks:=s2.toks }:Shared)=s3 at *;have st3:tn 0 s3.heap:=by rw[<- hs3];exact st3
 have lt3:∀ b∈fp,b<s3.heap.objs.size:=fun b hb=>let ⟨o,e,_⟩:=T.obj _ _ st3 b hb;Heap.lt_size e;refine wpAny_newFunctionEnv K.nocell (by intro y hy;simp at hy) (fun h1 hns hsb=>?_) K.kind;have old:∀ b o,s3.heap.get? b=some o->h1.get? b=some o:=fun b o e=>hsb.extBut b o (Nat.ne_of_lt (Heap.lt_size e)) (Heap.get?_push_of_some _ e);show codeAny _ _ (.compStart (.ListComp elt [⟨.Name x px,iter,ifs,0⟩] scope pos) 0 (.ref it) (.ref d) (compEnvC scope cl s3.heap.objs.size X.env)) (compPost (model X.prog X.w) X.A X.xe use Qf (.ref d) s3.heap.objs.size) _;generalize hC:s3.heap.objs.size=C at *;have I4:=qNO (E:=notedBy (model X.prog X.w) X.A (compEnvC scope cl C X.env) fun e s'=>compPost (model X.prog X.w) X.A X.xe use Qf (.ref d) C (.error e) s') (tk:=s3.toks+([]:List (Str × Value)).length) K I3 hC.symm hcl hfr f3 (by rw[hC];exact lt3) hns old;obtain ⟨hE,hT⟩:=hin cl C s3 H3 fp (notedBy (model X.prog X.w) X.A (compEnvC scope cl C X.env) fun e s'=>compPost (model X.prog X.w) X.A X.xe use Qf (.ref d) C (.error e) s');generalize hX:cxC X x scope cl C s3 H3 fp (notedBy (model X.prog X.w) X.A (compEnvC scope cl C X.env) fun e s'=>compPost (model X.prog X.w) X.A X.xe use Qf (.ref d) C (.error e) s')=X' at I4 hE hT;have pX:X'.prog=X.prog:=by rw[<- hX];rfl
 have wX:X'.w=X.w:=by rw[<- hX];rfl
 have kX:X'.K=X.K:=by rw[<- hX];rfl
 have aX:X'.A=X.A:=by rw[<- hX];rfl
 have cX:X'.calm=true:=by rw[<- hX];exact hc
 have eX:X'.env=compEnvC scope cl C X.env:=by rw[<- hX];rfl
 have xX:X'.xe=notedBy (model X.prog X.w) X.A (compEnvC scope cl C X.env) fun e s'=>compPost (model X.prog X.w) X.A X.xe use Qf (.ref d) C (.error e) s':=by rw[<- hX];rfl
 have nX:X'.N=jF X.N x++[x]:=by rw[<- hX];rfl
 have sX:X'.s₀=s3:=by rw[<- hX];rfl
 have hX0:X'.H₀=H3:=by rw[<- hX];rfl
 have oX:X'.fs=frs X.stack:=by rw[<- hX];rfl
 have exX:X'.ex=fp:=by rw[<- hX];rfl
 have pnX:X'.pn=[]:=by rw[<- hX];rfl
 have lX:X'.env.locals=C:=by rw[eX];rfl
 have slot:X'.N[σ.length]?=some x:=by
  rw[nX,List.getElem?_append_right (by rw[aA,I3.len];exact Nat.le_refl _),aA,I3.len];simp
 have ndX:X'.N.Nodup:=by
  rw[nX];exact qBP nd K.new fun z=>(K.hole z).1
 have locX:L2.Loc X'.env.scope x:=by
  rw[eX];exact .inl (lookup_relabel_local K.own)
 have stat:∀ {H':Hp},(∀ b∈fp,H' b=none)->∀ b∈fp,qP X' [] H' b:=fun hn b hb=>by
  refine⟨hn b hb,?_,?_,.inl (by rw[exX];exact hb),fun y c h=>?_,fun p hp=>?_⟩
  ·rw[lX];exact Nat.ne_of_lt (lt3 b hb)
  ·rw[oX];intro z;rcases List.mem_cons.mp (I3.stkSub b z) with q | q
   ·exact (f3 b hb).2.1 q
   ·exact (f3 b hb).2.2.1 q
  ·rw[eX] at h;exact (f3 b hb).2.2.2.2.1 y c (hcl y c h)
  ·rw[pnX] at hp;simp at hp
 have loop:∀ s':Shared,s'={ s3 with heap:=h1,toks:=s3.toks+([]:List (Str × Value)).length } ->
   codeAny (model X.prog X.w) X.A (.compLoop (.ListComp elt [⟨.Name x px,iter,ifs,0⟩] scope pos) 0 (.ref it) (.ref d) (compEnvC scope cl C X.env)) (compPost (model X.prog X.w) X.A X.xe use Qf (.ref d) C) s':=by
  rintro s' rfl
  refine qNU (fun n s'=>∃ i v H',Inv X' [] (σ++[v]) H' s'/\tn i s'.heap/\(∀ b∈fp,H' b=none)/\W i n H') ?_ m0 ⟨0,none,H3,I4,T.keep _ _ _ st3 fun b _ o e=>old b o e,fun b hb=>(f3 b hb).1,w0⟩
  rintro n s4 ⟨i,v4,H4,I4,st4,fr4,w4⟩
  rcases turn i n H4 w4 with⟨stop,qn⟩ | ⟨go,step⟩
  ·have td:=T.done X' pX wX kX cX i [] s4 _ H4 (notedBy (model X.prog X.w) X.A (compEnvC scope cl C X.env) fun e s'=>compPost (model X.prog X.w) X.A X.xe use Qf (.ref d) C (.error e) s') I4 (stat fr4) st4 stop;rw[aX] at td;refine thn td fun r s5 ⟨hr,I5⟩=>?_;subst hr;obtain ⟨m,hn,_⟩:=I5.loc;rw[lX] at hn;have fC:H4 C=none:=by rw[<- lX];exact I5.free
   have un:L2.Un (frs X.stack) fp H3 H4 s3.heap s5.heap:=by
    have:=I5.base
    rw[sX,hX0,oX,exX] at this;exact this
   have IX:Inv X pins σ H4 s5:=I3.call' (by have:=I5.os;rw[sX] at this;exact this) un (by have:=I5.hok;rw[pX,wX] at this;exact this) I5.bare fun b hb=>⟨(f3 b hb).2.2.2.1,(f3 b hb).2.1,(f3 b hb).2.2.2.2.1,(f3 b hb).2.2.2.2.2⟩;exact fin d C H4 s5 m IX hn (I3.fpOk (by rw[hC];exact Nat.le_refl _) fC) qn
  ·have ti:=T.item X' pX wX kX cX i [] s4 _ H4 (notedBy (model X.prog X.w) X.A (compEnvC scope cl C X.env) fun e s'=>compPost (model X.prog X.w) X.A X.xe use Qf (.ref d) C (.error e) s') I4 (stat fr4) st4 go;rw[aX] at ti;refine thn ti fun r s5 ⟨u,hr,h5⟩=>?_;subst hr;refine thn h5 fun _ s6 ⟨xv,H6,I6,r6,y6,st6,fr6⟩=>?_;have I6':=I6.pinned (stat fr6) (T.obj _ _ st6)
   have as:=wpAny_assign_Name (pos:=px) (wQ (M:=model X.prog X.w) (A:=X.A) (E:=notedBy (model X.prog X.w) X.A (compEnvC scope cl C X.env) fun e s'=>compPost (model X.prog X.w) X.A X.xe use Qf (.ref d) C (.error e) s') (Q:=fun _ s7=>Inv X' ([]++L2.pinsAt fp s6.heap) (σ++[some xv]) H6 s7) I6' ndX slot locX r6 (fun s7 I7=>by
    have e:(σ++[v4]).set σ.length (some xv)=σ++[some xv]:=by simp
    rw[e] at I7
    exact I7) (.inr (by rw[eX];exact lookup_relabel_local K.own)))
   rw[eX] at as;refine thn as fun _ s7 I7=>?_;have te:=qFA hT I7 (step xv H6 y6);rw[pX,wX,aX,xX,eX] at te;refine thn te fun ok s8 ⟨H8,I8,q8⟩=>?_
   have again:∀ {H9:Hp} {s9:Shared} {k:Nat},Inv X' ([]++L2.pinsAt fp s6.heap) (σ++[some xv]) H9 s9->W (i+1) k H9->∃ i v H',Inv X' [] (σ++[v]) H' s9/\tn i s9.heap/\(∀ b∈fp,H' b=none)/\W i k H':=fun {H9 s9 k} I9 w9=>by
    refine⟨i+1,some xv,H9,I9.unpinned,T.keep _ _ _ st6 fun b hb o e=>(I9.pin (b,o) (List.mem_append_right _ (List.mem_append_right _ (L2.mem_pinsAt hb e)))).1,fun b hb=>?_,w9⟩;obtain ⟨o,e,_⟩:=T.obj _ _ st6 b hb;exact (I9.pin (b,o) (List.mem_append_right _ (List.mem_append_right _ (L2.mem_pinsAt hb e)))).2.1
   cases ok with
   |false=>
    obtain ⟨m',hm,w9⟩:=q8
    exact⟨m',hm,again I8 w9⟩
   |true=>
    have ev:=hE _ s8 _ H8 _ I8 q8;rw[pX,wX,aX,xX,eX] at ev;refine thn ev fun y s9 ⟨yv,H9,I9,r9,ys,hd9,hz,m',hm,w9⟩=>?_;have ap:=L2.mt_append (X:=X') _ s9 _ H9 (.ref d) [yv] (.ref d) [y] (fun _ H'=>H'=upd H9 d (.lst (ys++[yv]))) I9 rfl (.cons r9 .nil) ⟨d,ys,yv,rfl,rfl,hd9,hz,rfl⟩;rw[pX,wX,aX,xX] at ap;refine thn ap fun z s10 ⟨_,H10,I10,_,e10⟩=>?_;subst e10
    exact⟨m',hm,again I10 w9⟩
 exact codeAny_compStart_list (loop _ rfl) (T.self _ 0 _ _ _ (T.keep _ _ _ st3 fun b _ o e=>old b o e) (loop _ rfl))
theorem qEO{C:Addr}{h':Heap}{H':Hp}{s':Shared}(I:Inv X pins σ H' s')(f:qP X pins H' C)(hs:Heap.SameBut C s'.heap h'):Inv X pins σ H' { s' with heap:=h' }:=
 I.turned (t':=s'.toks) (fun b o hb e=>hs.extBut b o hb e) f.1 f.2.1 f.2.2.2.1 f.2.2.2.2.1 f.2.2.2.2.2
theorem dS(K:CompOk X x scope)(nd:X.N.Nodup)(hc:X.calm=true)(hi:PI X (.Name x px) iter wi)(hfs:∀ x,foldedSetIterable iter X.env x=pure x)
  (hin:∀ cl C s3 H3 fp E,PE (cxC X x scope cl C s3 H3 fp E) elt te/\PTs (cxC X x scope cl C s3 H3 fp E) ifs tt):PE X (.ListComp elt [⟨.Name x px,iter,ifs,0⟩] scope pos) (yY X.K wi tt te):=by
 intro pins s σ H Q I h;rw[eval_ListComp];refine qCv (use:=none) K nd hc hi hfs hin I h fun d C H' s' m IX hn f q=>?_
 exact⟨m,hn,fun h' hs'=>⟨.ref d,H',qEO IX f hs',rfl,q⟩⟩
theorem qAv{y:Str}{i:Nat}{py spos:Pos}(K:CompOk X x scope)(nd:X.N.Nodup)(hc:X.calm=true)(hi:PI X (.Name x px) iter wi)(hfs:∀ x,foldedSetIterable iter X.env x=pure x)
  (hin:∀ cl C s3 H3 fp E,PE (cxC X x scope cl C s3 H3 fp E) elt te/\PTs (cxC X x scope cl C s3 H3 fp E) ifs tt) (hy:X.N[i]?=some y) (hk:X.env.scope.names.lookup y=some .local)
  (hsw:swapsWith (.ListComp elt [⟨.Name x px,iter,ifs,0⟩] scope pos) (some (.Name y py)) spos.line X.env=pure true) :
  PS X (.Assign [.Name y py] (.ListComp elt [⟨.Name x px,iter,ifs,0⟩] scope pos) spos) (fun D σ H=>yY X.K wi tt te σ H fun v H'=>D.nx (σ.set i (some v)) H'):=by
 intro pins s σ H D I h;rw[exec_Assign_Name_used _ _ _ _ hsw];refine wpAny_bind (wpAny_standAt (wpAny_bind ?_));show wpAny _ X.A (do let _ <- comprehension (.ListComp elt [⟨.Name x px,iter,ifs,0⟩] scope pos) scope X.env _ (newList []) false (eval iter X.env) (some (assign (.Name y py) X.env))) _ _ s;refine wpAny_bind (wpAny_mono (qCv (use:=some (assign (.Name y py) X.env)) (Qf:=fun _ s'=>L2.SP X pins D .next s') K nd hc hi hfs hin I h fun d C H' s' m IX hn f q=>?_) (fun _ s' hq=>wpAny_pure (wpAny_pure hq)) fun _ _ e=>e);obtain ⟨oC,es,ep,hC,hr⟩:=id hn;have dC:∀ v,oC.data≠.cell v:=fun v z=>by rw[hr.1] at z;cases z
 have IP:Inv X (pins++[(C,oC)]) σ H' s':=IX.pins_of fun p hp=>by
  rcases List.mem_append.mp hp with z | z
  ·exact IX.pin p (List.mem_append_right _ z)
  ·have e:p=(C,oC):=List.mem_singleton.mp z;subst e
   exact⟨hC,f.1,f.2.1,f.2.2.1,dC⟩
 show wpAny _ X.A (assign (.Name y py) X.env (.ref d)) _ _ _;refine wpAny_assign_Name (wQ IP nd hy (.inl hk) (v:=.ref d) rfl (fun s7 I7=>?_) (.inr hk));have k7:=(I7.pin (C,oC) (List.mem_append_right _ (List.mem_append_right _ (List.mem_singleton.mpr rfl)))).1
 exact⟨m,⟨oC,es,ep,k7,hr⟩,fun h' hs'=>⟨_,H',qEO I7.unpinned f hs',q⟩⟩
end
structure CompM (X:Cx) (N' xs:List Str) (scope:Scope):Prop where
 kind:scope.kind=.function
 nocell:∀ y∈scope.names,y.2≠.cell
 loc:∀ y∈scope.names,y.2=.local->scope.names.lookup y.1=some .local
 own:∀ x∈xs,scope.names.lookup x=some .local
 free:∀ y∈scope.names,y.2=.free->X.env.kindOf y.1=some .cell\/X.env.kindOf y.1=some .free
 len:N'.length=X.N.length
 nd:(N'++xs).Nodup
 get:∀ (i:Nat) (y:Str),N'[i]?=some y->(X.N[i]?=some y/\y∉xs)\/scope.names.lookup y=none
 others:∀ y,y∉xs->scope.names.lookup y=some .local->y∈X.N->False
section
variable {X:Cx}{N' xs:List Str}{scope:Scope}{cl:List (Str × Addr)}{pins:List (Addr × Obj)}{σ:L2.St}{H:Hp}{s:Shared}{fp:List Addr}
theorem CompM.vis(C:CompM X N' xs scope){y:Str}(hy:y∈X.N)(hne:y∉xs)(hv:L2.Vis (relabel scope X.env) y):(scope.names.lookup y=some .free)/\((relabel scope X.env).names.lookup y=some .cell\/(relabel scope X.env).names.lookup y=some .free):=by
 rcases hv with h | h | h
 ·rcases jZ h with z | ⟨_,z⟩
  ·exact (C.others y hne z hy).elim
  ·cases z
 ·rcases jZ h with z | ⟨z,_⟩
  ·exact absurd rfl (C.nocell _ (wC z))
  ·exact⟨z,.inl h⟩
 ·rcases jZ h with z | ⟨z,w⟩
  ·exact⟨z,.inr h⟩
  ·cases w
end
section
variable {X:Cx}{N' xs:List Str}{scope:Scope}{pins:List (Addr × Obj)}{σ:L2.St}{H:Hp}{s:Shared}{tg elt iter:Expr}{g:L2.TG}{ifs:List Expr}{pos p:Pos}{wi:TI}{tt:Option TT}{te:TE}{Q:VK}
end
def wN(K:PySem.W.Frag)(ρ:List Addr)(H:Hp):It->L2.It->Prop
 | .row xs,J=>(∀ (i:Nat) ρ' H',Step ρ H ρ' H'->i<xs.length->J.go i H')/\(∀ (i:Nat) ρ' H' x H'',Step ρ H ρ' H'->i<xs.length->J.yld i H' x H''->H''=H'/\∃ d,xs[i]?=some d/\RepV K ρ' H' d x)/\∀ (i:Nat) ρ' H',Step ρ H ρ' H'->i=xs.length->J.stop i H'
 | .live k,J=>∃ a,ρ[k]?=some a/\J=L2.Itl K a
 | .pairs xs,J=>(∀ (i:Nat) ρ' H',Step ρ H ρ' H'->i<xs.length->J.go i H')/\(∀ (i:Nat) ρ' H' x H'',Step ρ H ρ' H'->i<xs.length->J.yld i H' x H''->∃ p u,H' p=none/\H''=upd H' p u/\∃ d,xs[i]?=some d/\RepV K ρ' H'' d x)/\∀ (i:Nat) ρ' H',Step ρ H ρ' H'->i=xs.length->J.stop i H'
def tDI(K:PySem.W.Frag)(W:WX)(m:Env->M It):TI:=fun σ H R=>∃ ρ env h,RepS K ρ H env σ/\RepH K ρ h H/\Post K (W.at σ) (fun ρ' H' r=>∀ J,wN K ρ' H' r J->R J H') ρ H (m env h)
theorem PI.imp{X:Cx}{tg e:Expr}{t t':TI}(h:PI X tg e t)(i:∀ σ H R,t' σ H R->t σ H R):PI X tg e t':=fun pins s σ H R I q=>h pins s σ H R I (i σ H R q)
theorem qAk{K:PySem.W.Frag}{ρ:List Addr}{H:Hp}(lo:Int)(n:Nat):wN K ρ H (.row (vM lo n)) (L2.Itr lo n):=by
 have hl:(vM lo n).length=n:=by unfold vM;simp
 refine⟨fun i ρ' H' _ hi=>by rw[hl] at hi;exact hi,fun i ρ' H' x H'' _ hi y=>?_,fun i ρ' H' _ hi=>by rw[hl] at hi;exact Nat.le_of_eq hi.symm⟩;obtain ⟨rfl,rfl⟩:=y;rw[hl] at hi;refine⟨rfl,.int (lo+i),?_,rfl⟩;unfold vM;rw[List.getElem?_map,List.getElem?_range hi];rfl
theorem qGQ{K:PySem.W.Frag}{ρ:List Addr}{H:Hp}(x:Tx):wN K ρ H (.row (x.map fun c=>D.str [c])) (Its ⟨x.toArray⟩):=by
 have hl:(x.map fun c=>D.str [c]).length=x.toArray.size:=by simp
 refine⟨fun i ρ' H' _ hi=>by rw[hl] at hi;exact hi,fun i ρ' H' z H'' _ hi y=>?_,fun i ρ' H' _ hi=>by rw[hl] at hi;exact hi⟩;obtain ⟨rfl,c,hc,rfl⟩:=y;refine⟨rfl,.str [c],?_,rfl⟩;have hc:x.toArray[i]?=some c:=hc;rw[List.getElem?_map];rw[List.getElem?_toArray] at hc;rw[hc];rfl
theorem qGP{K:PySem.W.Frag}{ρ:List Addr}{H:Hp}{xs:List D}{vs:List V}{a:Addr}(ha:SqT K H a vs)(hx:RepL K ρ H xs vs):wN K ρ H (.row xs) (L2.Itt K a):=by
 have hl:=hx.length;refine⟨fun i ρ' H' e hi=>?_,fun i ρ' H' z H'' e hi y=>?_,fun i ρ' H' e hi=>⟨vs,e.sqt ha,by omega⟩⟩
 ·exact⟨vs,vs[i]'(by omega),e.sqt ha,by simp[show i<vs.length by omega]⟩
 ·obtain ⟨rfl,y⟩:=y;have q:xs[i]?=some xs[i]:=by simp[hi]
  obtain ⟨w,h1,h2⟩:=hx.get q;have y':=y vs (e.sqt ha);rw[h1] at y';cases y'
  exact⟨rfl,_,q,h2.mono e _ _⟩
section
variable {X:Cx}{F:Nat->List D->M D}{tg:Expr}{W:WX}
theorem qMo{e:Expr}{c:CE}(he:PE X e (tD X.K W (den F c))):PI X tg e (tDI X.K W (zU F (.of c))):=PI.imp (qGk he) fun σ H Rr t=>by
 obtain ⟨ρ,env,h,s,r,p⟩:=t;rw[zU] at p;refine⟨ρ,env,h,s,r,Post.bind p fun ρ1 h1 d H1 e1 r1 q v hv=>?_⟩;cases d with
 |str x=>cases hv;exact .inr (.inr ⟨_,rfl,Post.ret (a:=It.row (x.map fun c=>D.str [c])) q r1 _ (qGQ x)⟩)
 |tup xs=>obtain ⟨a,vs,rfl,k1,k2⟩:=hv;exact .inr (.inl ⟨a,rfl,⟨vs,k1⟩,Post.ret (a:=It.row xs) q r1 _ (qGP k1 k2)⟩)
 |ref i=>
  have q:Post X.K (W.at σ) _ ρ1 H1 (match qC h1 i with | some _=>R.ok (It.live i) h1 | none=>.bad):=q;cases z:qC h1 i with
  |none=>rw[z] at q;exact False.elim q
  |some xs=>rw[z] at q;obtain ⟨a,k1,rfl⟩:=hv;obtain ⟨b,vs,k2,k3,_⟩:=r1.list z;rw[k1] at k2;cases k2;exact .inl ⟨a,rfl,⟨vs,k3⟩,Post.ret (a:=It.live i) q r1 _ ⟨a,k1,rfl⟩⟩
 |_=>exact False.elim q
theorem qMn {a:Expr} {p1 p2:Pos} {c:CE} (hgl:L2.Gl X "range") (hm:X.mg "range"=none) (he:PE X a (tD X.K W (den F c))) (hst:starEach [a] X.env=[(false,eval a X.env)]) :
  PI X tg (.Call (.Name "range" p1) [a] [] p2) (tDI X.K W (zU F (.rng1 c))):=PI.imp (L2.pi_range1 hgl hm (L2.pa_cons he L2.pa_nil hst) hst) fun σ H R t=>by
 obtain ⟨ρ,env,h,s,r,p⟩:=t;rw[zU] at p;refine⟨ρ,env,h,s,r,Post.bind p fun ρ1 h1 d H1 e1 r1 q v hv=>?_⟩;cases d with
 |int j=>
  cases hv;obtain ⟨z,q⟩:=Post.when q
  exact⟨j,rfl,by have:=z.1;omega,by have:=z.2;omega,Post.ret q r1 _ (qAk 0 j.toNat)⟩
 |_=>exact False.elim q
theorem qMm {a b:Expr} {p1 p2:Pos} {c c':CE} (hgl:L2.Gl X "range") (hm:X.mg "range"=none) (he:PE X a (tD X.K W (den F c))) (he':PE X b (tD X.K W (den F c'))) (hst:starEach [a,b] X.env=[(false,eval a X.env),(false,eval b X.env)]) (hst2:starEach [b] X.env=[(false,eval b X.env)]) :
  PI X tg (.Call (.Name "range" p1) [a,b] [] p2) (tDI X.K W (zU F (.rng2 c c'))):=PI.imp (L2.pi_range2 hgl hm (L2.pa_cons he (L2.pa_cons he' L2.pa_nil hst2) (by rw[hst,hst2])) hst hst2) fun σ H R t=>by
 obtain ⟨ρ,env,h,s,r,p⟩:=t;rw[zU] at p;refine⟨ρ,env,h,s,r,Post.bind p fun ρ1 h1 d H1 e1 r1 q v hv=>?_⟩;refine⟨ρ1,env,h1,s.mono e1,r1,Post.bind q fun ρ2 h2 d2 H2 e2 r2 q2 w hw=>?_⟩;have hv:=hv.mono e2 _ _;cases d with
 |int i=>
  cases d2 with
  |int j=>
   cases hv;cases hw;obtain ⟨z,q⟩:=Post.when q2
   exact⟨i,j,rfl,⟨by have:=z.1.1;omega,by have:=z.1.2;omega,by have:=z.2.1;omega,by have:=z.2.2;omega⟩,Post.ret q r2 _ (qAk i _)⟩
  |_=>exact False.elim q2
 |_=>exact False.elim q2
def tJ(lo c:Int)(n:Nat):L2.It:=⟨fun i _=>i<n,fun i H x H'=>H'=H/\x=.int (lo+i*c),fun i _=>n<=i⟩
theorem qGR{K:PySem.W.Frag}{ρ:List Addr}{H:Hp}(lo c:Int)(n:Nat):wN K ρ H (.row (wS lo c n)) (tJ lo c n):=by
 have hl:(wS lo c n).length=n:=by unfold wS;simp
 refine⟨fun i ρ' H' _ hi=>by rw[hl] at hi;exact hi,fun i ρ' H' x H'' _ hi y=>?_,fun i ρ' H' _ hi=>by rw[hl] at hi;exact Nat.le_of_eq hi.symm⟩;obtain ⟨rfl,rfl⟩:=y;rw[hl] at hi;refine⟨rfl,.int (lo+i*c),?_,rfl⟩;unfold wS;rw[List.getElem?_map,List.getElem?_range hi];rfl
theorem qEy{P:Program}{w:World}{K:PySem.W.Frag}{tg:Expr}(it:Addr)(lo c:Int)(n:Nat):Turn P w K tg (tJ lo c n) [it] it (fun i h=>IsRangeIter h it (lo+(i:Nat)*c) ((n:Int)-(i:Nat)) c) where
 mem:=by simp
 obj:=fun i h st b hb=>by
  have e:b=it:=by simpa using hb
  subst e
  exact⟨_,st,fun v z=>by
   have z':Data.fields _=Data.cell v:=z
   cases z'⟩
 keep:=fun i h h' st k=>k it (by simp) _ st
 item:=by
  intro X hP hw hK hc i pins s σ H E I hf st hg;subst hP hw hK;obtain ⟨f0,f1,f2,f3,f4,f5⟩:=hf it (by simp);have W:=Walks.range (prog:=X.prog) (w:=X.w) (I.ok.hd hc) it lo c n;refine W.item i s _ _ hg st fun v h' tk hv st' kk=>?_;obtain ⟨t,rfl⟩:=hv;have I1:Inv X pins σ H { s with heap:=h',toks:=tk }:=I.turned (fun b o hb e=>kk b o (by simpa using hb) e) f0 f1 f3 f4 f5
  exact⟨_,rfl,L2.go_of (s:={ s with heap:=h',toks:=tk }) (n:="range_iterator") st' rfl rfl (by decide) ⟨.int (lo+i*c),H,I1,⟨t,rfl⟩,⟨rfl,rfl⟩,st',fun b hb=>(hf b hb).1⟩⟩
 done:=by
  intro X hP hw hK hc i pins s σ H E I hf st hg;subst hP hw hK;obtain ⟨f0,f1,f2,f3,f4,f5⟩:=hf it (by simp);exact wpAny_pyNext_range_end (I.ok.hd hc) st (by have:n<=i:=hg;omega) fun h' eb=>⟨rfl,I.turned (t':=s.toks) (fun b o hb e=>eb b o hb e) f0 f1 f3 f4 f5⟩
 self:=fun _ _ _ _ _ st h=>wpAny_pyIter_rangeiter st h
theorem qBN{i j k:Int}(hk:0<k):Builtin.Range.rangeSize i j k=(nS i j k:Nat)/\(i<j->(nS i j k:Int)<=j-i):=by
 unfold Builtin.Range.rangeSize nS;rw[if_pos hk]
 by_cases h:i<j
 ·rw[if_pos h,if_pos h];have h1:0<=(j-i-1) / k:=Int.ediv_nonneg (by omega) (by omega);have h2:(j-i-1) / k<=j-i-1:=Int.ediv_le_self _ (by omega)
  exact⟨by omega,fun _=>by omega⟩
 ·rw[if_neg h,if_neg h]
  exact⟨rfl,fun z=>absurd z h⟩
theorem qFl{i j k:Int}(h1:zI i)(h2:zI j)(hk:0<k)(hk':k<1073741824):Builtin.Range.small i j k=true:=by
 unfold Builtin.Range.small;obtain ⟨e,hle⟩:=qBN (i:=i) (j:=j) hk;obtain ⟨a1,a2⟩:=h1;obtain ⟨b1,b2⟩:=h2
 have hz:(nS i j k:Int)<9223372036854775808:=by
  by_cases h:i<j
  ·have:=hle h;omega
  ·have:nS i j k=0:=if_neg h
   omega
 rw[e];simp only[Builtin.Range.rangeFitsLong,Bool.and_eq_true,Bool.or_eq_true,decide_eq_true_eq,beq_iff_eq,if_pos hk];refine⟨⟨⟨⟨⟨by omega,by omega⟩,by omega,by omega⟩,by omega,by omega⟩,by omega,by omega⟩,.inr ⟨by omega,by omega⟩⟩
theorem qMl {a b d:Expr} {p1 p2:Pos} {c c' c'':CE} (hgl:L2.Gl X "range") (hm:X.mg "range"=none) (he:PE X a (tD X.K W (den F c))) (he':PE X b (tD X.K W (den F c'))) (he'':PE X d (tD X.K W (den F c''))) (hst:starEach [a,b,d] X.env=[(false,eval a X.env),(false,eval b X.env),(false,eval d X.env)]) (hst2:starEach [b,d] X.env=[(false,eval b X.env),(false,eval d X.env)]) (hst3:starEach [d] X.env=[(false,eval d X.env)]) :
  PI X tg (.Call (.Name "range" p1) [a,b,d] [] p2) (tDI X.K W (zU F (.rng3 c c' c''))):=by
 intro pins s0 σ H R I t;have ha:=L2.pa_cons he (L2.pa_cons he' (L2.pa_cons he'' L2.pa_nil hst3) (by rw[hst2,hst3])) (by rw[hst,hst2]);obtain ⟨ρ,env,h,s,r,p⟩:=t;rw[zU] at p;refine Call_ (L2.ld_blt I hgl hm boot_range (PyProof.Rows.callWith_type1 (thn (ha p2 pins s0 σ H (fun vs H1=>∃ i j k:Int,vs=[.int i,.int j,.int k]/\(zI i/\zI j)/\(0<k/\k<1073741824)/\R (tJ i k (nS i j k)) H1) I ?_) fun us s1 ⟨vs,H1,I1,r1,q1⟩=>?_) (by rw[hst,hst2]) (by rw[hst2];rfl)))
 ·refine⟨ρ,env,h,s,r,Post.bind p fun ρ1 h1 d1 H1 e1 r1 q v hv=>?_⟩;refine⟨ρ1,env,h1,s.mono e1,r1,Post.bind q fun ρ2 h2 d2 H2 e2 r2 q2 w hw=>?_⟩;refine⟨ρ2,env,h2,(s.mono e1).mono e2,r2,Post.bind q2 fun ρ3 h3 d3 H3 e3 r3 q3 z hz=>?_⟩;have hv:=(hv.mono e2 _ _).mono e3 _ _;have hw:=hw.mono e3 _ _;cases d1 with
  |int i=>
   cases d2 with
   |int j=>
    cases d3 with
    |int k=>
     cases hv;cases hw;cases hz;obtain ⟨z,q⟩:=Post.when q3
     exact⟨i,j,k,rfl,z.1,z.2,Post.ret q r3 _ (qGR i k _)⟩
    |_=>exact False.elim q3
   |_=>exact False.elim q3
  |_=>exact False.elim q3
 ·obtain ⟨i,j,k,e,z1,z2,q⟩:=q1;subst e;cases r1 with
  |cons ra rr=>
   cases rr with
   |cons rb rr=>
    cases rr with
    |cons rc rr=>
     cases rr;obtain ⟨ta,rfl⟩:=ra;obtain ⟨tb,rfl⟩:=rb;obtain ⟨tc,rfl⟩:=rc;refine call_range_3 (by omega) ?_ (Or.inl (PyProof.noPylong_small (by omega)));refine wpAny_pyIter_range (IsRange.new ..) (qFl z1.1 z1.2 z2.1 z2.2) ?_;have I2:Inv X pins σ H1 { s1 with heap:=s1.heap.push { cls:=.type "range",data:=.fields #[.int i ta,.int j tb,.int k tc] },toks:=s1.toks }:=I1.kept fun b o e=>Heap.get?_push_of_some _ e
     refine⟨(s1.heap.push { cls:=.type "range",data:=.fields #[.int i ta,.int j tb,.int k tc] }).objs.size,[(s1.heap.push { cls:=.type "range",data:=.fields #[.int i ta,.int j tb,.int k tc] }).objs.size],_,_,H1,rfl,
      I2.kept (t':=s1.toks) fun b o e=>Heap.get?_push_of_some _ e,qEy _ i k (nS i j k),?_,fun b hb=>?_,q⟩
     ·have e1:i+((0:Nat):Int)*k=i:=by simp
      have e2:((nS i j k:Nat):Int)-((0:Nat):Int)=Builtin.Range.rangeSize i j k:=by rw[(qBN z2.1).1];simp
      show IsRangeIter _ _ (i+((0:Nat):Int)*k) (((nS i j k:Nat):Int)-((0:Nat):Int)) k;rw[e1,e2];exact Heap.get?_push_size _ rfl
     ·have e:b=(s1.heap.push { cls:=.type "range",data:=.fields #[.int i ta,.int j tb,.int k tc] }).objs.size:=by simpa using hb
      subst e;exact I2.fpOk (Nat.le_refl _) (I2.hok.fresh (Nat.le_refl _))
end
def del(H:Hp)(d:Addr):Hp:=fun b=>if b=d then none else H b
theorem vT{H:Hp}{d:Addr}:del H d d=none:=if_pos rfl
theorem vI{H:Hp}{d b:Addr}(h:b≠d):del H d b=H b:=if_neg h
theorem kT{H:Hp}{d:Addr}{o:HO}:del (upd H d o) d=del H d:=by
 funext b
 by_cases h:b=d
 ·rw[h,vT,vT]
 ·rw[vI h,vI h,qG h]
theorem cP{H:Hp}{d:Addr}{o:HO}(h:H d=some o):upd (del H d) d o=H:=by
 funext b
 by_cases hb:b=d
 ·rw[hb,qI,h]
 ·rw[qG hb,vI hb]
theorem yP{H:Hp}{d:Addr}(h:H d=none):del H d=H:=by
 funext b
 by_cases hb:b=d
 ·rw[hb,vT,h]
 ·rw[vI hb]
section
variable {K:PySem.W.Frag}{ρ:List Addr}{H:Hp}{d:Addr}{ys:List V}
theorem qAI(hd:H d=some (.lst ys)){a:Addr}{vs:List V}(h:SqT K H a vs):SqT K (del H d) a vs:=by
 rcases h with (h | ⟨o,h⟩) | h
 ·exact .inl (.inl (by rw[vI (by rintro rfl;rw[hd] at h;cases h)];exact h))
 ·exact .inl (.inr ⟨o,by rw[vI (by rintro rfl;rw[hd] at h;cases h)];exact h⟩)
 ·exact .inr h
mutual
theorem RepV.sq{H':Hp}(hs:∀ b us,SqT K H b us->SqT K H' b us):∀ (x:D) (v:V),RepV K ρ H x v->RepV K ρ H' x v
 | .non,_,h=>h
 | .bl _,_,h=>h
 | .int _,_,h=>h
 | .str _,_,h=>h
 | .tup xs,v,⟨a,vs,h1,h2,h3⟩=>⟨a,vs,h1,hs _ _ h2,RepL.sq hs xs vs h3⟩
 | .ref _,_,h=>h
theorem RepL.sq{H':Hp}(hs:∀ b us,SqT K H b us->SqT K H' b us):∀ (xs:List D) (vs:List V),RepL K ρ H xs vs->RepL K ρ H' xs vs
 | [],_,h=>h
 |x::xs,_,⟨v,r,h1,h2,h3⟩=>⟨v,r,h1,RepV.sq hs x v h2,RepL.sq hs xs r h3⟩
end
theorem RepF.sq{H':Hp}(hs:∀ b us,SqT K H b us->SqT K H' b us){C:Addr}:∀ (xs:List (Nat × D)) (vs:List (Str × V)),RepF K ρ H C xs vs->RepF K ρ H' C xs vs
 | [],_,h=>h
 |x::xs,_,⟨v,r,h1,hb,hn,h2,h3⟩=>⟨v,r,h1,hb,hn,RepV.sq hs _ v h2,RepF.sq hs xs r h3⟩
theorem RepK.sq{H':Hp}(hs:∀ b us,SqT K H b us->SqT K H' b us):∀ (xs:List (Ky × D)) (vs:List (L2.Key × V)),RepK K ρ H xs vs->RepK K ρ H' xs vs
 | [],_,h=>h
 |x::xs,_,⟨v,r,h1,h2,h3⟩=>⟨v,r,h1,RepV.sq hs _ v h2,RepK.sq hs xs r h3⟩
theorem RepO.sq{H':Hp}(hs:∀ b us,SqT K H b us->SqT K H' b us){o:O}{a:Addr}(na:H' a=H a)(h2:RepO K ρ H o a):RepO K ρ H' o a:=by
 cases o with
 |lst xs=>
  obtain ⟨vs,k1,k2⟩:=h2
  exact⟨vs,by rw[na];exact k1,k2.sq hs _ _⟩
 |rol xs=>
  obtain ⟨vs,k1,k2⟩:=h2;refine⟨vs,?_,k2.sq hs _ _⟩;rcases k1 with⟨ob,k1⟩ | k1
  ·exact .inl ⟨ob,by rw[na];exact k1⟩
  ·exact .inr k1
 |ins c fs=>
  obtain ⟨C,dx,vs,k1,kc,k2,k3⟩:=h2
  exact⟨C,dx,vs,k1,kc,by rw[na];exact k2,k3.sq hs _ _⟩
 |dct kvs=>
  obtain ⟨vs,k1,k2⟩:=h2
  exact⟨vs,by rw[na];exact k1,k2.sq hs _ _⟩
 |xc c=>
  obtain ⟨C,k1,k2⟩:=h2
  exact⟨C,k1,by rw[na];exact k2⟩
 |rod kvs=>
  obtain ⟨ob,vs,k1,k2⟩:=h2
  exact⟨ob,vs,by rw[na];exact k1,k2.sq hs _ _⟩
theorem RepV.del(hd:H d=some (.lst ys))(x:D)(v:V)(h:RepV K ρ H x v):RepV K ρ (del H d) x v:=RepV.sq (fun _ _=>qAI hd) x v h
theorem RepH.del{h:AH}(r:RepH K ρ h H)(hd:H d=some (.lst ys))(hn:d∉ρ):RepH K ρ h (del H d):=by
 refine⟨r.len,fun i o hi=>?_,r.inj⟩;obtain ⟨a,h1,h2⟩:=r.obj i o hi
 exact⟨a,h1,h2.sq (fun _ _=>qAI hd) (vI (by
  rintro rfl
  exact hn (List.mem_of_getElem? h1)))⟩
theorem RepH.not{h:AH}(r:RepH K ρ h H)(hd:H d=none)(hK:K.lookup d=none):d∉ρ:=fun z=>by
 obtain ⟨k,hk⟩:=List.getElem?_of_mem z;have hlt:=(List.getElem?_eq_some_iff.mp hk).1;obtain ⟨a,h2,h3⟩:=r.obj k _ (List.getElem?_eq_getElem (by rw[<- r.len];exact hlt));rw[hk] at h2;cases h2;generalize h[k]'(by rw[<- r.len];exact hlt)=o at h3;cases o with
 |lst xs=>obtain ⟨vs,z1,_⟩:=h3;rw[hd] at z1;cases z1
 |rol xs=>
  obtain ⟨vs,z1,_⟩:=h3;rcases z1 with⟨ob,z1⟩ | ⟨ob,its,n,z1,_⟩
  ·rw[hd] at z1;cases z1
  ·rw[hK] at z1;cases z1
 |ins c fs=>obtain ⟨C,dx,vs,_,_,z1,_⟩:=h3;rw[hd] at z1;cases z1
 |dct kvs=>obtain ⟨vs,z1,_⟩:=h3;rw[hd] at z1;cases z1
 |xc c=>obtain ⟨C,_,z1⟩:=h3;rw[hd] at z1;cases z1
 |rod kvs=>obtain ⟨ob,vs,z1,_⟩:=h3;rw[hd] at z1;cases z1
theorem Step.del{ρ':List Addr}{H':Hp}(e:Step ρ H ρ' H')(hn:d∉ρ)(hd:H d=some (.lst ys)):Step ρ (del H d) ρ' (del H' d)/\d∉ρ'/\H' d=some (.lst ys):=by
 refine⟨⟨e.pre,fun a ha=>?_,fun a o h c=>?_⟩,fun z=>?_,e.keep _ _ hd (.inr hn)⟩
 ·rcases e.new a ha with z | z
  ·exact .inl z
  ·refine .inr ?_
   by_cases q:a=d
   ·rw[q];exact vT
   ·rw[vI q];exact z
 ·have na:a≠d:=by
   rintro rfl
   rw[vT] at h;cases h
  rw[vI na] at h ⊢;exact e.keep a o h c
 ·rcases e.new d z with q | q
  ·exact hn q
  ·rw[hd] at q;cases q
end
theorem qAj{α β:Type}(a:α)(f:α->M β):M.bind (M.ret a) f=f a:=rfl
theorem qI8(f:D->M (Option D))(x:D)(r acc:List D):(M.bind (zC f (x::r)) fun rest=>newL (acc++rest))=M.bind (f x) fun y=>M.bind (zC f r) fun rest=>newL ((acc++y.toList)++rest):=by
 rw[zC,jR];congr 1;funext y;rw[jR];congr 1;funext ys;rw[qAj];cases y <;> simp
section
variable {K:PySem.W.Frag}{F:Nat->List D->M D}{Q:VK}{w:W1}{W:WX}
structure Mid (K:PySem.W.Frag) (ρ1:List Addr) (H1:Hp) (d:Addr) (ρ:List Addr) (h:AH) (acc:List D) (ys:List V) (H:Hp):Prop where
 st:Step ρ1 H1 ρ (del H d)
 nd:d∉ρ
 at':H d=some (.lst ys)
 rh:RepH K ρ h (del H d)
 rl:RepL K ρ (del H d) acc ys
theorem Mid.up{ρ1 ρ:List Addr}{H1 H:Hp}{d:Addr}{h:AH}{acc:List D}{ys:List V}(G0:Mid K ρ1 H1 d ρ h acc ys H):Step ρ (del H d) ρ H:=by
 have:=Step.fresh (ρ:=ρ) (H:=del H d) (p:=d) (o:=.lst ys) vT
 rw[cP G0.at'] at this;exact this
theorem Mid.rh'{ρ1 ρ:List Addr}{H1 H:Hp}{d:Addr}{h:AH}{acc:List D}{ys:List V}(G0:Mid K ρ1 H1 d ρ h acc ys H):RepH K ρ h H:=by
 have:=G0.rh.fresh (p:=d) (o:=.lst ys) vT
 rw[cP G0.at'] at this;exact this
theorem Mid.go{ρ1 ρ ρ2:List Addr}{H1 H H2:Hp}{d:Addr}{h h2:AH}{acc:List D}{ys:List V}(G0:Mid K ρ1 H1 d ρ h acc ys H)(e:Step ρ H ρ2 H2)(r:RepH K ρ2 h2 H2):Step ρ (del H d) ρ2 (del H2 d)/\Mid K ρ1 H1 d ρ2 h2 acc ys H2:=by
 obtain ⟨e1,e2,e3⟩:=e.del G0.nd G0.at'
 exact⟨e1,G0.st.trans e1,e2,e3,r.del e3 e2,G0.rl.mono e1 _ _⟩
theorem Mid.add{ρ1 ρ:List Addr}{H1 H:Hp}{d:Addr}{h:AH}{acc:List D}{ys:List V}{y:D}{v:V}(G0:Mid K ρ1 H1 d ρ h acc ys H)(hv:RepV K ρ H y v):Mid K ρ1 H1 d ρ h (acc++[y]) (ys++[v]) (upd H d (.lst (ys++[v]))):=by
 refine⟨by rw[kT];exact G0.st,G0.nd,qI,by rw[kT];exact G0.rh,?_⟩;rw[kT];exact G0.rl.append ⟨v,[],rfl,hv.del G0.at' _ _,rfl⟩
theorem qCl{ρ1 ρ:List Addr}{H1 H:Hp}{d:Addr}{h:AH}{acc:List D}{ys:List V}{m:Env->M D}{rest:List D->M D}{env:Env}{σ:L2.St}{W:Hp->Prop}(G0:Mid K ρ1 H1 d ρ h acc ys H)(s:RepS K ρ H env σ)(hz:acc.length<16777216)
  (p:PostV K w Q ρ (del H d) (M.bind (m env).calm (fun y=>rest (acc++[y])) h))
  (hW:∀ ρ' h' acc' ys' H',Mid K ρ1 H1 d ρ' h' acc' ys' H'->acc'.length=acc.length+1->PostV K w Q ρ' (del H' d) (rest acc' h')->W H') :
  tD K WF m σ H fun v H3=>∃ ys,H3 d=some (.lst ys)/\ys.length<sizeLine/\W (upd H3 d (.lst (ys++[v]))):=by
 refine⟨ρ,env,h,s,G0.rh',?_⟩;unfold M.bind M.calm at p;cases q:m env h with
 |ok y h2=>rw[q] at p;intro ρ2 H2 e2 r2 v hv;obtain ⟨e3,M2⟩:=G0.go e2 r2;refine⟨ys,M2.at',by rw[G0.rl.length,zK];exact hz,hW ρ2 h2 _ _ _ (M2.add hv) (by simp) ?_⟩;rw[kT];exact Post.mono p e3
 |exc c h2=>rw[q] at p;exact False.elim p
 |bad=>rw[q] at p;exact p
def gD(K:PySem.W.Frag)(f:Env->D->M (Option D))(tt:Option TT)(te:TE):Prop:=
 ∀ (w:W1) (Q:VK) (ρ1 ρ:List Addr) (H1 H:Hp) (d:Addr) (h:AH) (acc:List D) (ys:List V) (rest:List D->M D) (env:Env) (σ:L2.St) (W:Hp->Prop) (x:D) (xv:V),Mid K ρ1 H1 d ρ h acc ys H->RepS K ρ H env σ->RepV K ρ H x xv->acc.length<16777216 ->
  PostV K w Q ρ (del H d) (M.bind (f env x) (fun y=>rest (acc++y.toList)) h) ->
  (∀ ρ' h' acc' ys' H',Mid K ρ1 H1 d ρ' h' acc' ys' H'->acc'.length<=acc.length+1->PostV K w Q ρ' (del H' d) (rest acc' h')->W H') ->
  gS tt (σ++[some xv]) H fun b H2=>if b=true then te (σ++[some xv]) H2 fun v H3=>∃ ys,H3 d=some (.lst ys)/\ys.length<sizeLine/\W (upd H3 d (.lst (ys++[v]))) else W H2
theorem RepS.snoc{ρ:List Addr}{H:Hp}{env:Env}{σ:L2.St}{x:D}{xv:V}(s:RepS K ρ H env σ)(hx:RepV K ρ H x xv):RepS K ρ H (env++[some x]) (σ++[some xv]):=by
 refine⟨by simp[s.1],fun i e hi=>?_⟩
 by_cases hlt:i<env.length
 ·rw[List.getElem?_append_left hlt] at hi;rw[List.getElem?_append_left (by rw[<- s.1];exact hlt)];exact s.2 i e hi
 ·rw[List.getElem?_append_right (Nat.le_of_not_lt hlt)] at hi;rw[List.getElem?_append_right (by rw[<- s.1];exact Nat.le_of_not_lt hlt),<- s.1];cases q:i-env.length with
  |zero=>
   rw[q] at hi;cases hi
   exact⟨xv,rfl,hx⟩
  |succ n=>rw[q] at hi;simp at hi
theorem tT(m:Env->M D):gD K (fun env x=>zY m env x) none (tD K WF m):=by
 intro w Q ρ1 ρ H1 H d h acc ys rest env σ W x xv G0 s hx hz p hW;refine L2.iteT (B:=W H) (qCl (rest:=rest) G0 (s.snoc hx) hz ?_ fun ρ' h' acc' ys' H' M' hl p'=>hW ρ' h' acc' ys' H' M' (Nat.le_of_eq hl) p')
 have e:(M.bind (zY m env x) fun y=>rest (acc++y.toList))=M.bind (m (env++[some x])).calm fun y=>rest (acc++[y]):=by
  unfold zY;rw[jR];rfl
 rw[e] at p;exact p
theorem cU(m:Env->M D)(c:Env->M Bool):gD K (fun env x=>jJ m c env x) (some (tDT K WF c)) (tD K WF m):=by
 intro w Q ρ1 ρ H1 H d h acc ys rest env σ W x xv G0 s hx hz p hW;have p:PostV K w Q ρ (del H d) (M.bind (M.bind (c (env++[some x])).calm fun k=>if k then M.bind (m (env++[some x])).calm (fun y=>M.ret (some y)) else M.ret none) (fun y=>rest (acc++y.toList)) h):=p;rw[jR] at p;refine⟨ρ,env++[some x],h,s.snoc hx,G0.rh',?_⟩;unfold M.bind M.calm at p;cases q:c (env++[some x]) h with
 |ok k h2=>
  rw[q] at p;intro ρ2 H2 e2 r2;obtain ⟨e3,M2⟩:=G0.go e2 r2;have p:=Post.mono p e3;cases k with
  |true=>
   refine L2.iteT (qCl (rest:=rest) M2 ((s.snoc hx).mono e2) hz ?_ fun ρ' h' acc' ys' H' M' hl p'=>hW ρ' h' acc' ys' H' M' (Nat.le_of_eq hl) p')
   have e:(M.bind (M.bind (m (env++[some x])).calm fun y=>M.ret (some y)) fun y=>rest (acc++y.toList))=M.bind (m (env++[some x])).calm fun y=>rest (acc++[y]):=by
    rw[jR];rfl
   have p':PostV K w Q ρ2 (del H2 d) (M.bind (M.bind (m (env++[some x])).calm fun y=>M.ret (some y)) (fun y=>rest (acc++y.toList)) h2):=p;rw[e] at p';exact p'
  |false=>refine L2.iteF (hW ρ2 h2 acc ys H2 M2 (Nat.le_succ _) ?_);have p':PostV K w Q ρ2 (del H2 d) (rest (acc++[]) h2):=p;rw[List.append_nil] at p';exact p'
 |exc _ h2=>rw[q] at p;exact False.elim p
 |bad=>rw[q] at p;exact p
theorem Mid.fin{ρ1 ρ':List Addr}{H1 H':Hp}{d:Addr}{h':AH}{acc:List D}{ys:List V}(G0:Mid K ρ1 H1 d ρ' h' acc ys H')(p:PostV K w Q ρ' (del H' d) (newL (acc++[]) h')):Q (.ref d) H':=by
 rw[List.append_nil] at p;have q:=(PostV.newL p G0.rh G0.rl).2 d vT;rw[cP G0.at'] at q;exact q
theorem qCu{f:Env->D->M (Option D)}{tt:Option TT}{te:TE}(ht:gD K f tt te){σ:L2.St}{env:Env}{ρ1:List Addr}{h1:AH}{H1:Hp}{xs:List D}{J:L2.It}{d:Addr}(s1:RepS K ρ1 H1 env σ)(r1:RepH K ρ1 h1 H1)(hJ:wN K ρ1 H1 (.row xs) J)(hz:xs.length<16777216)(q:PostV K w Q ρ1 H1 (M.bind (zC (f env) xs) newL h1))(hd:H1 d=none)(hK:K.lookup d=none) :
  ∃ W:Nat->Nat->Hp->Prop,(∃ m,W 0 m (upd H1 d (.lst [])))/\∀ i m H,W i m H ->
   (J.stop i H/\Q (.ref d) H)\/(J.go i H/\∀ x H',J.yld i H x H'->gS tt (σ++[some x]) H' fun b H2=>if b=true then te (σ++[some x]) H2 fun y H3=>∃ ys,H3 d=some (.lst ys)/\ys.length<sizeLine/\∃ m',m'<m/\W (i+1) m' (upd H3 d (.lst (ys++[y]))) else ∃ m',m'<m/\W (i+1) m' H2):=by
 have M0:Mid K ρ1 H1 d ρ1 h1 [] [] (upd H1 d (.lst [])):=⟨by rw[kT,yP hd];exact Step.refl _ _,r1.not hd hK,qI,by rw[kT,yP hd];exact r1,rfl⟩;obtain ⟨go,yl,sp⟩:=hJ;have q:PostV K w Q ρ1 H1 (M.bind (zC (f env) xs) (fun rest=>newL ([]++rest)) h1):=q;refine⟨fun i m H'=>m=xs.length-i/\i<=xs.length/\∃ ρ' h' acc ys,Mid K ρ1 H1 d ρ' h' acc ys H'/\acc.length<=i/\PostV K w Q ρ' (del H' d) (M.bind (zC (f env) (xs.drop i)) (fun rest=>newL (acc++rest)) h'),⟨_,rfl,Nat.zero_le _,ρ1,h1,[],[],M0,Nat.le_refl _,by rw[kT,yP hd];exact q⟩,?_⟩
 rintro i m H' ⟨rfl,hi,ρ',h',acc,ys,G0,ha,p'⟩
 have up:Step ρ1 H1 ρ' H':=G0.st.trans G0.up
 by_cases hlt:i<xs.length
 ·refine .inr ⟨go i ρ' H' up hlt,fun x H'' y=>?_⟩;obtain ⟨rfl,dx,hdx,hv⟩:=yl i ρ' H' x H'' up hlt y;rw[List.drop_eq_getElem_cons hlt] at p'
  have ed:xs[i]=dx:=by
   rw[List.getElem?_eq_getElem hlt] at hdx;exact Option.some.inj hdx
  rw[ed,qI8] at p'
  exact ht _ Q ρ1 ρ' H1 H'' d h' acc ys (fun a=>M.bind (zC (f env) (xs.drop (i+1))) fun rest=>newL (a++rest)) env σ (fun H3=>∃ m',m'<xs.length-i/\m'=xs.length-(i+1)/\i+1<=xs.length/\∃ ρ' h' acc ys,Mid K ρ1 H1 d ρ' h' acc ys H3/\acc.length<=i+1/\PostV K w Q ρ' (del H3 d) (M.bind (zC (f env) (xs.drop (i+1))) (fun rest=>newL (acc++rest)) h')) dx x G0 (s1.mono up) hv (by omega) p'
   fun ρ2 h2 acc2 ys2 H2 M2 hl2 p2=>⟨xs.length-(i+1),by omega,rfl,hlt,ρ2,h2,acc2,ys2,M2,by omega,p2⟩
 ·have e:i=xs.length:=by omega
  subst e;rw[List.drop_length] at p';exact .inl ⟨sp _ ρ' H' up rfl,G0.fin p'⟩
theorem bD{f:Env->D->M (Option D)}{tt:Option TT}{te:TE}{mi:Env->M It}(ht:gD K f tt te){σ:L2.St}{H:Hp}(t:tD K W (fun env=>M.bind (mi env) fun r=>M.bind (wW (f env) r) newL) σ H Q):yY K (tDI K W mi) tt te σ H Q:=by
 obtain ⟨ρ,env,h,s,r,p⟩:=t;refine⟨ρ,env,h,s,r,Post.bind p fun ρ1 h1 it H1 e1 r1 q J hJ d hd hK=>?_⟩;have s1:=s.mono e1;have nd:d∉ρ1:=r1.not hd hK;cases it with
 |row xs=>
  have q:PostV K (W.at σ) Q ρ1 H1 (M.bind (M.when (xs.length<16777216) (zC (f env) xs)) newL h1):=q
  have hz:xs.length<16777216:=by
   unfold M.bind M.when at q
   by_cases z:xs.length<16777216
   ·exact z
   ·rw[if_neg z] at q;exact False.elim q
  have q:PostV K (W.at σ) Q ρ1 H1 (M.bind (zC (f env) xs) newL h1):=by
   unfold M.bind M.when at q;rw[if_pos hz] at q;exact q
  exact qCu ht s1 r1 hJ hz q hd hK
 |pairs xs=>exact (show False from q).elim
 |live k=>
  obtain ⟨a,ha,rfl⟩:=hJ;have M0:Mid K ρ1 H1 d ρ1 h1 [] [] (upd H1 d (.lst [])):=⟨by rw[kT,yP hd];exact Step.refl _ _,nd,qI,by rw[kT,yP hd];exact r1,rfl⟩;have q:PostV K (W.at σ) Q ρ1 H1 (M.bind (M.when (zP h1 k<16777216) (zO (f env) k (zP h1 k) 0)) newL h1):=q
  have hz:zP h1 k<16777216:=by
   unfold M.bind M.when at q
   by_cases z:zP h1 k<16777216
   ·exact z
   ·rw[if_neg z] at q;exact False.elim q
  have q:PostV K (W.at σ) Q ρ1 H1 (M.bind (zO (f env) k (zP h1 k) 0) (fun rest=>newL ([]++rest)) h1):=by
   unfold M.bind M.when at q;rw[if_pos hz] at q;exact q
  generalize zP h1 k=n at hz q;refine⟨fun i m H'=>m+i=n/\∃ ρ' h' acc ys,Mid K ρ1 H1 d ρ' h' acc ys H'/\acc.length<=i/\PostV K (W.at σ) Q ρ' (del H' d) (M.bind (zO (f env) k m i) (fun rest=>newL (acc++rest)) h'),⟨n,rfl,ρ1,h1,[],[],M0,Nat.le_refl _,by rw[kT,yP hd];exact q⟩,?_⟩
  rintro i m H' ⟨hm,ρ',h',acc,ys,G0,hl,p'⟩
  have up:Step ρ1 H1 ρ' H':=G0.st.trans G0.up;cases m with
  |zero=>exact False.elim p'
  |succ m=>
   have r':=G0.rh';cases qg:qC h' k with
   |none=>unfold M.bind zO at p';rw[qg] at p';exact False.elim p'
   |some xs=>
    obtain ⟨b,vs,h2,h3,h4⟩:=r'.list qg;rw[vC up.pre ha] at h2;cases h2;cases qx:xs[i]? with
    |none=>
     refine .inl ⟨⟨vs,h3,?_⟩,Mid.fin (w:=W.at σ) G0 ?_⟩
     ·rw[h4.length];exact List.getElem?_eq_none_iff.mp qx
     ·unfold M.bind zO at p';simp only[qg,qx] at p';exact p'
    |some dx=>
     obtain ⟨w,hw,hv⟩:=h4.get qx;refine .inr ⟨⟨vs,w,h3,hw⟩,fun x H'' y=>?_⟩;obtain ⟨rfl,y⟩:=y;have ew:=y vs h3;rw[hw] at ew;cases ew
     have e:M.bind (zO (f env) k (m+1) i) (fun rest=>newL (acc++rest)) h'=M.bind (f env dx) (fun y=>M.bind (zO (f env) k m (i+1)) fun rest=>newL ((acc++y.toList)++rest)) h':=by
      have e1:zO (f env) k (m+1) i h'=M.bind (f env dx) (fun y=>M.bind (zO (f env) k m (i+1)) fun ys=>M.ret (match y with | some y=>y::ys | none=>ys)) h':=by
       rw[zO];simp only[qg,qx] <;> rfl
      show R.bind (zO (f env) k (m+1) i h') _=_;rw[e1];show M.bind (M.bind (f env dx) _) (fun rest=>newL (acc++rest)) h'=_;rw[jR];congr 1;funext y;rw[jR];congr 1;funext ys;rw[qAj];cases y <;> simp
     rw[e] at p'
     exact ht _ Q ρ1 ρ' H1 _ d h' acc ys (fun a=>M.bind (zO (f env) k m (i+1)) fun rest=>newL (a++rest)) env σ (fun H3=>∃ m',m'<m+1/\m'+(i+1)=n/\∃ ρ' h' acc ys,Mid K ρ1 H1 d ρ' h' acc ys H3/\acc.length<=i+1/\PostV K (W.at σ) Q ρ' (del H3 d) (M.bind (zO (f env) k m' (i+1)) (fun rest=>newL (acc++rest)) h')) dx _ G0 (s1.mono up) hv (by omega) p'
      fun ρ2 h2 acc2 ys2 H2 M2 hl2 p2=>⟨m,Nat.lt_succ_self _,by omega,ρ2,h2,acc2,ys2,M2,by omega,p2⟩
end
section
variable {K:PySem.W.Frag}{W:WX}{Q:VK}
def g2(K:PySem.W.Frag)(n:Nat):L2.TG:=L2.gTup K 2 (L2.gCons (L2.gName n) (L2.gCons (L2.gName (n+1)) L2.gNil))
end
end Fy
namespace L2
open PySem PySem.Spec PyProof.Rows
section
variable {X:Cx}{pins:List (Addr × Obj)}{σ:St}{H:Hp}{s:Shared}{h':Heap}
end
section
variable {X:Cx}
end
end L2
namespace Fy
open PySem PySem.Spec PySem.Calls PyProof.Rows
open L2 (V Hp HO VK XK TE TT TA TS TI Cx Inv RelV Vals SqL SqT Rd upd qI qG PE PT PA PS PSs EP TP SP PI PG PIE Turn qP Ends HOk frs thn OpR qL)
section
variable {F:Nat->List D->M D}{B:Nat}{W:WX}
end
end Fy
namespace L2
open PySem PySem.Spec PyProof.Rows
section
variable {X:Cx}{pins:List (Addr × Obj)}{σ:St}{H:Hp}{s:Shared}{h':Heap}
end
section
variable {prog:Program}{w:World}{A:Around}{E:Value->Shared->Prop}{s:Shared}{z TI TO i1 i2:Addr}{n1 n2 k:Nat}{P1 P2:Nat->Value->Prop}{S1 S2:Nat->Heap->Prop}{va vb:Value}
end
section
variable {prog:Program}{w:World}{A:Around}{E:Value->Shared->Prop}{s:Shared}
end
section
variable {X:Cx}
end
end L2
namespace Fy
open PySem PySem.Spec PyProof.Rows
open L2 (V Hp HO VK TE TT TA TS TI Cx Inv RelV Vals SqL SqT Rd upd qI qG PE PT PA PS PSs EP TP PI PG PIE Turn qP Ends HOk frs thn)
section
variable {X:Cx}{F:Nat->List D->M D}{W:WX}
end
end Fy
namespace L2
open PySem PySem.Spec PyProof.Rows
def Itd(a:Addr)(ob:Obj)(vs:List (Key × V)):It:=
 ⟨fun i H=>H a=some (.frz ob (.dK vs))/\i<vs.length,fun i H x H'=>H'=H/\∃ kv,vs[i]?=some kv/\x=kV kv.1,fun i H=>H a=some (.frz ob (.dK vs))/\vs.length<=i⟩
section
variable {X:Cx}{pins:List (Addr × Obj)}{σ:St}{H:Hp}{s:Shared}
theorem Inv.refit{a:Addr}{o o':HO}(I:Inv X pins σ H s)(ha:H a=some o)(no:∀ x,o≠.own x)(nt:∀ xs,o≠.tup xs)(nb:∀ ps,o≠.tbl ps)(nf:∀ ob u,X.H₀ a≠some (.frz ob u))
  (new:ObjOk X.prog X.w (upd H a o') s.heap a o'):Inv X pins σ (upd H a o') s:=by
 have nn:∀ b,H b=none->b≠a:=fun b z q=>by rw[q,ha] at z;cases z
 refine⟨I.ok,I.os,I.bare,⟨I.base.keep,I.base.slot,fun b ob q n hx=>?_,I.base.there,fun b xs q=>?_,fun b ob u q=>?_,fun b ps q=>?_⟩,I.loc,I.cell,?_,fun x c e=>?_,fun p hpp=>?_,fun b u e=>?_,I.len⟩
 ·have z:=I.base.free b ob q n hx;rw[qG (nn b z)];exact z
 ·have z:=I.base.tups b xs q;rw[qG (fun w=>by rw[w,ha] at z;cases z;exact nt _ rfl)];exact z
 ·rw[qG (fun w=>by rw[w] at q;exact nf _ _ q)];exact I.base.frzs b ob u q
 ·obtain ⟨more,z⟩:=I.base.tbls b ps q
  exact⟨more,by rw[qG (fun w=>by rw[w,ha] at z;cases z;exact nb _ rfl)];exact z⟩
 ·rw[qG (nn _ I.free)];exact I.free
 ·rw[qG (nn _ (I.freeC x c e))];exact I.freeC x c e
 ·obtain ⟨e,n,ne,nf',d⟩:=I.pin p hpp
  exact⟨e,by rw[qG (nn _ n)];exact n,ne,nf',d⟩
 ·by_cases hb:b=a
  ·subst hb;rw[qI] at e;cases e;exact new
  ·rw[qG hb] at e;exact (I.hok b u e).stay (fun c v _ q=>q) (fun c q=>by rw[qG (fun w=>by rw[w,ha] at q;cases q;exact no _ rfl)];exact q) fun c xs q=>by rw[qG (fun w=>by rw[w,ha] at q;cases q;exact nt _ rfl)];exact q
theorem qMg{P:Program}{w:World}{h:Heap}{a:Addr}{ob:Obj}{vs:List (Key × V)}(H':Hp)(x:ObjOk P w H h a (.dK vs))(e:h.get? a=some ob):ObjOk P w H' h a (.frz ob (.dK vs)):=⟨e,x⟩
theorem qMh{P:Program}{w:World}{h:Heap}{a:Addr}{vs:List (Key × V)}(H':Hp)(x:ObjOk P w H h a (.dK vs)):ObjOk P w H' h a (.dK vs):=x
theorem qKH{k:Key}{v:Value}(h:wF k v=true):RelV (kV k) v:=by
 rcases kQ h with⟨i,t,rfl,rfl⟩ | ⟨x,t,rfl,rfl⟩
 ·exact⟨t,rfl⟩
 ·exact⟨t,rfl⟩
theorem qCd{P:Program}{w:World}{h:Heap}{a:Addr}{ob:Obj}{vs:List (Key × V)}{ep:Nat}(hep:∃ es,ob.data=.dict es ep)(x:ObjOk P w H h a (.frz ob (.dK vs))):∃ ws,KV vs ws/\h.DictAt (mixKind P w) a ws ep:=by
 obtain ⟨e,_,_,ws,rel,o,es,ep',h1,h2,h3,h4⟩:=x;obtain ⟨es',h5⟩:=hep;rw[e] at h1;cases h1;rw[h3] at h5;cases h5
 exact⟨ws,rel,ob,es,e,h2,h3,h4⟩
theorem qE0{P:Program}{w:World}{K:PySem.W.Frag}{tg:Expr}(a it:Addr)(ob:Obj)(vs:List (Key × V))(ep:Nat)(hep:∃ es,ob.data=.dict es ep):Turn P w K tg (Itd a ob vs) [it] it (fun i h=>h.IsKeyIter it a i vs.length ep) where
 mem:=by simp
 obj:=fun i h st b hb=>by
  have e:b=it:=by simpa using hb
  subst e;obtain ⟨o,e,c,d⟩:=st
  exact⟨o,e,fun v z=>by rw[d] at z;cases z⟩
 keep:=fun i h h' st k=>st.at fun o e=>k it (by simp) o e
 item:=by
  intro X hP hw hK hc i pins s σ H E I hf st hg;subst hP hw hK;obtain ⟨hH,hi⟩:=hg;obtain ⟨ws,rel,dd⟩:=qCd hep (I.hok a _ hH);have hl:=rel.length;obtain ⟨f0,f1,f2,f3,f4,f5⟩:=hf it (by simp);obtain ⟨⟨k,x⟩,hx⟩:∃ p,ws[i]?=some p:=⟨ws[i]'(by omega),by simp⟩;obtain ⟨⟨k',y⟩,hy⟩:∃ p,vs[i]?=some p:=⟨vs[i]'hi,by simp[hi]⟩
  have ek:k'=k:=by
   have z:=congrArg (fun l:List Key=>l[i]?) rel.keys;simp only[List.getElem?_map,hx,hy,Option.map_some] at z;exact Option.some.inj z
  subst ek;refine wpAny_pyNext_dict_item (knd:=mixKind X.prog X.w) (by rw[hl] at st;exact st) dd hx fun key h' hkey st' sb=>?_;rw[<- hl] at st';have I1:Inv X pins σ H { s with heap:=h' }:=I.turned (t':=s.toks) (fun b o hb e=>(sb.2 b hb).trans e) f0 f1 f3 f4 f5;obtain ⟨o,e,c,d⟩:=id st'
  exact⟨key,rfl,go_of (s:={ s with heap:=h' }) e c d (by decide) ⟨kV k',H,I1,qKH hkey,⟨rfl,_,hy,rfl⟩,st',fun b hb=>(hf b hb).1⟩⟩
 done:=by
  intro X hP hw hK hc i pins s σ H E I hf st hg;subst hP hw hK;obtain ⟨hH,hi⟩:=hg;obtain ⟨ws,rel,dd⟩:=qCd hep (I.hok a _ hH);have hl:=rel.length;obtain ⟨f0,f1,f2,f3,f4,f5⟩:=hf it (by simp);exact wpAny_pyNext_dict_end (knd:=mixKind X.prog X.w) (I.ok.hd hc) (by rw[hl] at st;exact st) dd (by simp;omega) fun h' eb=>⟨rfl,I.turned (t':=s.toks) (fun b o hb e=>eb b o hb e) f0 f1 f3 f4 f5⟩
 self:=fun _ _ _ _ _ st h=>wpAny_pyIter_keyiter st h
abbrev Nfz(X:Cx)(a:Addr):Prop:=∀ o u,X.H₀ a≠some (.frz o u)
def iDict(X:Cx)(tl:TE):TI:=fun σ H R=>tl σ H fun x H1=>∃ a vs,x=.ref a/\H1 a=some (.dK vs)/\∀ ob,Nfz X a->R (Itd a ob vs) (upd H1 a (.frz ob (.dK vs)))
theorem pi_dict{tg l:Expr}{tl:TE}(hl:PE X l tl):PI X tg l (iDict X tl):=by
 intro pins s σ H R I h;refine thn (hl pins s σ H _ I h) fun v s1 ⟨x,H1,I1,r1,q1⟩=>?_;obtain ⟨a,vs,e,hH,q⟩:=q1;subst e;cases r1;have ok:=I1.hok a _ hH;obtain ⟨z,hd,ws,rel,o,es,ep,h1,h2,h3,h4⟩:=id ok
 have nf:Nfz X a:=fun o u w=>by
  have:=I1.base.frzs a o u w
  rw[hH] at this;cases this
 have dd:s1.heap.DictAt (mixKind X.prog X.w) a ws ep:=⟨o,es,h1,h2,h3,h4⟩;refine wpAny_pyIter_dict hd dd ?_;have I2:Inv X pins σ (upd H1 a (.frz o (.dK vs))) s1:=I1.refit hH (fun _ w=>nomatch w) (fun _ w=>nomatch w) (fun _ w=>nomatch w) nf (qMg _ ok h1);refine⟨s1.heap.objs.size,[s1.heap.objs.size],_,_,_,rfl,I2.kept (t':=s1.toks) fun b o e=>Heap.get?_push_of_some _ e,qE0 a _ o vs ep ⟨es,h3⟩,?_,fun b hb=>?_,q o nf⟩
 ·rw[rel.length]
  exact⟨_,Heap.get?_push_size _ rfl,rfl,rfl⟩
 ·have e:=List.mem_singleton.mp hb;subst e;exact I2.fpOk (Nat.le_refl _) (I2.hok.fresh (Nat.le_refl _))
def thawQ(X:Cx)(Q:VK):VK:=fun v H'=>∃ a ob vs,Nfz X a/\H' a=some (.frz ob (.dK vs))/\Q v (upd H' a (.dK vs))
theorem Inv.thaw{a:Addr}{ob:Obj}{vs:List (Key × V)}(I:Inv X pins σ H s)(nf:Nfz X a)(ha:H a=some (.frz ob (.dK vs))):Inv X pins σ (upd H a (.dK vs)) s:=
 I.refit ha (fun _ w=>nomatch w) (fun _ w=>nomatch w) (fun _ w=>nomatch w) nf (qMh _ (I.hok a _ ha).2)
theorem pe_thaw{e:Expr}{t:TE}(h:PE X e t):PE X e (fun σ H Q=>t σ H (thawQ X Q)):=fun pins s σ H Q I q=>thn (h pins s σ H _ I q) fun u s' ⟨v,H',I',rv,a,ob,vs,nf,ha,z⟩=>⟨v,_,I'.thaw nf ha,rv,z⟩
def thawE(X:Cx)(E:Ends):Ends:=
 ⟨fun σ H'=>∃ a ob vs,Nfz X a/\H' a=some (.frz ob (.dK vs))/\E.nx σ (upd H' a (.dK vs)),fun v H'=>∃ a ob vs,Nfz X a/\H' a=some (.frz ob (.dK vs))/\E.rt v (upd H' a (.dK vs)),fun _ _=>False,fun _ _=>False⟩
theorem ps_thaw{st:Stmt}{t:TS}(h:PS X st t):PS X st (fun E σ H=>t (thawE X E) σ H):=fun pins s σ H E I q=>thn (h pins s σ H _ I q) fun f s' z=>by
 cases f with
 |next=>obtain ⟨σ',H',I',a,ob,vs,nf,ha,z⟩:=z;exact⟨σ',_,I'.thaw nf ha,z⟩
 |ret u=>obtain ⟨v,σ',H',I',rv,a,ob,vs,nf,ha,z⟩:=z;exact⟨v,σ',_,I'.thaw nf ha,rv,z⟩
 |brk=>obtain ⟨σ',H',I',z⟩:=z;exact False.elim z
 |cont=>obtain ⟨σ',H',I',z⟩:=z;exact False.elim z
end
end L2
namespace Fy
open PySem PySem.Spec PyProof.Rows
open L2 (V Hp HO VK XK TE TT TA TS TI Cx Inv RelV Vals SqL SqT Rd upd qI qG PE PT PA PS PSs EP TP SP PI PG PIE Turn qP Ends HOk frs thn OpR qL)
section
variable {K:PySem.W.Frag}{ρ ρ1:List Addr}{H H1:Hp}{a:Addr}{i:Nat}{ob:Obj}{vs:List (L2.Key × V)}{kvs:List (Ky × D)}
theorem qAl(ha:H a=some (.frz ob (.dK vs)))(hk:RepK K ρ H kvs vs):wN K ρ H (.row (jG kvs)) (L2.Itd a ob vs):=by
 have hl:(jG kvs).length=vs.length:=by unfold jG;rw[List.length_map];exact hk.length
 have key:∀ {kvs:List (Ky × D)} {vs:List (L2.Key × V)} {j:Nat} {kv:L2.Key × V},RepK K ρ H kvs vs->vs[j]?=some kv->∃ k:Ky,(jG kvs)[j]?=some (kyD k)/\kv.1=kyV k:=by
  intro kvs
  induction kvs with
  |nil=>intro vs j kv h e;cases h;simp at e
  |cons x r ih=>
   intro vs j kv h e;obtain ⟨v,r',rfl,h1,h2⟩:=h;cases j with
   |zero=>simp at e;subst e;exact⟨x.1,rfl,rfl⟩
   |succ j=>exact ih h2 (by simpa using e)
 refine⟨fun j ρ' H' e hj=>⟨e.keep _ _ ha (.inl rfl),by omega⟩,fun j ρ' H' x H'' e hj y=>?_,fun j ρ' H' e hj=>⟨e.keep _ _ ha (.inl rfl),by omega⟩⟩;obtain ⟨rfl,kv,h1,rfl⟩:=y;obtain ⟨k,h2,h3⟩:=key hk h1;refine⟨rfl,_,h2,?_⟩;rw[h3];cases k with
 |int j=>rfl
 |str y=>rfl
theorem RepH.freeze{h:AH}(r:RepH K ρ h H)(hi:h[i]?=some (.dct kvs))(hr:ρ[i]?=some a)(ha:H a=some (.dK vs))(hk:RepK K ρ H kvs vs):RepH K ρ (h.set i (.rod kvs)) (upd H a (.frz ob (.dK vs))):=
 r.setO hi rfl rfl hr ha rfl ⟨ob,vs,qI,RepK.mono (Step.turn ha rfl (List.mem_of_getElem? hr)) _ _ hk⟩
theorem gL(ha:H a=some (.frz ob (.dK vs)))(b:Addr)(us:List V)(h:SqT K H b us):SqT K (upd H a (.dK vs)) b us:=by
 rcases h with (h | ⟨o,h⟩) | h
 ·exact .inl (.inl (by rw[qG (by rintro rfl;rw[ha] at h;cases h)];exact h))
 ·exact .inl (.inr ⟨o,by rw[qG (by rintro rfl;rw[ha] at h;cases h)];exact h⟩)
 ·exact .inr h
theorem RepH.thaw{h:AH}(r:RepH K ρ h H)(hi:h[i]?=some (.rod kvs))(hr:ρ[i]?=some a)(ha:H a=some (.frz ob (.dK vs))):RepH K ρ (h.set i (.dct kvs)) (upd H a (.dK vs)):=by
 have sq:=gL (K:=K) ha;have hil:=(List.getElem?_eq_some_iff.mp hi).1;refine⟨by simp[r.len],fun j o hj=>?_,fun j k b o1 o2 hj hk m1 m2 e1 e2=>?_⟩
 ·rw[List.getElem?_set] at hj
  by_cases z:i=j
  ·rw[if_pos z,if_pos (by omega)] at hj;cases hj;subst z;obtain ⟨b,h1,ob',vs',h2,h3⟩:=r.obj i _ hi;rw[hr] at h1;cases h1;rw[ha] at h2;cases h2
   exact⟨a,hr,vs,qI,h3.sq sq _ _⟩
  ·rw[if_neg z] at hj;obtain ⟨b,h1,h2⟩:=r.obj j o hj
   by_cases hb:b=a
   ·subst hb;cases hm:jY o with
    |true=>exact absurd (r.inj i j b _ _ hi hj rfl hm hr h1) z
    |false=>
     refine⟨b,h1,?_⟩;cases o with
     |rol xs=>
      obtain ⟨us,k1,k2⟩:=h2;rcases k1 with⟨o',k1⟩ | k1
      ·rw[ha] at k1;cases k1
      ·exact⟨us,.inr k1,k2.sq sq _ _⟩
     |xc c=>obtain ⟨C,_,k1⟩:=h2;rw[ha] at k1;cases k1
     |_=>cases hm
   ·exact⟨b,h1,h2.sq sq (qG hb)⟩
 ·have key:∀ (j:Nat) (z:O),jY z=true->(h.set i (.dct kvs))[j]?=some z->∃ z',h[j]?=some z'/\jY z'=true:=fun j z mz hj=>by
   rw[List.getElem?_set] at hj
   by_cases q:i=j
   ·subst q
    exact⟨_,hi,rfl⟩
   ·rw[if_neg q] at hj
    exact⟨_,hj,mz⟩
  obtain ⟨_,g1,n1⟩:=key j _ m1 hj;obtain ⟨_,g2,n2⟩:=key k _ m2 hk;exact r.inj j k b _ _ g1 g2 n1 n2 e1 e2
theorem cY{ρ':List Addr}{H':Hp}(hr:a∈ρ)(ha:H a=some (.dK vs))(e:Step ρ (upd H a (.frz ob (.dK vs))) ρ' H'):Step ρ H ρ' (upd H' a (.dK vs)):=by
 refine⟨e.pre,fun b hb=>?_,fun b o h c=>?_⟩
 ·rcases e.new b hb with z | z
  ·exact .inl z
  ·by_cases q:b=a
   ·rw[q,qI] at z;cases z
   ·rw[qG q] at z;exact .inr z
 ·by_cases q:b=a
  ·subst q;rw[ha] at h;cases h;rw[qI]
  ·rw[qG q];exact e.keep b o (by rw[qG q];exact h) c
theorem qE6{X:Cx}{Q:VK}{w:W1}{r:R D}(nf:L2.Nfz X a)(hr:ρ[i]?=some a)(ha:H a=some (.dK vs))(p:PostV K w Q ρ H (yW i r)):PostV K w (L2.thawQ X Q) ρ (upd H a (.frz ob (.dK vs))) r:=by
 cases r with
 |ok d h=>
  have p:PostV K w Q ρ H (match h[i]? with | some (.rod kvs)=>.ok d (h.set i (.dct kvs)) | _=>.bad):=p;split at p
  ·rename_i kvs z;intro ρ' H' e rh v hv;have ha':H' a=some (.frz ob (.dK vs)):=e.keep _ _ qI (.inl rfl);have hr':=vC e.pre hr
   exact⟨a,ob,vs,nf,ha',p ρ' _ (cY (List.mem_of_getElem? hr) ha e) (rh.thaw z hr' ha') v (hv.sq (gL ha') _ _)⟩
  ·exact False.elim p
 |exc c h=>exact False.elim p
 |bad=>exact False.elim p
theorem qE5{X:Cx}{E:Ends}{W:WX}{r:SR}(nf:L2.Nfz X a)(hr:ρ[i]?=some a)(ha:H a=some (.dK vs))(p:PostS K W E ρ H (SR.thaw i r)):PostS K W (L2.thawE X E) ρ (upd H a (.frz ob (.dK vs))) r:=by
 have rs:∀ {ρ':List Addr} {H':Hp} {env:Env} {σ:L2.St},H' a=some (.frz ob (.dK vs))->RepS K ρ' H' env σ->RepS K ρ' (upd H' a (.dK vs)) env σ:=fun {ρ' H' env σ} ha' s=>⟨s.1,fun j d h=>let ⟨v,h1,h2⟩:=s.2 j d h;⟨v,h1,h2.sq (gL ha') _ _⟩⟩;cases r with
 |nx env h=>
  have p:PostS K W E ρ H (match h[i]? with | some (.rod kvs)=>.nx env (h.set i (.dct kvs)) | _=>.bad):=p;split at p
  ·rename_i kvs z;intro ρ' H' st e rh s;have ha':H' a=some (.frz ob (.dK vs)):=e.keep _ _ qI (.inl rfl)
   exact⟨a,ob,vs,nf,ha',p ρ' _ st (cY (List.mem_of_getElem? hr) ha e) (rh.thaw z (vC e.pre hr) ha') (rs ha' s)⟩
  ·exact False.elim p
 |rt d h=>
  have p:PostS K W E ρ H (match h[i]? with | some (.rod kvs)=>.rt d (h.set i (.dct kvs)) | _=>.bad):=p;split at p
  ·rename_i kvs z;intro ρ' H' v e rh hv;have ha':H' a=some (.frz ob (.dK vs)):=e.keep _ _ qI (.inl rfl)
   exact⟨a,ob,vs,nf,ha',p ρ' _ v (cY (List.mem_of_getElem? hr) ha e) (rh.thaw z (vC e.pre hr) ha') (hv.sq (gL ha') _ _)⟩
  ·exact False.elim p
 |_=>exact False.elim p
end
section
variable {X:Cx}{F:Nat->List D->M D}{B:Nat}{W:WX}
theorem compD{e d:CE}{c:CT}{tt:Option TT}(ht:gD X.K (fun env x=>jJ (den F e) (qK F c) env x) tt (tD X.K WF (den F e))){σ:L2.St}{H:Hp}{Q:VK}(t:tD X.K W (den F (.compD e c d)) σ H Q):yY X.K (L2.iDict X (tD X.K W (den F d))) tt (tD X.K WF (den F e)) σ H (L2.thawQ X Q):=by
 obtain ⟨ρ,env,h,s,r,p⟩:=t;rw[den] at p;refine⟨ρ,env,h,s,r,Post.bind p fun ρ1 h1 x H1 e1 r1 q v hv=>?_⟩;cases x with
 |ref i=>
  have q:PostV X.K (W.at σ) Q ρ1 H1 (match h1[i]? with | some (.dct kvs)=>(if kvs.length<16777216 then yW i (M.bind (zC (jJ (den F e) (qK F c) env) (jG kvs)) newL (h1.set i (.rod kvs))) else .bad) | _=>.bad):=q;split at q
  ·rename_i kvs z;obtain ⟨hz,q⟩:=PostV.ite q;obtain ⟨a,vs,rfl,hr,hH,hk⟩:=r1.dict z hv;refine⟨a,vs,rfl,hH,fun ob nf dd hd hK=>?_⟩;have st:Step ρ1 H1 ρ1 (upd H1 a (.frz ob (.dK vs))):=Step.turn hH rfl (List.mem_of_getElem? hr);exact qCu ht ((s.mono e1).mono st) (r1.freeze z hr hH hk) (qAl qI (hk.mono st _ _)) (by unfold jG;rw[List.length_map];exact hz) (qE6 nf hr hH q) hd hK
  ·exact False.elim q
 |_=>exact False.elim q
theorem qC5{α:Type}{K:PySem.W.Frag}{w:W1}{rep:List Addr->Hp->α->Prop}{ρ:List Addr}{H:Hp}{r:R α}(p:Post K w rep ρ H r.calm)(w':W1):Post K w' rep ρ H r:=by
 cases r with
 |ok a h=>exact p
 |exc _ _=>exact False.elim p
 |bad=>exact p
theorem qGE{i:Nat}{g:L2.TG}{tg iter:Expr}{ce:CE}{body:List Stmt}{cb:CS}{pos:Pos}(ht:vZ X.K (.nm i) g)(hc:X.calm=true)(he:PE X.nox iter (tD X.K WF (den F ce)))(hg:PG X.nox tg g)(hb:PSs X.nox body (tDS X.K WF (qB F B cb)))
  (hs:∀ x,foldedSetIterable iter X.env x=pure x):PS X (.For tg iter body [] pos) (tDS X.K W (qB F B (.forD i ce cb))):=PS.imp (PS.nox (L2.ps_thaw (X:=X.nox) (L2.ps_for PassesOwn.never hc (L2.pi_dict he) hg hb hs))) fun E σ H q=>by
 obtain ⟨ρ,env,h,s,r,p⟩:=q;rw[qB] at p;refine⟨ρ,env,h,s,r,qC5 (PostS.ofR s p fun ρ1 h1 x H1 e1 r1 q v hv=>?_) _⟩;cases x with
 |ref k=>
  have q:PostS X.K W E ρ1 H1 (match h1[k]? with | some (.dct kvs)=>(zS (zR (.nm i) (qB F B cb)) (jG kvs) env (h1.set k (.rod kvs))).thaw k | _=>.bad):=q;split at q
  ·rename_i kvs z;obtain ⟨a,vs,rfl,hr,hH,hk⟩:=r1.dict z hv;refine⟨a,vs,rfl,hH,fun ob nf=>?_⟩;have st:Step ρ1 H1 ρ1 (upd H1 a (.frz ob (.dK vs))):=Step.turn hH rfl (List.mem_of_getElem? hr);obtain ⟨go,yl,sp⟩:=qAl (K:=X.K) (ρ:=ρ1) (a:=a) (ob:=ob) (H:=upd H1 a (.frz ob (.dK vs))) qI (hk.mono st _ _);exact qBl ht ((s.mono e1).mono st) (r1.freeze z hr hH hk) go yl sp (qE5 (X:=X.nox) nf hr hH q)
  ·exact False.elim q
 |_=>exact False.elim q
end
def CXD(P:Program)(w:World)(ex:Nat->Option Addr):L2.CXT:=fun outer H s E e s'=>
 ∃ (a C:Addr) (c:Nat) (B:Heap) (a0:Value) (H':Hp),e=.ref a/\ex c=some C/\Heap.FlyingW B outer a (.ref C) a0 s'.heap/\HOk P w H' B /\
  (∀ b o,s.heap.get? b=some o->b∉frs outer->∃ o',B.get? b=some o')/\L2.Un (frs outer) [] H H' s.heap s'.heap/\s'.os=s.os/\AllBare s'.gens/\E e (some c) H'
section
variable {fs:List Addr}{H H':Hp}{h0 h1 h' B:Heap}{l:List PySem.Env}
theorem cQ(u:L2.Un (frs l) [] H H' h0 h1)(hB:B.StaysIn h1)(cov:∀ b o,h0.get? b=some o->b∉frs l->∃ o',B.get? b=some o')(fr:h1.FunFrames B l)(hB':B.StaysIn h')(up:h1.UpToSlots h'):L2.Un (frs l) [] H H' h0 h' where
 keep:=fun b o e n hb hx=>by
  obtain ⟨o',e'⟩:=cov b o e hb;have k1:=u.keep b o e n hb hx;have k2:=hB b o' e';rw[k1] at k2;cases k2;exact hB' b o e'
 slot:=fun b o e n hb hx=>by
  obtain ⟨sl,k1⟩:=u.slot b o e n hb hx;obtain ⟨_,o2,k2,k3⟩:=fr.mem hb;rw[k1] at k2;cases k2;obtain ⟨sl',k4⟩:=up b _ k1 k3
  exact⟨sl',k4⟩
 free:=u.free
 there:=fun b o e hx=>by
  by_cases hb:b∈frs l
  ·obtain ⟨_,o2,k2,k3⟩:=fr.mem hb;obtain ⟨sl',k4⟩:=up b _ k2 k3
   exact⟨_,k4⟩
  ·obtain ⟨o',e'⟩:=cov b o e hb
   exact⟨o',hB' b o' e'⟩
 tups:=u.tups
 frzs:=u.frzs
 tbls:=u.tbls
theorem qEa{fs':List Addr}(u:L2.Un fs' [] H H' h0 h')(hs:∀ b∈fs',b∉fs->h0.get? b=none):L2.Un fs [] H H' h0 h' where
 keep:=fun b o e n hb hx=>u.keep b o e n (fun z=>by rw[hs b z hb] at e;cases e) hx
 slot:=fun b o e n hb hx=>u.any e n hx
 free:=u.free
 there:=u.there
 tups:=u.tups
 frzs:=u.frzs
 tbls:=u.tbls
end
theorem funFrames_hide'{base h:Heap}{as:List Addr}{l:List PySem.Env}(x:h.FunFrames base l)(ha:∀ b∈frs l,b∈as):h.FunFrames (PySem.W.hideAll h as) l:=
 PySem.W.funFrames_hide x fun env he a ha'=>ha a (List.mem_filterMap.mpr ⟨env,he,ha'⟩)
section
variable {X:Cx}{pins:List (Addr × Obj)}{σ:L2.St}{H:Hp}{s s':Shared}{ex:Nat->Option Addr}
theorem gR{k:Nat}{f:Addr}{fd:FuncData}{ps:List Str}{sp:L2.Sp}{E:XK}{Q:VK}{us:List Value}{vs:List V}(F:L2.FnOk X.prog X.w X.K X.mg X.base (CXD X.prog X.w ex) k f fd ps sp)(hr:L2.Room k X.A)(hb:L2.Binds X.K fd ps [])
  (hx:∀ e s',CXD X.prog X.w ex X.stack H s E e s'->X.xe e s') (I:Inv X pins σ H s) (r:Vals vs us) (h:sp vs H Q E):wpAny (model X.prog X.w) X.A (call (.ref f) us) (EP X pins σ Q) X.xe s:=by
 have hl:us.length=ps.length:=by rw[<- r.length];exact F.len _ _ _ _ h
 have hb':=hb s us I.kIn (by rw[List.append_nil];exact hl);rw[List.append_nil] at hb';refine wpAny_call (codeAny_mono (F.run X.A X.stack s H ⟨us,[]⟩ us vs Q E hr I.env0 hb' r h) fun r s' hq=>?_);cases r with
 |error e=>exact hx e s' hq
 |ok fl=>
  cases fl with
  |ret u=>exact I.after hq
  |next=>exact False.elim hq
  |brk=>exact False.elim hq
  |cont=>exact False.elim hq
end
section
variable {P:Program}{w:World}{K:PySem.W.Frag}{mg:Str->Option Value}{base:Heap}{N:List Str}{qual:Str}{scope:Scope}{f:Addr}{cd:Value}{A:Around}{outer:List PySem.Env}{s0:Shared}{H0:Hp}{E:XK}{ex:Nat->Option Addr}
variable {pins:List (Addr × Obj)}{σ:L2.St}{H:Hp}{s s':Shared}
abbrev cxX(ex:Nat->Option Addr)(P:Program)(w:World)(K:PySem.W.Frag)(mg:Str->Option Value)(base:Heap)(N:List Str)(qual:Str)(scope:Scope)(f:Addr)(cd:Value)(A:Around)(outer:List PySem.Env)(s0:Shared)(H0:Hp)(E:XK):Cx:=L2.cxOf (CXD P w ex) P w K mg base N qual scope f cd A outer s0 H0 E
theorem qA4{h':Heap}{H':Hp}(I:Inv (cxX ex P w K mg base N qual scope f cd A outer s0 H0 E) pins σ H s)(u:L2.Un (frs (cxX ex P w K mg base N qual scope f cd A outer s0 H0 E).stack) [] H H' s.heap h'):L2.Un (frs outer) [] H0 H' s0.heap h':=by
 have b1:L2.Un (frs outer) [] H0 H s0.heap s.heap:=I.base
 have b2:=b1.mono (fs':=frs (cxX ex P w K mg base N qual scope f cd A outer s0 H0 E).stack) (ex':=[]) (fun b hb=>by
  show b∈frs (envOfC qual scope s0.heap.objs.size f cd::outer)
  exact List.mem_cons_of_mem _ hb) fun _ z=>z
 refine qEa (b2.trans u) fun b hb hn=>?_;rcases List.mem_cons.mp (show b∈s0.heap.objs.size::frs outer from hb) with rfl | z
 ·cases q:s0.heap.get? s0.heap.objs.size with
  |none=>rfl
  |some o=>exact absurd (Heap.lt_size q) (Nat.lt_irrefl _)
 ·exact absurd z hn
theorem qA5{B:Heap}(I:Inv (cxX ex P w K mg base N qual scope f cd A outer s0 H0 E) pins σ H s)(cov:∀ b o,s.heap.get? b=some o->b∉frs (cxX ex P w K mg base N qual scope f cd A outer s0 H0 E).stack->∃ o',B.get? b=some o') :
  ∀ b o,s0.heap.get? b=some o->b∉frs outer->∃ o',B.get? b=some o':=fun b o e hb=>by
 have b1:L2.Un (frs outer) [] H0 H s0.heap s.heap:=I.base;obtain ⟨o1,e1⟩:=b1.there b o e (by simp);refine cov b o1 e1 fun z=>?_;rcases List.mem_cons.mp (show b∈s0.heap.objs.size::frs outer from z) with rfl | z
 ·exact absurd (Heap.lt_size e) (Nat.lt_irrefl _)
 ·exact hb z
theorem qJy{W:WX}{e:Value}(hW:∀ c σ H,W c σ H->∀ e,E e (some c) H)(I:Inv (cxX ex P w K mg base N qual scope f cd A outer s0 H0 E) pins σ H s)
  (x:CXD P w ex (cxX ex P w K mg base N qual scope f cd A outer s0 H0 E).stack H s (fun _ co H'=>∃ c,co=some c/\W c σ H') e s'):(cxX ex P w K mg base N qual scope f cd A outer s0 H0 E).xe e s':=by
 obtain ⟨a,C,c,B,a0,H',rfl,h2,h3,h4,h5,h6,h7,h8,c',e',h9⟩:=x;cases e';have fr:=I.ok.frames;refine wpAny_leaves_onW (env:=envOfC qual scope s0.heap.objs.size f cd) (outer:=outer) fr rfl h3 fun h' hfl up=>?_;have un:=cQ h6 h3.1 h5 h3.2.2.1 hfl.1 up;refine⟨a,C,c,B,a0,H',rfl,h2,hfl,h4,qA5 I h5,qA4 I un,?_,h8,hW c σ H' h9 _⟩;rw[show ({ s' with heap:=h' }:Shared).os=s'.os from rfl,h7];exact I.os
theorem qJx{W:WX}{a C:Addr}{c:Nat}{args:List Value}{h1:Heap}(hW:∀ c σ H,W c σ H->∀ e,E e (some c) H)(I:Inv (cxX ex P w K mg base N qual scope f cd A outer s0 H0 E) pins σ H s)(hc:ex c=some C)
  (m:Heap.MadeExcOf s.heap h1 a (.ref C) args) (hw:W c σ H):(cxX ex P w K mg base N qual scope f cd A outer s0 H0 E).xe (.ref a) { s with heap:=h1 }:=by
 have fr:=I.ok.frames;have ff:=I.stack;have hB:(PySem.W.hideAll s.heap (frs (cxX ex P w K mg base N qual scope f cd A outer s0 H0 E).stack)).StaysIn s.heap:=fun b o e=>PySem.W.of_hideAll _ e;have hcov:∀ b o,s.heap.get? b=some o->b∉frs (cxX ex P w K mg base N qual scope f cd A outer s0 H0 E).stack->∃ o',(PySem.W.hideAll s.heap (frs (cxX ex P w K mg base N qual scope f cd A outer s0 H0 E).stack)).get? b=some o':=fun b o e hb=>⟨o,PySem.W.hideAll_get _ e hb⟩
 have hok:HOk P w H (PySem.W.hideAll s.heap (frs (cxX ex P w K mg base N qual scope f cd A outer s0 H0 E).stack)):=fun b u e=>by
  refine (show L2.ObjOk P w H s.heap b u from I.hok b u e).stay (fun c v hc q=>PySem.W.hideAll_get _ q fun z=>?_) (fun _ q=>q) fun _ _ q=>q;have n:=I.stkFree c z;rcases hc with rfl | hc
  ·rw[e] at n;cases n
  ·rw[hc] at n;cases n
 refine wpAny_leaves_madeW (env:=envOfC qual scope s0.heap.objs.size f cd) (outer:=outer) fr rfl hB (funFrames_hide' ff fun _ z=>z) m fun h' t hfl _ _ up=>?_;have up':s.heap.UpToSlots h':=(Heap.UpToSlots.of_keeps m.keeps).trans up;have un:=cQ (L2.Un.refl (fs:=frs (cxX ex P w K mg base N qual scope f cd A outer s0 H0 E).stack) (ex:=[]) (H:=H) (h:=s.heap)) hB hcov (funFrames_hide' ff fun _ z=>z) hfl.1 up'
 exact⟨a,C,c,_,_,H,rfl,hc,hfl,hok,qA5 I hcov,qA4 I un,I.os,I.bare,hW c σ H hw _⟩
end
def aJ(K:PySem.W.Frag)(C:Addr):Bool:=PySem.W.excIn K C [.type "ValueError",.type "Exception",.type "BaseException",.type "object"] "ValueError.__new__"
section
variable {X:Cx}{F:Nat->List D->M D}{B:Nat}{W:WX}{ex:Nat->Option Addr}
end
abbrev hold(X:Cx)(pins:List (Addr × Obj))(E:Value->Shared->Prop):Cx:={ X with pn:=X.pn++pins,xe:=E }
abbrev mark(X:Cx)(e:Value):Cx:={ X with A:=X.A.mark (some e),calm:=false,xe:=fun _ _=>False }
section
variable {X:Cx}{pins pins':List (Addr × Obj)}{σ:L2.St}{H:Hp}{s:Shared}{E:Value->Shared->Prop}
theorem qBA(ok:X.Ok):(hold X pins E).Ok:=⟨ok.mod,ok.kind,ok.glob,ok.blt,ok.above,ok.inj,ok.has,ok.cab,ok.hd,ok.frames,ok.stk,ok.exf,ok.bs,ok.bsz,ok.noex,ok.exfs,ok.funs,ok.frf⟩
theorem qA9(ok:(hold X pins E).Ok):X.Ok:=⟨ok.mod,ok.kind,ok.glob,ok.blt,ok.above,ok.inj,ok.has,ok.cab,ok.hd,ok.frames,ok.stk,ok.exf,ok.bs,ok.bsz,ok.noex,ok.exfs,ok.funs,ok.frf⟩
theorem qG5{e:Value}(ok:X.Ok):(mark X e).Ok:=⟨ok.mod,ok.kind,ok.glob,ok.blt,ok.above,ok.inj,ok.has,ok.cab,(fun z=>by cases z),ok.frames,ok.stk,ok.exf,ok.bs,ok.bsz,ok.noex,ok.exfs,ok.funs,ok.frf⟩
theorem Inv.hold(I:Inv X pins σ H s)(E:Value->Shared->Prop):Inv (hold X pins E) [] σ H s:=⟨qBA I.ok,I.os,I.bare,I.base,I.loc,I.cell,I.free,I.freeC,fun p hp=>I.pin p (by simpa using hp),I.hok,I.len⟩
theorem Inv.unhold(I:Inv (Fy.hold X pins E) pins' σ H s):Inv X pins σ H s:=⟨qA9 I.ok,I.os,I.bare,I.base,I.loc,I.cell,I.free,I.freeC,fun p hp=>I.pin p (List.mem_append_left _ hp),I.hok,I.len⟩
theorem Inv.mark{e:Value}(I:Inv X pins σ H s):Inv (mark X e) pins σ H s:=⟨qG5 I.ok,I.os,I.bare,I.base,I.loc,I.cell,I.free,I.freeC,I.pin,I.hok,I.len⟩
theorem Inv.unmark{e:Value}(I:Inv (Fy.mark X e) pins σ H s)(ok:X.Ok):Inv X pins σ H s:=⟨ok,I.os,I.bare,I.base,I.loc,I.cell,I.free,I.freeC,I.pin,I.hok,I.len⟩
theorem SP.unhold{D:Ends}{f:Flow}{s':Shared}(h:SP (Fy.hold X pins E) pins' D f s'):SP X pins D f s':=by
 cases f with
 |next=>obtain ⟨σ',H',I,q⟩:=h;exact⟨σ',H',Inv.unhold I,q⟩
 |brk=>obtain ⟨σ',H',I,q⟩:=h;exact⟨σ',H',Inv.unhold I,q⟩
 |cont=>obtain ⟨σ',H',I,q⟩:=h;exact⟨σ',H',Inv.unhold I,q⟩
 |ret u=>obtain ⟨v,σ',H',I,r,q⟩:=h;exact⟨v,σ',H',Inv.unhold I,r,q⟩
theorem SP.unmark{e:Value}{D:Ends}{f:Flow}{s':Shared}(h:SP (Fy.mark X e) pins D f s')(ok:X.Ok):SP X pins D f s':=by
 cases f with
 |next=>obtain ⟨σ',H',I,q⟩:=h;exact⟨σ',H',Inv.unmark I ok,q⟩
 |brk=>obtain ⟨σ',H',I,q⟩:=h;exact⟨σ',H',Inv.unmark I ok,q⟩
 |cont=>obtain ⟨σ',H',I,q⟩:=h;exact⟨σ',H',Inv.unmark I ok,q⟩
 |ret u=>obtain ⟨v,σ',H',I,r,q⟩:=h;exact⟨v,σ',H',Inv.unmark I ok,r,q⟩
end
theorem qHA{P:Program}{w:World}{H:Hp}{h:Heap}{a:Addr}{o:HO}(x:L2.ObjOk P w H h a o):∃ ob,h.get? a=some ob:=by
 cases o with
 |lst xs=>obtain ⟨_,_,_,_,e⟩:=x;exact⟨_,e⟩
 |tup xs=>obtain ⟨_,_,_,ob,e,_⟩:=x;exact⟨_,e⟩
 |dK kvs=>obtain ⟨_,_,_,_,o,_,_,e,_⟩:=x;exact⟨_,e⟩
 |dT kvs=>obtain ⟨_,_,_,_,o,_,_,e,_⟩:=x;exact⟨_,e⟩
 |set S n=>obtain ⟨o,_,_,_,e,_⟩:=x;exact⟨_,e⟩
 |ins C dx fs=>obtain ⟨_,_,_,e,_⟩:=x;exact⟨_,e⟩
 |own y=>exact x
 |xd fs=>obtain ⟨_,⟨_,_,_,e,_⟩,_⟩:=x;exact⟨_,e⟩
 |rng lo hi=>obtain ⟨_,_,_,e⟩:=x;exact⟨_,e⟩
 |frz ob u=>obtain ⟨e,_⟩:=x;exact⟨_,e⟩
 |tbl ps=>exact⟨_,(show h.get? a=some _ from x)⟩
 |met f y=>exact⟨_,(show h.get? a=some _ from x)⟩
 |ext φ=>obtain ⟨_,⟨_,e⟩,_⟩:=x;exact⟨_,e⟩
section
variable {X:Cx}{pins:List (Addr × Obj)}{σ:L2.St}{H:Hp}{s:Shared}
end
section
variable {X:Cx}{F:Nat->List D->M D}{B:Nat}{W:WX}{ex:Nat->Option Addr}
def HOf(X:Cx)(F:Nat->List D->M D)(B:Nat)(ex:Nat->Option Addr):List ExceptHandler->CH->Prop
 | [],.nil=>True
 | .ExceptHandler (some (.Name x np)) none body pos::r,.cons cs k r'=>(∃ C,L2.Gl X x/\(x == ("__debug__":Str))=false/\X.mg x=some (.ref C)/\∀ c D,ex c=some D->PySem.W.exmOne X.K (.ref D) (.ref C)=some (cs.contains c)) /\
   (∃ b0 rest,body=b0::rest)/\(∀ e,PSs (mark X e) body (tDS X.K WF (qB F B k)))/\HOf X F B ex r r'
 |_,_=>False
structure Look (X:Cx) (ex:Nat->Option Addr) (pins:List (Addr × Obj)) (σ:L2.St) (Hc H:Hp) (s0 s:Shared) (Bs:Heap) (a C:Addr) (a0:Value):Prop where
 inv:Inv X pins σ Hc s0
 fl:Heap.FlyingW Bs X.stack a (.ref C) a0 s.heap
 hok:HOk X.prog X.w H Bs
 cov:∀ b o,s0.heap.get? b=some o->b∉frs X.stack->∃ o',Bs.get? b=some o'
 un:L2.Un (frs X.stack) [] Hc H s0.heap s.heap
 os:s.os=s0.os
 bare:AllBare s.gens
theorem Look.go{pins:List (Addr × Obj)}{σ:L2.St}{Hc H:Hp}{s0 s:Shared}{Bs h':Heap}{a C:Addr}{a0:Value}(L:Look X ex pins σ Hc H s0 s Bs a C a0)(fl:Heap.FlyingW Bs X.stack a (.ref C) a0 h')(up:s.heap.UpToSlots h'):Look X ex pins σ Hc H s0 { s with heap:=h' } Bs a C a0:=
 ⟨L.inv,fl,L.hok,L.cov,cQ L.un L.fl.1 L.cov L.fl.2.2.1 fl.1 up,L.os,L.bare⟩
theorem Look.now{pins:List (Addr × Obj)}{σ:L2.St}{Hc H:Hp}{s0 s:Shared}{Bs:Heap}{a C:Addr}{a0:Value}(L:Look X ex pins σ Hc H s0 s Bs a C a0):Inv X pins σ H s:=
 L.inv.call' L.os L.un (L.hok.kept L.fl.1) L.bare fun b hb=>absurd hb (by simp)
theorem Look.ty{pins:List (Addr × Obj)}{σ:L2.St}{Hc H:Hp}{s0 s:Shared}{Bs:Heap}{a C:Addr}{a0:Value}{M:Model}(L:Look X ex pins σ Hc H s0 s Bs a C a0):PySem.W.Looks M s.heap (typeOf (.ref a)) (.ref C):=by
 obtain ⟨ob,h1,h2⟩:=L.fl.there;exact h2 ▸ (PySem.W.Looks.ld h1).andThen .now
theorem Look.new{pins:List (Addr × Obj)}{σ:L2.St}{Hc H:Hp}{s0 s:Shared}{Bs:Heap}{a C:Addr}{a0:Value}(L:Look X ex pins σ Hc H s0 s Bs a C a0):s0.heap.get? a=none:=by
 cases q:s0.heap.get? a with
 |none=>rfl
 |some o=>
  exfalso
  by_cases hf:a∈frs X.stack
  ·obtain ⟨_,o2,k2,k3⟩:=L.fl.2.2.1.mem hf;obtain ⟨oe,vs,T,oT,ts,t1,t2,t3,_⟩:=L.fl.2.2.2;rw[t1] at k2;cases k2;exact k3 vs t3
  ·obtain ⟨o',e⟩:=L.cov a o q hf;rw[L.fl.2.1] at e;cases e
theorem Look.free{pins:List (Addr × Obj)}{σ:L2.St}{Hc H:Hp}{s0 s:Shared}{Bs:Heap}{a C:Addr}{a0:Value}(L:Look X ex pins σ Hc H s0 s Bs a C a0):H a=none:=by
 cases q:H a with
 |none=>rfl
 |some o=>obtain ⟨ob,e⟩:=qHA (L.hok a o q);rw[L.fl.2.1] at e;cases e
def Clz(X:Cx)(F:Nat->List D->M D)(B:Nat)(ex:Nat->Option Addr)(W:WX)(pins:List (Addr × Obj))(σ:L2.St)(E:Ends)(hs:List ExceptHandler)(ch:CH):Prop:=
 ∀ (Hc H:Hp) (s0 s:Shared) (Bs:Heap) (a C:Addr) (a0:Value) (c:Nat),ex c=some C->Look X ex pins σ Hc H s0 s Bs a C a0 ->
  (∃ ρ env h,RepS X.K ρ H env σ/\RepH X.K ρ h H/\PostS X.K W E ρ H (yO F B ch c env h))->wpAny (model X.prog X.w) X.A (handleBy (.ref a) X.env hs) (SP X pins E) X.xe s
theorem qNb{pins:List (Addr × Obj)}{σ:L2.St}{E:Ends}{x:Str}{np pos:Pos}{body:List Stmt}{r:List ExceptHandler}{cs:List Nat}{k:CS}{r':CH}(hh:HOf X F B ex (.ExceptHandler (some (.Name x np)) none body pos::r) (.cons cs k r'))(ih:Clz X F B ex W pins σ E r r'):Clz X F B ex W pins σ E (.ExceptHandler (some (.Name x np)) none body pos::r) (.cons cs k r'):=by
 rintro Hc H s0 s Bs a C a0 c hc L ⟨ρ,env,h,st,rh,p⟩
 obtain ⟨⟨C',g1,g2,g3,g4⟩,⟨b0,rest,hb⟩,hsu,hr⟩:=hh;have I:=L.now;rw[yO] at p;refine wpAny_handleBy_cons (codeAny_handlers_test (L2.ld_glob (X:=mark X (.ref a)) (Inv.mark I) g1 g3 ?_ g2)) (by intro q;cases q);refine (PySem.W.exm_one I.kIn L.ty (g4 c C hc)).here ?_;cases q:cs.contains c with
 |false=>rw[q] at p;exact ih _ _ _ _ _ _ _ _ _ hc L ⟨ρ,env,h,st,rh,p⟩
 |true=>
  rw[q] at p;subst hb;refine codeAny_handlers_suite (lands_againW L.fl fun h6 fl6 up6=>?_);have L6:=L.go fl6 up6;have p:PostS X.K W E ρ H (SR.calm (qB F B k env h)):=p
  have p':PostS X.K WF E ρ H (qB F B k env h):=by
   cases z:qB F B k env h with
   |nx _ _=>rw[z] at p;exact p
   |rt _ _=>rw[z] at p;exact p
   |bk _ _=>rw[z] at p;exact p
   |ct _ _=>rw[z] at p;exact p
   |exc _ _ _=>rw[z] at p;exact False.elim p
   |bad=>rw[z] at p;exact p
  exact wpAny_mono (hsu (.ref a) pins _ σ H E (Inv.mark L6.now) ⟨ρ,env,h,st,rh,p'⟩) (fun f s7 q7=>SP.unmark q7 I.ok) fun _ _ z=>False.elim z
theorem qNa{pins:List (Addr × Obj)}{σ:L2.St}{E:Ends}:∀ (hs:List ExceptHandler) (ch:CH),HOf X F B ex hs ch->Clz X F B ex W pins σ E hs ch:=by
 intro hs
 induction hs with
 |nil=>
  intro ch hh;cases ch with
  |nil=>rintro Hc H s0 s Bs a C a0 c hc L ⟨ρ,env,h,st,rh,p⟩;exact False.elim p
  |_=>exact False.elim hh
 |cons hd r ih=>
  intro ch hh;obtain ⟨ty,nm,body,pos⟩:=hd;cases ty with
  |none=>exact False.elim hh
  |some t=>
   cases t with
   |Name x np=>
    cases nm with
    |none=>
     cases ch with
     |cons cs k r'=>exact qNb hh (ih r' hh.2.2.2)
     |_=>exact False.elim hh
    |some n=>exact False.elim hh
   |_=>exact False.elim hh
theorem qF1{body:List Stmt}{h0:ExceptHandler}{hs:List ExceptHandler}{pos:Pos}{cb:CS}{ch:CH}(hstk:X.stack=X.env::X.outer/\X.env.frame=some X.env.locals)(hh:HOf X F B ex (h0::hs) ch)
  (hb:∀ (pins:List (Addr × Obj)) (W1:WX),PSs (hold X pins fun e s'=>∃ pins' σ H s0,Inv (hold X pins fun _ _=>False) pins' σ H s0/\CXD X.prog X.w ex X.stack H s0 (fun _ co H'=>∃ c,co=some c/\W1 c σ H') e s') body (tDS X.K W1 (qB F B cb))) :
  PS X (.Try body (h0::hs) [] [] pos) (tDS X.K W (qB F B (.tryx cb ch))):=by
 intro pins s σ H E I t;obtain ⟨ρ,env,h,st,r,p⟩:=t;rw[qB] at p;show wpAny _ _ (do standAt pos;tryStmt false (execs body X.env) (h0::hs) (execs [] X.env) [] X.env) _ _ s;refine wpAny_bind (wpAny_standAt (wpAny_tryStmt_except ?_))
 have p1:PostS X.K (fun c st H'=>∃ ρ env h,RepS X.K ρ H' env st/\RepH X.K ρ h H'/\PostS X.K W E ρ H' (yO F B ch c env h)) E ρ H (qB F B cb env h):=by
  cases z:qB F B cb env h with
  |nx _ _=>rw[z] at p;exact p
  |rt _ _=>rw[z] at p;exact p
  |bk _ _=>rw[z] at p;exact p
  |ct _ _=>rw[z] at p;exact p
  |exc c e g=>rw[z] at p;exact fun ρ' H' st' e' r' s'=>⟨ρ',e,g,s',r',PostS.mono p e'⟩
  |bad=>rw[z] at p;exact p
 refine wpAny_mono (hb pins _ [] s σ H E (Inv.hold I _) ⟨ρ,env,h,st,r,p1⟩) (fun f s1 q1=>?_) fun e s1 q1=>?_
 ·have q:=SP.unhold q1;cases f with
  |next=>exact wpAny_execs_nil q
  |brk=>exact q
  |cont=>exact q
  |ret u=>exact q
 ·obtain ⟨pins',σ',Hc,s0,I0,a,C,c,Bs,a0,H',rfl,h2,h3,h4,h5,h6,h7,h8,c',e',ρ',env',g',st',r',p'⟩:=q1;cases e';have I0':Inv X pins σ' Hc s0:=Inv.unhold I0;have L:Look X ex pins σ' Hc H' s0 s1 Bs a C a0:=⟨I0',h3,h4,h5,h6,h7,h8⟩;have fr:=I.ok.frames;rw[hstk.1] at fr;have fl:=h3;rw[hstk.1] at fl;refine wpAny_looks_onW fr hstk.2 fl fun h4' held up4=>?_;refine wpAny_landsW held fun h5' fl5 up5=>?_;rw[<- hstk.1] at fl5;exact qNa (h0::hs) ch hh _ _ _ _ _ _ _ _ _ h2 (L.go fl5 (up4.trans up5)) ⟨ρ',env',g',st',r',p'⟩
end
open PySem PySem.Spec PySem.Calls PyProof.Rows PySem.W
structure XGet (K:Frag) (C:Addr):Prop where
 ga:findIn K (.ref C) "__getattribute__"=some (some (.builtin "BaseException.__getattribute__"))
 gt:findIn K (.ref C) "__getattr__"=some none
 cl:findIn K (.ref C) "__class__"=some (some (.builtin "object.__class__"))
 ob:subIn K (.ref C) (.type "object")=some true
 be:subIn K (.ref C) (.type "BaseException")=some true
 is:isClsIn K C=true
section
variable {prog:Program}{w:World}{A:Around}{E:Value->Shared->Prop}{h:Heap}{g:Array GenState}{d:Drawn}{t:Nat}{os:OsState}{a C:Addr}{o:Obj}{K:Frag}
end
theorem qBw{K:PySem.W.Frag}{t c:Value}{b:Bool}(h:PySem.W.exmOne K t c=some b)(hb:(t == c)=true->b=true):PySem.W.kitOne K t c=some b:=by
 unfold PySem.W.exmOne at h;unfold PySem.W.kitOne;split
 ·rename_i q;rw[hb q]
 ·split at h
  ·exact h
  ·cases h
section
variable {X:Cx}{F:Nat->List D->M D}{W:WX}
end
def vl(l:List Nat)(a:Nat):Nat:=l.foldl (fun a d=>a*256+d) a
theorem eH:∀ (f n:Nat) (acc:List Nat),n<256 ^ f->vl (vP f n acc) 0=vl acc n
 |0,n,acc,h=>by
  have:n=0:=by rw[Nat.pow_zero] at h;omega
  subst this;rfl
 |f+1,n,acc,h=>by
  unfold vP
  by_cases q:n=0
  ·rw[if_pos q,q]
  ·rw[if_neg q,eH f (n / 256) (n % 256::acc) (by rw[Nat.pow_succ] at h;exact Nat.div_lt_of_lt_mul (by rw[Nat.mul_comm];exact h))];show vl acc (n / 256*256+n % 256)=_;rw[Nat.div_add_mod' n 256]
theorem eG{a b:Nat}(ha:a<256 ^ 60)(hb:b<256 ^ 60)(h:qD a=qD b):a=b:=by
 unfold qD at h;have h1:(vP 60 a []).toArray=(vP 60 b []).toArray:=congrArg Str.cps h;have h2:vP 60 a []=vP 60 b []:=by simpa using h1
 have e1:=eH 60 a [] ha;have e2:=eH 60 b [] hb;rw[h2,e2] at e1;exact e1.symm
section
variable {K:PySem.W.Frag}{ρ:List Addr}{H:Hp}{C:Addr}
theorem RepF.len:∀ {fs:List (Nat × D)} {vs:List (Str × V)},RepF K ρ H C fs vs->vs.length=fs.length
 | [],_,h=>by cases h;rfl
 |x::xs,_,⟨v,r,h1,_,_,_,h3⟩=>by subst h1;simp[RepF.len h3]
theorem RepF.get{k:Nat}{d:D}:∀ {fs:List (Nat × D)} {vs:List (Str × V)},RepF K ρ H C fs vs->qJ k fs=some d->∃ v,vs.lookup (qD k)=some v/\RepV K ρ H d v/\L2.NoAttr K C (qD k)/\k<256 ^ 60
 | [],_,_,e=>by cases e
 | (g,x)::xs,_,⟨v,r,h1,hb,hn,h2,h3⟩,e=>by
  subst h1;unfold qJ at e
  by_cases q:(g == k)=true
  ·rw[if_pos q] at e;cases e
   have:g=k:=by simpa using q
   subst this
   exact⟨v,by simp[List.lookup],h2,hn,hb⟩
  ·rw[if_neg q] at e;obtain ⟨w,k1,k2,k3,k4⟩:=RepF.get h3 e;refine⟨w,?_,k2,k3,k4⟩;have ne:(qD k == qD g)=false:=beq_eq_false_iff_ne.mpr fun z=>q (by rw[eG k4 hb z];simp);show List.lookup (qD k) ((qD g,v)::r)=_;rw[List.lookup_cons,ne];exact k1
theorem RepF.none{k:Nat}(hk:k<256 ^ 60):∀ {fs:List (Nat × D)} {vs:List (Str × V)},RepF K ρ H C fs vs->qJ k fs=none->vs.lookup (qD k)=none
 | [],_,h,_=>by cases h;rfl
 | (g,x)::xs,_,⟨v,r,h1,hb,hn,h2,h3⟩,e=>by
  subst h1;unfold qJ at e
  by_cases q:(g == k)=true
  ·rw[if_pos q] at e;cases e
  ·rw[if_neg q] at e;have ne:(qD k == qD g)=false:=beq_eq_false_iff_ne.mpr fun z=>q (by rw[eG hk hb z];simp);show List.lookup (qD k) ((qD g,v)::r)=_;rw[List.lookup_cons,ne];exact RepF.none hk h3 e
theorem RepF.put{k:Nat}{d:D}{v:V}(hk:k<256 ^ 60)(hn:L2.NoAttr K C (qD k))(hv:RepV K ρ H d v):∀ {fs:List (Nat × D)} {vs:List (Str × V)},RepF K ρ H C fs vs->RepF K ρ H C (qZ k d fs) (L2.putF (qD k) v vs)
 | [],_,h=>by cases h;exact⟨v,[],rfl,hk,hn,hv,rfl⟩
 | (g,x)::xs,_,⟨w,r,h1,hb,hn',h2,h3⟩=>by
  subst h1;unfold qZ;show RepF K ρ H C _ (if qD g=qD k then (qD g,v)::r else (qD g,w)::L2.putF (qD k) v r)
  by_cases q:(g == k)=true
  ·have:g=k:=by simpa using q
   subst this;rw[if_pos q,if_pos rfl]
   exact⟨v,r,rfl,hk,hn,hv,h3⟩
  ·have hb':g<256 ^ 60:=hb;rw[if_neg q,if_neg fun z=>q (by rw[eG hb' hk z];simp)]
   exact⟨w,_,rfl,hb,hn',h2,RepF.put hk hn hv h3⟩
end
section
variable {X:Cx}{F:Nat->List D->M D}{B:Nat}{W:WX}
theorem qNF{e:Expr}{ca:CE}{k:Nat}{f:Str}{pos:Pos}(hf:f=qD k)(he:PE X e (tD X.K W (den F ca)))(hb:attributeBase e f X.env (eval e X.env)=eval e X.env):PE X (.Attribute e f pos) (tD X.K W (den F (.un (.fld k) ca))):=by
 subst hf;refine PE.imp (L2.pe_fld he hb) fun σ H Q t=>?_;obtain ⟨ρ,env,h,s,r,p⟩:=one t;refine⟨ρ,env,h,s,r,Post.imp p fun ρ' H' d q v hv=>?_⟩;obtain ⟨w,ρ2,h2,d2,r2,hd,p2⟩:=q v hv;cases d2 with
 |ref i=>
  have p2:PostV X.K w Q ρ2 H' (match h2[i]? with | some (.ins _ fs)=>(match qJ k fs with | some d=>.ok d h2 | none=>.bad) | _=>.bad):=p2;split at p2
  ·rename_i c fs hi;cases g:qJ k fs with
   |none=>rw[g] at p2;exact False.elim p2
   |some d=>
    rw[g] at p2;obtain ⟨a,ha,C,dx,vs,k1,k2,k3,k4⟩:=r2.obj i _ hi;obtain ⟨a',ha',rfl⟩:=hd;rw[ha] at ha';cases ha';obtain ⟨u,l1,l2,l3,_⟩:=k4.get g
    exact⟨a,C,dx,vs,u,rfl,k3,k2,l3,l1,PostV.now p2 r2 l2⟩
  ·exact False.elim p2
 |_=>exact (show False from p2).elim
theorem qF4{o e:Expr}{ca ce:CE}{k:Nat}{cs:List Nat}{f:Str}{pos pos':Pos}(hf:f=qD k)(hk:k<256 ^ 60)(hna:∀ c C,cs.contains c=true->zJ X.K c C->L2.NoAttr X.K C (qD k))
  (ho:PE X o (tD X.K W (den F ca))) (he:PE X e (tD X.K W (den F ce))) (hs:swapsWith e (some (.Attribute o f pos')) pos.line X.env=pure false):PS X (.Assign [.Attribute o f pos'] e pos) (tDS X.K W (qB F B (.setF ca k cs ce))):=by
 subst hf;refine PS.imp (L2.ps_fld ho he hs) fun E σ H t=>?_;obtain ⟨ρ,env,h,s,r,p⟩:=t;rw[qB] at p;refine⟨ρ,env,h,s,r,PostS.ofR s p fun ρ1 h1 d H1 e1 r1 q v hv=>⟨ρ1,env,h1,s.mono e1,r1,?_⟩⟩;have q:PostS X.K W E ρ1 H1 (SR.ofR env ((den F ca env h1).bind fun x g=>gN k cs d x g) fun _ h2=>.nx env h2):=q;cases z:den F ca env h1 with
 |ok x h2=>
  rw[z] at q;have q:PostS X.K W E ρ1 H1 (SR.ofR env (gN k cs d x h2) fun _ h2=>.nx env h2):=q;intro ρ2 H2 e2 r2 vx hvx;cases x with
  |ref i=>
   have q:PostS X.K W E ρ1 H1 (SR.ofR env (match h2[i]? with | some (.ins c fs)=>if cs.contains c=true/\fs.length<1000 then .ok () (h2.set i (.ins c (qZ k d fs))) else .bad | _=>.bad) fun _ h2=>.nx env h2):=q;cases hi:h2[i]? with
   |none=>rw[hi] at q;exact False.elim q
   |some ob=>
    rw[hi] at q;cases ob with
    |ins c fs=>
     have q:PostS X.K W E ρ1 H1 (SR.ofR env (if cs.contains c=true/\fs.length<1000 then .ok () (h2.set i (.ins c (qZ k d fs))) else .bad) fun _ h2=>.nx env h2):=q
     by_cases hc:cs.contains c=true/\fs.length<1000
     ·rw[if_pos hc] at q;obtain ⟨a,ha,C,dx,vs,k1,k2,k3,k4⟩:=r2.obj i _ hi;obtain ⟨a',ha',rfl⟩:=hvx;rw[ha] at ha';cases ha';have na:=hna c C hc.1 k1;have stp:Step ρ2 H2 ρ2 (upd H2 a (.ins C dx (L2.putF (qD k) v vs))):=Step.turn k3 rfl (List.mem_of_getElem? ha);refine⟨a,C,dx,vs,rfl,k3,k2,na,by rw[k4.len];exact hc.2,?_⟩;have rf:=k4.put hk na (hv.mono e2 _ _);exact q ρ2 _ σ (e2.trans stp) (r2.setO hi rfl rfl ha k3 rfl ⟨C,dx,_,k1,k2,qI,rf.mono stp _ _⟩) ((s.mono e1).mono (e2.trans stp))
     ·rw[if_neg hc] at q;exact False.elim q
    |_=>exact (show False from q).elim
  |_=>exact (show False from q).elim
 |exc c h2=>rw[z] at q;exact fun ρ' H' e' r'=>q ρ' H' σ e' r' ((s.mono e1).mono e')
 |bad=>rw[z] at q;exact q
end
section
variable {X:Cx}{F:Nat->List D->M D}{B:Nat}{W:WX}{ex:Nat->Option Addr}{k:Nat}
def cN(X:Cx)(F:Nat->List D->M D)(k:Nat)(ex:Nat->Option Addr)(m:Str)(tb:List (Nat × Nat)):Prop:=
 ∀ cc fi C,tbN tb cc=some fi->zJ X.K cc C->L2.Cls X.K C/\∃ f fd ps,L2.Meth X.K C m f/\L2.Binds X.K fd ps []/\L2.FnOk X.prog X.w X.K X.mg X.base (CXD X.prog X.w ex) k f fd ps (spD X.K (F fi))
def mQ(X:Cx)(F:Nat->List D->M D)(W:WX)(σ:L2.St)(env:Env)(mk:Nat)(tb:List (Nat × Nat))(cl:CL)(Q:VK):VK:=fun x H1=>
 ∃ ρ h d,RepS X.K ρ H1 env σ/\RepH X.K ρ h H1/\RepV X.K ρ H1 d x/\PostV X.K (W.at σ) Q ρ H1 (((eL mk d).bind fun c=>match tbN tb c with | some f=>(qT F cl env).bind fun xs=>F f (d::xs) | none=>M.bad) h)
theorem qBj{mk:Nat}{tb:List (Nat × Nat)}{cl:CL}{ca:CE}{ρ:List Addr}{env:Env}{h:AH}{σ:L2.St}{H:Hp}{Q:VK}(st:RepS X.K ρ H env σ)(p:PostV X.K (W.at σ) Q ρ H (den F (.meth mk tb ca cl) env h)) :
  PostV X.K (W.at σ) (mQ X F W σ env mk tb cl Q) ρ H (den F ca env h):=by
 rw[den] at p;exact Post.bind p fun ρ1 h1 d H1 e1 r1 q v hv=>⟨ρ1,h1,d,st.mono e1,r1,hv,q⟩
theorem qBk{mk:Nat}{tb:List (Nat × Nat)}{cl:CL}{env:Env}{σ:L2.St}{H1:Hp}{Q:VK}{x:V}{m:Str}(hm:cN X F k ex m tb)(hn:m=qD mk)(hb:mk<256 ^ 60)(q:mQ X F W σ env mk tb cl Q x H1) :
  ∃ a C dx vs f fd ps ρ h d,x=.ref a/\H1 a=some (.ins C dx vs)/\vs.lookup m=none/\L2.Cls X.K C/\L2.Meth X.K C m f/\L2.Binds X.K fd ps []/\RepS X.K ρ H1 env σ/\RepH X.K ρ h H1/\RepV X.K ρ H1 d x /\
   ∃ fi,L2.FnOk X.prog X.w X.K X.mg X.base (CXD X.prog X.w ex) k f fd ps (spD X.K (F fi))/\PostV X.K (W.at σ) Q ρ H1 ((qT F cl env).bind (fun xs=>F fi (d::xs)) h):=by
 obtain ⟨ρ,h,d,st,r,hd,p⟩:=q;cases d with
 |ref i=>
  have p:PostV X.K (W.at σ) Q ρ H1 ((match h[i]? with | some (.ins c fs)=>if (qJ mk fs).isNone then R.ok c h else .bad | _=>.bad).bind fun c g=>(match tbN tb c with | some f=>(qT F cl env).bind fun xs=>F f (.ref i::xs) | none=>M.bad) g):=p;cases hi:h[i]? with
  |none=>rw[hi] at p;exact False.elim p
  |some ob=>
   rw[hi] at p;cases ob with
   |ins c fs=>
    cases g:qJ mk fs with
    |some _=>rw[show (match some (O.ins c fs) with | some (.ins c fs)=>if (qJ mk fs).isNone then R.ok c h else .bad | _=>.bad)=(if (qJ mk fs).isNone then R.ok c h else .bad) from rfl,g] at p;exact False.elim p
    |none=>
     rw[show (match some (O.ins c fs) with | some (.ins c fs)=>if (qJ mk fs).isNone then R.ok c h else .bad | _=>.bad)=(if (qJ mk fs).isNone then R.ok c h else .bad) from rfl,g] at p;have p:PostV X.K (W.at σ) Q ρ H1 ((match tbN tb c with | some f=>(qT F cl env).bind fun xs=>F f (.ref i::xs) | none=>M.bad) h):=p;obtain ⟨a,ha,C,dx,vs,k1,k2,k3,k4⟩:=r.obj i _ hi;obtain ⟨a',ha',rfl⟩:=id hd;rw[ha] at ha';cases ha';cases ht:tbN tb c with
     |none=>rw[ht] at p;exact False.elim p
     |some fi=>rw[ht] at p;obtain ⟨_,f,fd,ps,m1,m2,m3⟩:=hm c fi C ht k1;refine⟨a,C,dx,vs,f,fd,ps,ρ,h,.ref i,rfl,k3,?_,k2,m1,m2,st,r,hd,fi,m3,p⟩;rw[hn];exact k4.none hb g
   |_=>exact False.elim p
 |_=>exact False.elim p
theorem qAO{fi:Nat}{d:D}{ρ1:List Addr}{h1:AH}{H1:Hp}{env:Env}{σ:L2.St}{Q:VK}{cl:CL}{x:V}(hd:RepV X.K ρ1 H1 d x)(p:PostV X.K (W.at σ) Q ρ1 H1 ((qT F cl env).bind (fun xs=>F fi (d::xs)) h1)) :
  Post X.K (W.at σ) (fun ρ' H' ds=>∀ vs,RepL X.K ρ' H' ds vs->spD X.K (F fi) (x::vs) H' Q fun _ co H'=>∃ c,co=some c/\W c σ H') ρ1 H1 (qT F cl env h1):=
 Post.bind p fun ρ2 h2 ds H2 e2 r2 q vs hvs=>⟨ρ2,h2,d::ds,r2,⟨x,vs,rfl,hd.mono e2 _ _,hvs⟩,by
  cases z:F fi (d::ds) h2 with
  |ok a g=>rw[z] at q;exact q
  |exc c g=>rw[z] at q;exact fun ρ' H' e' r' _=>⟨c,rfl,q ρ' H' e' r'⟩
  |bad=>rw[z] at q;exact q⟩
theorem qC6{o:Expr}{m:Str}{apos pos:Pos}{args:List Expr}{env:PySem.Env}(hbase:attributeBase o m env (eval o env)=eval o env)(hline:(apos.endLine == pos.line)=true)
  (hfew:methodCallForm (args.length+([]:List Keyword).length) (backTo pos (starEach args env)) (backToKw pos (keywordEach [] env))=true) :
  eval (.Call (.Attribute o m apos) args [] pos) env=(do
   let ov <- eval o env
   standAt apos.atName
   let (f,first) <- holding [ov] (getMethod ov m (do return (<- importBound o env).getD true))
   callWith pos f first (backTo pos (starEach args env)) (backToKw pos (keywordEach [] env))):=by
 rw[arm_eval_Call,hbase];unfold methodCall;rw[hfew];unfold calleeOf methodCallPos;simp only[hline,Bool.not_true,Bool.false_or,if_true];rfl
theorem qM4{o e:Expr}{es:List Expr}{ca:CE}{cl:CL}{mk:Nat}{tb:List (Nat × Nat)}{m:Str}{apos pos:Pos}(hm:cN X F k ex m tb)(hn:m=qD mk)(hb:mk<256 ^ 60)(hr:L2.Room k X.A)
  (hxc:∀ pins σ H s0 e s',Inv X pins σ H s0->CXD X.prog X.w ex X.stack H s0 (fun _ co H'=>∃ c,co=some c/\W c σ H') e s'->X.xe e s')
  (ho:PE X o (tD X.K W (den F ca))) (ha:PA X (e::es) (tDL X.K W (qT F cl))) (hbase:attributeBase o m X.env (eval o X.env)=eval o X.env) (hline:(apos.endLine == pos.line)=true)
  (hfew:methodCallForm ((e::es).length+([]:List Keyword).length) (backTo pos (starEach (e::es) X.env)) (backToKw pos (keywordEach [] X.env))=true)
  (hst:starEach (e::es) X.env=(false,eval e X.env)::starEach es X.env) (hpl:(backTo pos (starEach es X.env)).any (·.1)=false) :
  PE X (.Call (.Attribute o m apos) (e::es) [] pos) (tD X.K W (den F (.meth mk tb ca cl))):=by
 intro pins s σ H Q I t;obtain ⟨ρ,env,h,st,r,p⟩:=t;refine PySem.W.methodCall_KW (thn (ho pins s σ H (mQ X F W σ env mk tb cl Q) I ⟨ρ,env,h,st,r,qBj st p⟩) fun u s1 z=>?_) (qC6 hbase hline hfew);obtain ⟨x,H1,I1,rx,q⟩:=z;obtain ⟨a,C,dx,vs,f,fd,ps,ρ1,h1,d,rfl,hH,hl,hc,hmt,hbi,st1,r1,hd,fi,FO,p1⟩:=qBk hm hn hb q;obtain rfl:u=Value.ref a:=rx;refine L2.getmeth_ok I1 hH hc hmt hl ?_;refine PySem.W.callWith_K (first:=[.ref a]) (h₀:=X.base) I.ok.mod.kin hmt.kp (thn (ha pos pins s1 σ H1 _ I1 ⟨ρ1,env,h1,st1,r1,qAO hd p1⟩) fun us s2 ⟨vs2,H2,I2,r2,q2⟩=>⟨I2.kIn,?_⟩) hst hpl;exact gR (us:=.ref a::us) (vs:=.ref a::vs2) FO hr hbi (fun e s' z=>hxc pins σ H2 s2 e s' I2 z) I2 (.cons rfl r2) q2
theorem qM3{o:Expr}{ca:CE}{mk:Nat}{tb:List (Nat × Nat)}{m:Str}{apos pos:Pos}(hm:cN X F k ex m tb)(hn:m=qD mk)(hb:mk<256 ^ 60)(hr:L2.Room k X.A)
  (hxc:∀ pins σ H s0 e s',Inv X pins σ H s0->CXD X.prog X.w ex X.stack H s0 (fun _ co H'=>∃ c,co=some c/\W c σ H') e s'->X.xe e s')
  (ho:PE X o (tD X.K W (den F ca))) (hbase:attributeBase o m X.env (eval o X.env)=eval o X.env) (hline:(apos.endLine == pos.line)=true):PE X (.Call (.Attribute o m apos) [] [] pos) (tD X.K W (den F (.meth mk tb ca .nil))):=by
 intro pins s σ H Q I t;obtain ⟨ρ,env,h,st,r,p⟩:=t;refine PySem.W.methodCall_KW (thn (ho pins s σ H (mQ X F W σ env mk tb .nil Q) I ⟨ρ,env,h,st,r,qBj st p⟩) fun u s1 z=>?_) (qC6 hbase hline rfl);obtain ⟨x,H1,I1,rx,q⟩:=z;obtain ⟨a,C,dx,vs,f,fd,ps,ρ1,h1,d,rfl,hH,hl,hc,hmt,hbi,st1,r1,hd,fi,FO,p1⟩:=qBk hm hn hb q;obtain rfl:u=Value.ref a:=rx;refine L2.getmeth_ok I1 hH hc hmt hl ?_;have q2:=Post.ret (a:=([]:List D)) (h:=h1) (qAO (cl:=.nil) hd p1) r1 [] rfl;exact PySem.W.callWith_K0 (first:=[.ref a]) I1.kIn hmt.kp (gR (us:=[.ref a]) (vs:=[.ref a]) FO hr hbi (fun e s' z=>hxc pins σ H1 s1 e s' I1 z) I1 (.cons rfl .nil) q2)
theorem qAi{pins:List (Addr × Obj)}{σ:L2.St}{H:Hp}{s:Shared}{Q:VK}{us:List Value}{vs:List V}{C f:Addr}{fd:FuncData}{ps:List Str}{sp:L2.Sp}{E:XK}(M:L2.Mk X.K C f)(F:L2.FnOk X.prog X.w X.K X.mg X.base (CXD X.prog X.w ex) k f fd ps sp)(hr:L2.Room (k+1) X.A){ds:List Value}{dvs:List V}(hb:L2.Binds X.K fd ps ds)(hd:Vals dvs ds)
  (hx:∀ pins H s e s',Inv X pins σ H s->CXD X.prog X.w ex X.stack H s E e s'->X.xe e s') (I:Inv X pins σ H s) (r:Vals vs us)
  (h:∀ x dx,H x=none->H dx=none->dx≠x->sp (.ref x::(vs++dvs)) (upd (upd H dx (.own x)) x (.ins C dx [])) (fun v H2=>v=.non/\Q (.ref x) H2) E) :
  wpAny (model X.prog X.w) X.A (call (.ref C) us) (EP X pins σ Q) X.xe s:=by
 have hq:=h (s.heap.objs.size+1) s.heap.objs.size (I.hok.fresh (Nat.le_succ _)) (I.hok.fresh (Nat.le_refl _)) (Nat.ne_of_lt (Nat.lt_succ_self _));have I2:=L2.Inv.made (C:=C) I;have r2:Vals (V.ref (s.heap.objs.size+1)::(vs++dvs)) (Value.ref (s.heap.objs.size+1)::(us++ds)):=.cons rfl (r.append hd)
 have hl:(Value.ref (s.heap.objs.size+1)::us++ds).length=ps.length:=by
  have e:=r2.length;rw[F.len _ _ _ _ hq] at e;exact e.symm
 refine wpAny_call (L2.make_map (f:=f) I.kIn M.makes M.init (beq_iff_eq.mp M.fn) (codeAny_mono (F.run _ X.stack _ _ ⟨Value.ref (s.heap.objs.size+1)::us,[]⟩ (Value.ref (s.heap.objs.size+1)::(us++ds)) _ _ E (hr.make C us [])
  (I2.env0.make C us []) (hb _ (Value.ref (s.heap.objs.size+1)::us) I2.kIn hl) r2 hq) fun r s' hq'=>?_))
 cases r with
 |error e=>exact hx pins _ _ e s' I2 hq'
 |ok fl=>
  cases fl with
  |ret u=>
   obtain ⟨v,H',I3,rv,ev,q3⟩:=I2.after hq';subst ev
   exact⟨rv,⟨V.ref (s.heap.objs.size+1),H',I3,rfl,q3⟩⟩
  |next=>exact False.elim hq'
  |brk=>exact False.elim hq'
  |cont=>exact False.elim hq'
theorem qBT{c fi:Nat}{C:Addr}{ρ1:List Addr}{h1:AH}{H1:Hp}{Q:VK}{ds:List D}{vs:List V}{w:W1}(hc:zJ X.K c C)(hcl:L2.Cls X.K C)(r:RepH X.K ρ1 h1 H1)(hl:RepL X.K ρ1 H1 ds vs)
  (p:PostV X.K w Q ρ1 H1 (wY F c fi ds h1)):∀ x dx,H1 x=none->H1 dx=none->dx≠x ->
  spD X.K (F fi) (.ref x::(vs++[])) (upd (upd H1 dx (.own x)) x (.ins C dx [])) (fun v H2=>v=.non/\Q (.ref x) H2) fun _ co H'=>∃ c,co=some c/\w c H':=by
 intro x dx hx hdx ne;rw[List.append_nil];have hx':upd H1 dx (.own x) x=none:=by rw[qG (Ne.symm ne)];exact hx
 have s1:Step ρ1 H1 ρ1 (upd H1 dx (.own x)):=Step.fresh hdx;have s2:Step ρ1 (upd H1 dx (.own x)) (ρ1++[x]) (upd (upd H1 dx (.own x)) x (.ins C dx [])):=Step.new1 hx';have r2:RepH X.K (ρ1++[x]) (h1++[.ins c []]) (upd (upd H1 dx (.own x)) x (.ins C dx [])):=(r.fresh hdx).newO hx' ⟨C,dx,[],hc,hcl,qI,rfl⟩;have hi:(ρ1++[x])[h1.length]?=some x:=by rw[<- r.len,List.getElem?_append_right (Nat.le_refl _)];simp
 refine⟨ρ1++[x],h1++[.ins c []],.ref h1.length::ds,r2,⟨.ref x,vs,rfl,⟨x,hi,rfl⟩,hl.mono (s1.trans s2) _ _⟩,?_⟩;have p:PostV X.K w Q ρ1 H1 ((F fi (.ref h1.length::ds) (h1++[.ins c []])).bind fun d h'=>match d with | .non=>.ok (.ref h1.length) h' | _=>.bad):=p;cases z:F fi (.ref h1.length::ds) (h1++[.ins c []]) with
 |ok d g=>
  rw[z] at p;cases d with
  |non=>intro ρ' H' e' r' v hv;refine⟨hv,?_⟩;have e2:=(s1.trans s2).trans e';exact p ρ' H' e2 r' (.ref x) ⟨x,vC e'.pre hi,rfl⟩
  |_=>exact False.elim p
 |exc cc g=>rw[z] at p;exact fun ρ' H' e' r' _=>⟨cc,rfl,p ρ' H' ((s1.trans s2).trans e') r'⟩
 |bad=>rw[z] at p;exact p
theorem qM6 {y:Str} {e:Expr} {es:List Expr} {cl:CL} {c fi:Nat} {C f:Addr} {fd:FuncData} {ps:List Str} {p1 pos:Pos} (hg:L2.Gl X y) (hdb:(y == ("__debug__":Str))=false) (hmg:X.mg y=some (.ref C)) (hc:zJ X.K c C) (hcl:L2.Cls X.K C) (M:L2.Mk X.K C f)
  (hb:L2.Binds X.K fd ps []) (FO:L2.FnOk X.prog X.w X.K X.mg X.base (CXD X.prog X.w ex) k f fd ps (spD X.K (F fi))) (hr:L2.Room (k+1) X.A)
  (hxc:∀ pins σ H s0 e s',Inv X pins σ H s0->CXD X.prog X.w ex X.stack H s0 (fun _ co H'=>∃ c,co=some c/\W c σ H') e s'->X.xe e s')
  (ha:PA X (e::es) (tDL X.K W (qT F cl))) (hst:starEach (e::es) X.env=(false,eval e X.env)::starEach es X.env) (hpl:(backTo pos (starEach es X.env)).any (·.1)=false) :
  PE X (.Call (.Name y p1) (e::es) [] pos) (tD X.K W (den F (.make c fi cl))):=by
 intro pins s σ H Q I t;obtain ⟨ρ,env,h,st,r,p⟩:=t;rw[den] at p;refine wpAny_Call_Name_kw (L2.ld_glob I hg hmg ?_ hdb)
 refine PySem.W.callWith_K (h₀:=X.base) I.ok.mod.kin M.kp (thn (ha pos pins s σ H (fun vs H1=>∀ x dx,H1 x=none->H1 dx=none->dx≠x->spD X.K (F fi) (.ref x::(vs++[])) (upd (upd H1 dx (.own x)) x (.ins C dx [])) (fun v H2=>v=.non/\Q (.ref x) H2) fun _ co H'=>∃ c,co=some c/\W c σ H') I
  ⟨ρ,env,h,st,r,Post.bind p fun ρ1 h1 ds H1 e1 r1 q vs hvs=>qBT hc hcl r1 hvs q⟩) fun us s1 ⟨vs,H1,I1,rv,q⟩=>⟨I1.kIn,?_⟩) hst hpl
 exact qAi M FO hr hb .nil (fun pins H s e s' I z=>hxc pins σ H s e s' I z) I1 rv q
theorem qM5 {y:Str} {c fi:Nat} {C f:Addr} {fd:FuncData} {ps:List Str} {p1 pos:Pos} (hg:L2.Gl X y) (hdb:(y == ("__debug__":Str))=false) (hmg:X.mg y=some (.ref C)) (hc:zJ X.K c C) (hcl:L2.Cls X.K C) (M:L2.Mk X.K C f)
  (hb:L2.Binds X.K fd ps []) (FO:L2.FnOk X.prog X.w X.K X.mg X.base (CXD X.prog X.w ex) k f fd ps (spD X.K (F fi))) (hr:L2.Room (k+1) X.A)
  (hxc:∀ pins σ H s0 e s',Inv X pins σ H s0->CXD X.prog X.w ex X.stack H s0 (fun _ co H'=>∃ c,co=some c/\W c σ H') e s'->X.xe e s') :
  PE X (.Call (.Name y p1) [] [] pos) (tD X.K W (den F (.make c fi .nil))):=by
 intro pins s σ H Q I t;obtain ⟨ρ,env,h,st,r,p⟩:=t;rw[den,qT] at p;refine wpAny_Call_Name_kw (L2.ld_glob I hg hmg ?_ hdb);exact PySem.W.callWith_K0 I.kIn M.kp (qAi (us:=[]) (vs:=[]) M FO hr hb .nil (fun pins H s e s' I z=>hxc pins σ H s e s' I z) I .nil (qBT (ds:=[]) hc hcl r rfl p))
end
section
variable {X:Cx}{F:Nat->List D->M D}{B:Nat}{W:WX}
theorem qKW(n:Nat)(i:Int):L2.ixN n i=ixN n i:=rfl
theorem RepL.set{K:PySem.W.Frag}{ρ:List Addr}{H:Hp}{d:D}{v:V}(hv:RepV K ρ H d v):∀ {ds:List D} {vs:List V} (n:Nat),RepL K ρ H ds vs->RepL K ρ H (ds.set n d) (vs.set n v)
 | [],_,n,h=>by cases h;simp[RepL]
 |x::ds,_,0,⟨u,r,h1,h2,h3⟩=>by subst h1;exact⟨v,r,rfl,hv,h3⟩
 |x::ds,_,n+1,⟨u,r,h1,h2,h3⟩=>by subst h1;exact⟨u,r.set n v,rfl,h2,RepL.set hv n h3⟩
def qAq:V->V->V->Hp->(Hp->Prop)->Prop:=fun o i v H Q=>L2.rSetL o i v H Q\/∃ a vs k,o=.ref a/\i=L2.kV k/\H a=some (.dK vs)/\vs.length<sizeLine/\Q (upd H a (.dK (L2.putK vs k v)))
theorem qFu:L2.PSet X qAq:=by
 intro pins s σ H o i v ov iv u Q I ro ri rv h;rcases h with h | ⟨a,vs,k,rfl,rfl,hH,hl,q⟩
 ·exact L2.set_list pins s σ H o i v ov iv u Q I ro ri rv h
 ·cases ro;exact qMc I hH hl ri rv fun s' I'=>⟨_,I',q⟩
theorem dR{W:WX}{E:Ends}{ρ ρ3:List Addr}{H H3:Hp}{env:Env}{h3:AH}{σ:L2.St}{k:Nat}{ky:Ky}{d:D}{v vx vy:V}(s:RepS X.K ρ H env σ)(e:Step ρ H ρ3 H3)(r3:RepH X.K ρ3 h3 H3)(hvx:RepV X.K ρ3 H3 (.ref k) vx)(hvy:RepV X.K ρ3 H3 (kyD ky) vy)(hv:RepV X.K ρ3 H3 d v)
  (q:PostS X.K W E ρ H (SR.ofR env (wA d k ky h3) fun _ h2=>.nx env h2)):qAq vx vy v H3 fun H'=>E.nx σ H':=by
 have q:PostS X.K W E ρ H (SR.ofR env (match h3[k]? with | some (.dct kvs)=>(if kvs.length<16777216 then .ok () (h3.set k (.dct (vB kvs ky d))) else .bad) | _=>.bad) fun _ h2=>.nx env h2):=q;cases hk:h3[k]? with
 |none=>rw[hk] at q;exact False.elim q
 |some ob=>
  rw[hk] at q;cases ob with
  |dct kvs=>
   by_cases z:kvs.length<16777216
   ·have q:PostS X.K W E ρ H (SR.ofR env (if kvs.length<16777216 then .ok () (h3.set k (.dct (vB kvs ky d))) else .bad) fun _ h2=>.nx env h2):=q;rw[if_pos z] at q;obtain ⟨a,vs,rfl,ha,hH,hl⟩:=r3.dict hk hvx;have hy:=eV hvy;subst hy;have stp:Step ρ3 H3 ρ3 (upd H3 a (.dK (L2.putK vs (kyV ky) v))):=Step.turn hH rfl (List.mem_of_getElem? ha);refine .inr ⟨a,vs,kyV ky,rfl,rfl,hH,by rw[<- hl.length,zK];exact z,?_⟩;exact q ρ3 _ σ (e.trans stp) (r3.setDict hk ha hH (hl.put ky hv)) (s.mono (e.trans stp))
   ·have q:PostS X.K W E ρ H (SR.ofR env (if kvs.length<16777216 then .ok () (h3.set k (.dct (vB kvs ky d))) else .bad) fun _ h2=>.nx env h2):=q;rw[if_neg z] at q;exact False.elim q
  |_=>exact (show False from q).elim
theorem qF3{o i e:Expr}{ca ci ce:CE}{pos pos':Pos}(ho:PE X o (tD X.K W (den F ca)))(hi:PE X i (tD X.K W (den F ci)))(he:PE X e (tD X.K W (den F ce)))(ha:∀ v,assign (.Subscript o i pos') X.env v=(do
      let ov <- holding [v] (eval o X.env)
      let iv <- holding [v,ov] (eval i X.env)
      standAt pos'
      holding [v,ov,iv] (setItem ov iv v)
      release [v,ov,iv] [])) (hs:swapsWithSole [.Subscript o i pos'] e pos.line X.env=pure false) (hw:swappedStores [.Subscript o i pos'] e X.env=pure none):PS X (.Assign [.Subscript o i pos'] e pos) (tDS X.K W (qB F B (.setIx ca ci ce))):=by
  refine PS.imp (L2.ps_asg he (L2.pg_sub ho hi qFu ha) hs hw) fun E σ H t=>?_;obtain ⟨ρ,env,h,s,r,p⟩:=t;rw[qB] at p;refine⟨ρ,env,h,s,r,PostS.ofR s p fun ρ1 h1 d H1 e1 r1 q v hv=>⟨ρ1,env,h1,s.mono e1,r1,?_⟩⟩;have q:PostS X.K W E ρ1 H1 (SR.ofR env ((den F ca env h1).bind fun x g=>((den F ci env).bind fun y=>yZ d x y) g) fun _ h2=>.nx env h2):=q;cases z:den F ca env h1 with
  |ok x h2=>
    rw[z] at q;have q:PostS X.K W E ρ1 H1 (SR.ofR env ((den F ci env h2).bind fun y g=>yZ d x y g) fun _ h2=>.nx env h2):=q;intro ρ2 H2 e2 r2 vx hvx;refine⟨ρ2,env,h2,(s.mono e1).mono e2,r2,?_⟩;cases z2:den F ci env h2 with
    |ok y h3=>
      rw[z2] at q;have q:PostS X.K W E ρ1 H1 (SR.ofR env (yZ d x y h3) fun _ h2=>.nx env h2):=q;intro ρ3 H3 e3 r3 vy hvy;cases x with
      |ref k=>
        cases y with
        |int j=>
          have q:PostS X.K W E ρ1 H1 (SR.ofR env (match h3[k]? with | some (.lst xs)=>(match ixN xs.length j with | some p=>.ok () (h3.set k (.lst (xs.set p d))) | none=>.bad) | _=>wA d k (.int j) h3) fun _ h2=>.nx env h2):=q;have e13:=e2.trans e3;cases hk:h3[k]? with
          |none=>rw[hk] at q;exact dR (ky:=.int j) (s.mono e1) e13 r3 (hvx.mono e3 _ _) hvy (hv.mono e13 _ _) q
          |some ob=>
            rw[hk] at q;cases ob with
            |lst xs=>
              have q:PostS X.K W E ρ1 H1 (SR.ofR env (match ixN xs.length j with | some p=>.ok () (h3.set k (.lst (xs.set p d))) | none=>.bad) fun _ h2=>.nx env h2):=q;cases hx:ixN xs.length j with
              |none=>rw[hx] at q;exact False.elim q
              |some n=>rw[hx] at q;cases hvy;obtain ⟨a,vs,rfl,ha',hH,hl⟩:=r3.own hk (hvx.mono e3 _ _);have stp:Step ρ3 H3 ρ3 (upd H3 a (.lst (vs.set n v))):=Step.turn hH rfl (List.mem_of_getElem? ha');refine .inl ⟨a,vs,j,n,rfl,rfl,hH,by rw[qKW,hl.length];exact hx,?_⟩;exact q ρ3 _ σ (e13.trans stp) (r3.setList hk ha' hH (RepL.set ((hv.mono e13 _ _)) n hl)) ((s.mono e1).mono (e13.trans stp))
            |_=>exact dR (ky:=.int j) (s.mono e1) e13 r3 (hvx.mono e3 _ _) hvy (hv.mono e13 _ _) q
        |str j=>exact dR (ky:=.str j) (s.mono e1) (e2.trans e3) r3 (hvx.mono e3 _ _) hvy (hv.mono (e2.trans e3) _ _) q
        |_=>exact (show False from q).elim
      |_=>exact (show False from q).elim
    |exc c h3=>rw[z2] at q;exact fun ρ' H' e' r'=>q ρ' H' σ (e2.trans e') r' ((s.mono e1).mono (e2.trans e'))
    |bad=>rw[z2] at q;exact q
  |exc c h2=>rw[z] at q;exact fun ρ' H' e' r'=>q ρ' H' σ e' r' ((s.mono e1).mono e')
  |bad=>rw[z] at q;exact q
def qAr:List V->Hp->VK->Prop:=fun xs H Q=>∃ i j k:Int,xs=[.int i,.int j,.int k]/\Q (.int (if k<(if j<i then j else i) then k else (if j<i then j else i))) H
theorem qNm (hc:X.calm=true):qL X (.builtin "min") qAr:=by
 rintro pins s σ H xs us Q I rv ⟨i,j,k,rfl,q⟩
 cases rv with
 |cons r1 rv=>
 cases rv with
 |cons r2 rv=>
 cases rv with
 |cons r3 rv=>
 cases rv with
 |nil=>
  obtain ⟨t1,rfl⟩:=r1;obtain ⟨t2,rfl⟩:=r2;obtain ⟨t3,rfl⟩:=r3;refine min_three_ints (I.ok.hd hc) fun h' tk kk=>⟨_,H,I.kept kk,?_,q⟩
  by_cases h1:j<i
  ·rw[if_pos h1,if_pos h1]
   by_cases h2:k<j
   ·rw[if_pos h2,if_pos h2];exact⟨_,rfl⟩
   ·rw[if_neg h2,if_neg h2];exact⟨_,rfl⟩
  ·rw[if_neg h1,if_neg h1]
   by_cases h2:k<i
   ·rw[if_pos h2,if_pos h2];exact⟨_,rfl⟩
   ·rw[if_neg h2,if_neg h2];exact⟨_,rfl⟩
theorem qM2{ca cb cc:CE}{e:Expr}(he:PE X e (L2.tCB qAr (L2.tCons (tD X.K W (den F ca)) (L2.tCons (tD X.K W (den F cb)) (L2.tCons (tD X.K W (den F cc)) L2.tNil))))):PE X e (tD X.K W (den F (.bi .min2 (.bi .min2 ca cb) cc))):=PE.imp he fun σ H Q t=>by
 obtain ⟨ρ,env,h,s,r,p⟩:=t;rw[den,den,jR] at p;refine⟨ρ,env,h,s,r,Post.bind p fun ρ1 h1 d1 H1 e1 r1 q v1 hv1=>?_⟩;rw[jR] at q;refine⟨ρ1,env,h1,s.mono e1,r1,Post.bind q fun ρ2 h2 d2 H2 e2 r2 q2 v2 hv2=>?_⟩;cases d1 with
 |int i=>
  cases d2 with
  |int j=>
   have q2:PostV X.K (W.at σ) Q ρ2 H2 ((den F cc env).bind (fun z=>biD .min2 (.int (if j<i then j else i)) z) h2):=q2;refine⟨ρ2,env,h2,(s.mono e1).mono e2,r2,Post.bind q2 fun ρ3 h3 d3 H3 e3 r3 q3 v3 hv3=>?_⟩;cases d3 with
   |int k=>
    cases hv1;cases hv2;cases hv3
    exact⟨i,j,k,rfl,PostV.now (h:=h3) q3 r3 rfl⟩
   |_=>exact (show False from q3).elim
  |_=>exact (show False from q2).elim
 |_=>exact (show False from q2).elim
end
open L2 (V Hp HO VK TE TT TA TS TI Cx Inv RelV Vals SqL SqT Rd upd qI qG PE PT PA PS PSs EP OpR qL IxR MtR SlR PO TO PI PG PIE Turn qP Ends)
inductive GK where
 |fn (i:Nat) | con (d:D) | blt | exc (c:Nat) | cls (c f:Nat)
structure Cc where
 N:List Str
 sc:Scope
 G:List (Str × GK)
 xs:List (Nat × List Nat)
 calm:Bool
 rs:Bool
 M:List (Str × Nat × List (Nat × Nat))
 A:List (Str × Nat × List Nat)
def Cc.slot(c:Cc)(x:Str):Option Nat:=match c.sc.names.lookup x with
 |some .local=>if x == "__debug__" || x == "__classdict__" then none else c.N.idxOf? x
 |some .cell=>if x == "__debug__" || x == "__classdict__" then none else c.N.idxOf? x
 |some .free=>if x == "__debug__" || x == "__classdict__" then none else c.N.idxOf? x
 |_=>none
def Cc.own(c:Cc)(x:Str):Option Nat:=match c.sc.names.lookup x with
 |some .local=>c.N.idxOf? x
 |some .cell=>c.N.idxOf? x
 |_=>none
def Cc.glob(c:Cc)(x:Str):Option GK:=match c.sc.names.lookup x with
 |some .globalImplicit=>if x == "__debug__" || x == "__name__" then none else c.G.lookup x
 |_=>none
def Cc.isB(c:Cc)(x:Str):Bool:=match c.glob x with
 |some .blt=>true
 |_=>false
def Cc.loc(c:Cc)(x:Str):Option Nat:=match c.sc.names.lookup x with
 |some .local=>c.N.idxOf? x
 |_=>none
def qDE:Const->Option CE
 | .none=>some (.lit .non)
 | .bool b=>some (.lit (.bl b))
 | .int i=>some (.lit (.int i))
 | .str s=>some (.lit (.str s.cps.toList))
 |_=>none
def qDM:Operator->Option Bi
 | .Add=>some .add | .Sub=>some .sub | .Mult=>some .mul | .FloorDiv=>some .fdiv | .Mod=>some .mod
 |_=>none
def bE:CmpOp->Option Bi
 | .Eq=>some .eq | .NotEq=>some .ne | .Lt=>some .lt | .LtE=>some .le | .Gt=>some .gt | .GtE=>some .ge | .In=>some .isin | .NotIn=>some .notin
 |_=>none
def bi1(x:Str):Option Un:=if x="len" then some .len else if x="ord" then some .ord else if x="str" then some .str else if x="int" then some .int else if x="tuple" then some .tuple else if x="list" then some .list else none
def nV(x:Str):Option Un:=if x="all" then some .all else if x="sorted" then some .sorted else none
def bi2(x:Str):Option Bi:=if x="min" then some .min2 else if x="max" then some .max2 else none
def tyN(x:Str):Option Ty:=if x="int" then some .int else if x="str" then some .str else if x="bool" then some .bool else if x="list" then some .list else if x="tuple" then some .tuple else none
def me1(x:Str):Option Bi:=if x="append" then some .append else if x="zfill" then some .zfill else if x="join" then some .join else if x="get" then some .get else if x="split" then some .split else if x="rpartition" then some .rpart else if x="extend" then some .extend else none
def qV:Expr->Bool
 | .Starred _ _=>false
 |_=>true
def gY:Expr->Bool
 | .Slice _ _ _ _=>false
 |_=>true
def wB:Expr->Bool
 | .Call (.Name _ _) [] [] _=>false
 |_=>true
def qAy:Expr->Bool
 | .UnaryOp _ _ _=>false
 | .BoolOp _ _ _=>false
 | .IfExp _ _ _ _=>false
 | .Compare _ _ _ _=>false
 |_=>true
def uB:Expr->Bool
 | .Set _ _ _=>false
 |_=>true
def isNone:Expr->Bool
 | .Constant .none _ _=>true
 |_=>false
def qAn(scope sc:Scope):Scope:={ scope with names:=scope.names.map fun (n,k)=>if (k == .free&&sc.kind == .function&&sc.names.lookup n == some .cell) then (n,.cell) else (n,k) }
def Cc.inner(c:Cc)(x:Str)(scope:Scope):Cc:=⟨jF c.N x++[x],qAn scope c.sc,c.G,c.xs,c.calm,false,c.M,c.A⟩
def Cc.compOk(c:Cc)(x:Str)(scope:Scope):Bool:=
 decide (scope.kind=.function)&&scope.names.all (fun y=>decide (y.2≠.cell))&&scope.names.all (fun y=>decide (y.2=.local->scope.names.lookup y.1=some .local))&&decide (scope.names.lookup x=some .local)
 &&scope.names.all (fun y=>decide (y.2=.free->c.sc.names.lookup y.1=some .cell\/c.sc.names.lookup y.1=some .free))&&(decide (x≠noN)&&(decide (x∉c.N) || (decide (noN∉c.N)&&decide (scope.names.lookup noN=none))))&&scope.names.all (fun y=>decide (y.1≠x->y.2=.local->y.1∉c.N))
def qR{α:Type}(b:Bool)(x:α):Option α:=match b with
 |true=>some x
 |false=>none
theorem qQ{α:Type}{b:Bool}{x r:α}(h:qR b x=some r):b=true/\x=r:=by
 cases b with
 |true=>exact⟨rfl,Option.some.inj h⟩
 |false=>cases h
theorem qE{α β:Type}{o:Option α}{f:α->Option β}{r:β}(h:o.bind f=some r):∃ a,o=some a/\f a=some r:=by
 cases o with
 |none=>cases h
 |some a=>exact⟨a,rfl,h⟩
structure Rc where
 e:Cc->Expr->Option CE
 cmp:Cc->Expr->CmpOp->Expr->Option CE
 b:Cc->Str->List Expr->Option CE
 l:Cc->List Expr->Option CL
 o:Cc->Option Expr->Option CP
 t:Cc->Expr->Option CT
 tb:Cc->BoolOp->List Expr->Option CT
 i:Cc->Expr->Option CI
def fN:Expr->Option (Option Expr × Option Expr)
 | .Slice lo hi st _=>match st with
  |none=>some (lo,hi)
  |some _=>none
 |_=>none
theorem qKe{b:Expr}{q:Option Expr × Option Expr}(h:fN b=some q):∃ p,b=.Slice q.1 q.2 none p:=by
 cases b with
 |Slice l u s p=>
  cases s with
  |none=>cases h;exact⟨p,rfl⟩
  |some _=>cases h
 |_=>cases h
def qKh:Expr->Bool
 | .Constant (.int i) _ _=>decide (i=1)
 |_=>false
def qKi:Expr->Bool
 | .UnaryOp .USub a _=>qKh a
 |_=>false
def qB8:Expr->Bool
 | .Slice none none (some e) _=>qKi e
 |_=>false
def isF:Expr->Option Expr
 | .FormattedValue a cv sp _=>match sp with
  |none=>qR (decide (cv=-1)) a
  |some _=>none
 |_=>none
theorem qCD{b a:Expr}(h:isF b=some a):∃ p,b=.FormattedValue a (-1) none p:=by
 cases b with
 |FormattedValue v cv s p=>
  cases s with
  |none=>
   obtain ⟨h1,rfl⟩:=qQ h;rw[of_decide_eq_true h1]
   exact⟨p,rfl⟩
  |some _=>cases h
 |_=>cases h
def isS:Expr->Option Str
 | .Constant k _ _=>match k with
  | .str s=>some s
  |_=>none
 |_=>none
theorem qKf{b:Expr}{s:Str}(h:isS b=some s):∃ j p,b=.Constant (.str s) j p:=by
 cases b with
 |Constant k j p=>
  cases k with
  |str s=>cases h;exact⟨j,p,rfl⟩
  |_=>cases h
 |_=>cases h
def fP:Expr->Option Str
 | .Name x _=>some x
 |_=>none
theorem qCA{b:Expr}{s:Str}(h:fP b=some s):∃ p,b=.Name s p:=by
 cases b with
 |Name x p=>cases h;exact⟨p,rfl⟩
 |_=>cases h
structure Gn where
 x:Str
 p:Pos
 iter:Expr
 ifs:List Expr
def yG:List Comprehension->Option Gn
 | []=>none
 |g::r=>match r with
  | []=>match g.target with
   | .Name x p=>qR (decide (g.is_async=0)) ⟨x,p,g.iter,g.ifs⟩
   |_=>none
  |_::_=>none
theorem qCC{gs:List Comprehension}{q:Gn}(h:yG gs=some q):gs=[⟨.Name q.x q.p,q.iter,q.ifs,0⟩]:=by
 cases gs with
 |nil=>cases h
 |cons g r=>
  cases r with
  |cons _ _=>cases h
  |nil=>
   obtain ⟨t,it,f,a⟩:=g;cases t with
   |Name x p=>obtain ⟨h1,rfl⟩:=qQ h;have h2:a=0:=of_decide_eq_true h1;subst h2;rfl
   |_=>cases h
def dF(c:Cc)(x:Str):Option CE:=match c.slot x with
 |some i=>some (.var i)
 |none=>match c.glob x with
  |some (.con d)=>some (.lit d)
  |_=>none
def sUn(r:Rc)(c:Cc)(a:Expr):UnaryOp->Option CE
 | .Not=>(r.e c a).bind fun x=>some (.not x)
 | .USub=>(r.e c a).bind fun x=>some (.un .neg x)
 |_=>none
def qAh(r:Rc)(c:Cc)(op:BoolOp)(pos:Pos):List Expr->Option CE
 | []=>none
 |a::es=>match es with
  | []=>r.e c a
  |b::es=>(r.e c a).bind fun x=>(r.e c (.BoolOp op (b::es) pos)).bind fun y=>some (match op with | .And=>.and x y | .Or=>.or x y)
def qAe(r:Rc)(c:Cc)(a:Expr)(op op':CmpOp)(b d:Expr):Option CE:=
 (bE op).bind fun o=>(bE op').bind fun p=>(r.e c a).bind fun x=>(r.e c b).bind fun y=>(r.e c d).bind fun z=>qR (!lastMarks [op,op'] [b,d]) (.chain o p x y z)
def dG(r:Rc)(c:Cc)(a:Expr)(ops:List CmpOp)(cs:List Expr):Option CE:=match ops with
 | []=>none
 |op::ops=>match cs with
  | []=>none
  |b::cs=>match ops with
   | []=>match cs with
    | []=>r.cmp c a op b
    |_::_=>none
   |op'::ops=>match ops with
    |_::_=>none
    | []=>match cs with
     | []=>none
     |d::cs=>match cs with
      | []=>qAe r c a op op' b d
      |_::_=>none
def dE(r:Rc)(c:Cc)(a b:Expr):Option CE:=match qB8 b with
 |true=>none
 |false=>match fN b with
  |some q=>(r.e c a).bind fun x=>(r.o c q.1).bind fun l=>(r.o c q.2).bind fun u=>some (.sl x l u)
  |none=>(r.e c a).bind fun x=>(r.e c b).bind fun y=>qR (gY b) (.bi .ix x y)
def qAf(r:Rc)(c:Cc)(x:Str)(es:List Expr):Option GK->Option CE
 |some (.fn i)=>match es with
  | []=>qR c.calm (.call i .nil)
  |e::es=>(r.l c (e::es)).bind fun l=>qR c.calm (.call i l)
 |some .blt=>r.b c x es
 |some (.cls k f)=>match es with
  | []=>qR c.calm (.make k f .nil)
  |e::es=>(r.l c (e::es)).bind fun l=>qR c.calm (.make k f l)
 |_=>none
def qAZ(r:Rc)(c:Cc)(m:Str)(ok:Bool)(x:CE)(es:List Expr):Option (Nat × List (Nat × Nat))->Option CE
 |some q=>match es with
  | []=>qR (c.calm&&ok) (.meth q.1 q.2 x .nil)
  |e::es=>(r.l c (e::es)).bind fun l=>qR (c.calm&&ok&&decide (es.length<20)) (.meth q.1 q.2 x l)
 |none=>match es with
  | []=>none
  |b::es=>match es with
   | []=>(me1 m).bind fun o=>(r.e c b).bind fun y=>qR (ok&&qV b) (.me o x y)
   |d::es=>match es with
    | []=>match decide (m="setdefault") with
     |true=>none
     |false=>match decide (m="get") with
      |true=>none
      |false=>none
    |_::_=>none
def qAg(r:Rc)(c:Cc)(f:Expr)(es:List Expr)(ks:List Keyword)(p:Pos):Option CE:=match ks with
 |_::_=>none
 | []=>match f with
  | .Name x _=>qAf r c x es (c.glob x)
  | .Attribute a m ap=>(r.e c a).bind fun x=>qAZ r c m (wB a&&(ap.endLine == p.line)) x es (c.M.lookup m)
  |_=>none
def qAa(r:Rc)(c:Cc):List Expr->Option CE
 | [f,k,g]=>(isF f).bind fun a=>(isS k).bind fun s=>(isF g).bind fun b=>(r.e c a).bind fun x=>(r.e c b).bind fun y=>some (.bi .add (.bi .add x (.lit (.str s.cps.toList))) y)
 |_=>none
def gQ(r:Rc)(c:Cc)(elt:Expr)(scope:Scope)(q:Gn):Option CE:=match q.ifs with
 | []=>(r.i c q.iter).bind fun it=>(r.e (c.inner q.x scope) elt).bind fun y=>qR (c.calm&&c.compOk q.x scope) (.comp y it)
 |t::ts=>match ts with
  | []=>(r.i c q.iter).bind fun it=>(r.t (c.inner q.x scope) t).bind fun z=>(r.e (c.inner q.x scope) elt).bind fun y=>qR (c.calm&&c.compOk q.x scope) (.compIf y z it)
  |_::_=>none
def kC:Expr->Bool
 | .Name x _=>decide (x="sides"\/x="_law_come")
 | .Attribute _ f _=>decide (f="givers"\/f="takers")
 |_=>false
def dH(r:Rc)(c:Cc)(elt:Expr)(scope:Scope)(q:Gn):Option CE:=match q.ifs with
 | []=>none
 |t::ts=>match ts with
  | []=>(r.e c q.iter).bind fun d=>(r.t (c.inner q.x scope) t).bind fun z=>(r.e (c.inner q.x scope) elt).bind fun y=>qR (c.calm&&c.compOk q.x scope) (.compD y z d)
  |_::_=>none
def uA(r:Rc)(c:Cc)(elt:Expr)(scope:Scope)(gens:List Comprehension):Option CE:=match yG gens with
 |some q=>match kC q.iter with
  |true=>dH r c elt scope q
  |false=>gQ r c elt scope q
 |none=>none
def qAo:Option Expr->Option Ky
 |none=>none
 |some e=>match e with
  | .Constant k _ _=>match k with
   | .str s=>some (.str s.cps.toList)
   | .int i=>some (.int i)
   |_=>none
  |_=>none
def dM:List (Option Expr)->Option (List Ky)
 | []=>some []
 |k::ks=>(qAo k).bind fun x=>(dM ks).bind fun xs=>some (x::xs)
def dL(r:Rc)(c:Cc):List Expr->Option CL
 | []=>some .nil
 |e::es=>(r.e c e).bind fun x=>(dL r c es).bind fun l=>some (.cons x l)
def qAc(r:Rc)(c:Cc)(keys:List (Option Expr))(values:List Expr):Option CE:=
 (dM keys).bind fun ks=>(dL r c values).bind fun l=>qR (decide (keys.length=values.length)&&decide (keys.length<=15)) (.disp ks l)
def eS(r:Rc)(c:Cc):Expr->Option CE
 | .Constant k _ _=>qDE k
 | .Name x _=>dF c x
 | .BinOp a op b _=>(qDM op).bind fun o=>(r.e c a).bind fun x=>(r.e c b).bind fun y=>some (.bi o x y)
 | .UnaryOp op a _=>sUn r c a op
 | .BoolOp op es pos=>qAh r c op pos es
 | .IfExp t a b _=>(r.t c t).bind fun z=>(r.e c a).bind fun x=>(r.e c b).bind fun y=>some (.ite z x y)
 | .Compare a ops cs _=>dG r c a ops cs
 | .Tuple es _ _=>(r.l c es).bind fun l=>some (.tup l)
 | .List es _=>(r.l c es).bind fun l=>some (.lst l)
 | .Subscript a b _=>dE r c a b
 | .Dict keys values _=>qAc r c keys values
 | .Call f es ks p=>qAg r c f es ks p
 | .Attribute a f _=>(c.A.lookup f).bind fun k=>(r.e c a).bind fun x=>qR (wB a) (.un (.fld k.1) x)
 | .JoinedStr es _=>qAa r c es
 | .ListComp elt gens scope _=>uA r c elt scope gens
 |_=>none
def sIs(u:Un)(v:Bool->Un)(x:CE)(b:Expr):Option CE:=match isNone b with
 |true=>some (.un u x)
 |false=>none
def qAd(r:Rc)(c:Cc)(a:Expr)(op:CmpOp)(b:Expr):Option CE:=(bE op).bind fun o=>(r.e c a).bind fun x=>(r.e c b).bind fun y=>qR (!behindInMarks op b) (.bi o x y)
def qCx(r:Rc)(c:Cc)(a:Expr)(op:CmpOp)(b:Expr):Option CE:=match op with
 | .Is=>(r.e c a).bind fun x=>sIs .isN .isB x b
 | .IsNot=>(r.e c a).bind fun x=>sIs .notN .nsB x b
 |op=>qAd r c a op b
def qAb(r:Rc)(c:Cc)(a:Expr)(y:Str):Option CE:=(r.e c a).bind fun z=>match tyN y with
 |some t=>qR (qV a&&c.isB y) (.un (.isi t) z)
 |none=>none
def sB1(c:Cc)(x:Str)(a:Expr)(y:CE):Option CE:=match bi1 x with
 |some o=>qR (qV a) (.un o y)
 |none=>(nV x).bind fun o=>qR (qV a&&c.calm) (.un o y)
def sB2(r:Rc)(c:Cc)(x:Str)(a b:Expr):Option CE:=(bi2 x).bind fun o=>(r.e c a).bind fun u=>(r.e c b).bind fun v=>qR (qV a&&qV b&&c.calm) (.bi o u v)
def fO:Expr->Option (List Expr)
 | .Call f es ks _=>match ks with
  | []=>match f with
   | .Name x _=>qR (decide (x="range")) es
   |_=>none
  |_::_=>none
 |_=>none
theorem qKg {e:Expr} {es:List Expr} (h:fO e=some es):∃ p q,e=.Call (.Name "range" p) es [] q:=by
 cases e with
 |Call f es ks q=>
  cases ks with
  |cons _ _=>cases h
  |nil=>
   cases f with
   |Name x p=>
    obtain ⟨h1,rfl⟩:=qQ h;rw[of_decide_eq_true h1]
    exact⟨p,q,rfl⟩
   |_=>cases h
 |_=>cases h
def bS(r:Rc)(c:Cc)(x:Str):List Expr->Option CE
 | []=>none
 |a::es=>match es with
  | []=>(r.e c a).bind fun y=>sB1 c x a y
  |b::es=>match es with
   | []=>match decide (x="isinstance") with
    |true=>(fP b).bind fun y=>qAb r c a y
    |false=>sB2 r c x a b
   |d::es=>match es with
    | []=>(bi2 x).bind fun o=>(r.e c a).bind fun u=>(r.e c b).bind fun v=>(r.e c d).bind fun z=>qR (decide (o=.min2)&&(qV a&&qV b&&qV d&&c.calm)) (.bi .min2 (.bi .min2 u v) z)
    |_::_=>none
def lS(r:Rc)(c:Cc):List Expr->Option CL
 | []=>some .nil
 |e::es=>(r.e c e).bind fun x=>(r.l c es).bind fun l=>qR (qV e) (.cons x l)
def oS(r:Rc)(c:Cc):Option Expr->Option CP
 |none=>some .no
 |some e=>(r.e c e).bind fun x=>some (.at x)
def sT(r:Rc)(c:Cc)(e:Expr):Option CT:=(r.e c e).bind fun x=>qR (qAy e) (.val x)
def tS(r:Rc)(c:Cc)(e:Expr):Option CT:=match e with
 | .UnaryOp op a _=>match op with
  | .Not=>(r.t c a).bind fun x=>some (.not x)
  |_=>none
 | .BoolOp op es _=>r.tb c op es
 | .Compare a ops cs _=>(dG r c a ops cs).bind fun x=>some (.val x)
 |e=>sT r c e
def tbS(r:Rc)(c:Cc)(op:BoolOp):List Expr->Option CT
 | []=>none
 |a::es=>match es with
  | []=>r.t c a
  |b::es=>(r.t c a).bind fun x=>(r.tb c op (b::es)).bind fun y=>some (match op with | .And=>.and x y | .Or=>.or x y)
def sRg(r:Rc)(c:Cc):List Expr->Option CI
 | []=>none
 |a::es=>match es with
  | []=>(r.e c a).bind fun y=>qR (qV a&&c.isB "range") (.rng1 y)
  |b::es=>match es with
   | []=>(r.e c a).bind fun y=>(r.e c b).bind fun z=>qR (qV a&&qV b&&c.isB "range") (.rng2 y z)
   |d::es=>match es with
    | []=>(r.e c a).bind fun y=>(r.e c b).bind fun z=>(r.e c d).bind fun u=>qR (qV a&&qV b&&qV d&&c.isB "range") (.rng3 y z u)
    |_::_=>none
def iS(r:Rc)(c:Cc)(e:Expr):Option CI:=match fO e with
 |some es=>sRg r c es
 |none=>(r.e c e).bind fun y=>qR (uB e) (.of y)
def qIj(r:Rc):Rc:=⟨eS r,qCx r,bS r,lS r,oS r,tS r,tbS r,iS r⟩
def rcN:Nat->Rc
 |0=>⟨fun _ _=>none,fun _ _ _ _=>none,fun _ _ _=>none,fun _ _=>none,fun _ _=>none,fun _ _=>none,fun _ _ _=>none,fun _ _=>none⟩
 |n+1=>qIj (rcN n)
def qCF:Expr->Bool
 | .ListComp _ gs _ _=>match yG gs with
  |some q=>decide (q.ifs.length<=1)&&!kC q.iter
  |none=>false
 |_=>false
def uC:Expr->Bool
 | .ListComp _ _ _ _=>false
 | .SetComp _ _ _ _=>false
 | .DictComp _ _ _ _ _=>false
 |_=>true
def Cc.still(c:Cc):Cc:={ c with rs:=false }
def Cc.dull(c:Cc):Cc:={ c with rs:=false,calm:=false }
structure Rs where
 s:Cc->Stmt->Option CS
 ss:Cc->List Stmt->Option CS
 h:Cc->List ExceptHandler->Option CH
def qAY(r:Rc)(c:Cc)(e:Expr):Expr->Option CS
 | .Name x _=>(c.own x).bind fun i=>(r.e c e).bind fun y=>qR (uC e || qCF e) (.set (.nm i) y)
 | .Attribute o f _=>(c.A.lookup f).bind fun k=>(r.e c o).bind fun x=>(r.e c e).bind fun y=>qR (uC e) (.setF x k.1 k.2 y)
 | .Subscript o i _=>(r.e c o).bind fun x=>(r.e c i).bind fun z=>(r.e c e).bind fun y=>qR (uC e&&gY i) (.setIx x z y)
 |_=>none
def uI(c:Cc):Expr->Option TG
 | .Name x _=>(c.own x).bind fun i=>some (.nm i)
 |_=>none
def qAX(q:Rs)(c:Cc)(a:List Stmt)(hs:List ExceptHandler)(els fin:List Stmt):Option CS:=match hs with
 | []=>none
 |h::hs=>match els with
  |_::_=>none
  | []=>match fin with
   |_::_=>none
   | []=>(q.ss c.still a).bind fun x=>(q.h c (h::hs)).bind fun y=>qR c.calm (.tryx x y)
def gP(r:Rc)(q:Rs)(c:Cc)(tg e:Expr)(a:List Stmt):Option CS:=(uI c tg).bind fun t=>match t with
 | .nm i=>(r.e c e).bind fun z=>(q.ss c.still a).bind fun y=>qR c.calm (.forD i z y)
 |_=>none
def stS(r:Rc)(q:Rs)(c:Cc):Stmt->Option CS
 | .Assign ts e _=>match ts with
  | [t]=>qAY r c e t
  |_=>none
 | .Expr e _=>(r.e c e).bind fun y=>qR (uC e) (.exp y)
 | .Return v _=>match v with
  |some e=>(r.e c e).bind fun y=>some (.ret y)
  |none=>some .retN
 | .Pass _=>some .skip
 | .Break _=>some .brk
 | .Continue _=>some .cnt
 | .If t a b _=>(r.t c t).bind fun z=>(q.ss c a).bind fun x=>(q.ss c b).bind fun y=>some (.ite z x y)
 | .While t a els _=>match els with
  | []=>(r.t c.still t).bind fun z=>(q.ss c.still a).bind fun x=>some (.whil z x)
  |_::_=>none
 | .For tg it a els _=>match els with
  | []=>match kC it with
   |true=>gP r q c tg it a
   |false=>(uI c tg).bind fun t=>(r.i c it).bind fun z=>(q.ss c.still a).bind fun y=>qR c.calm (.fori t z y)
  |_::_=>none
 | .Try a hs els fin _=>qAX q c a hs els fin
 |_=>none
def ssS(q:Rs)(c:Cc):List Stmt->Option CS
 | []=>some .skip
 |s::r=>match r with
  | []=>some ((q.s c s).getD .opq)
  |t::r=>(q.ss c (t::r)).bind fun y=>some (.seq ((q.s c s).getD .opq) y)
def sH(q:Rs)(c:Cc)(i:Nat)(nm:Option Str)(b:List Stmt)(r:List ExceptHandler):Option CH:=match b with
 | []=>none
 |s::b=>(c.xs.lookup i).bind fun cs=>(q.ss c.dull (s::b)).bind fun k=>(q.h c r).bind fun z=>match nm with
  |none=>some (.cons cs k z)
  |some _=>none
def hS(q:Rs)(c:Cc):List ExceptHandler->Option CH
 | []=>some .nil
 | .ExceptHandler ty nm b _::r=>match ty with
  |none=>none
  |some t=>(fP t).bind fun x=>match c.glob x with
   |some (.exc i)=>sH q c i nm b r
   |_=>none
def qIi(r:Rc)(q:Rs):Rs:=⟨stS r q,ssS q,hS q⟩
def rsN:Nat->Rs
 |0=>⟨fun _ _=>none,fun _ _=>none,fun _ _=>none⟩
 |n+1=>qIi (rcN n) (rsN n)
def cSs(c:Cc)(n:Nat)(b:List Stmt):Option CS:=(rsN n).ss c b
def GOk(X:Cx)(F:Nat->List D->M D)(k:Nat)(ex:Nat->Option Addr)(x:Str):GK->Prop
 | .fn i=>∃ f fd ps,X.mg x=some (.ref f)/\PySem.W.keepIn X.K (.ref f)=true/\L2.Binds X.K fd ps []/\L2.FnOk X.prog X.w X.K X.mg X.base (CXD X.prog X.w ex) k f fd ps (spD X.K (F i))
 | .con d=>∃ v u,X.mg x=some u/\RelV v u/\∀ ρ H,RepV X.K ρ H d v
 | .blt=>X.mg x=none
 | .exc c=>∃ C,X.mg x=some (.ref C)/\ex c=some C/\aJ X.K C=true
 | .cls c i=>∃ C f fd ps,X.mg x=some (.ref C)/\zJ X.K c C/\L2.Cls X.K C/\L2.Mk X.K C f/\L2.Binds X.K fd ps []/\L2.FnOk X.prog X.w X.K X.mg X.base (CXD X.prog X.w ex) k f fd ps (spD X.K (F i))
structure Body (X:Cx) (c:Cc) (F:Nat->List D->M D) (k:Nat) (ex:Nat->Option Addr) (W:WX):Prop where
 N:X.N=c.N
 nd:c.N.Nodup
 sc:X.env.scope=c.sc
 calm:c.calm=true->X.calm=true
 room:c.calm=true->L2.Room (k+1) X.A
 hu:X.A.units+64<cLine
 glob:∀ x g,c.G.lookup x=some g->GOk X F k ex x g
 xq:∀ i cs xl C j D,c.xs.lookup i=some cs->c.xs.lookup 1=some xl->ex i=some C->zJ X.K j D->xl.contains j=true->PySem.W.kitOne X.K (.ref D) (.ref C)=some (cs.contains j)
 xv:∀ cs xl j D,c.xs.lookup 0=some cs->c.xs.lookup 1=some xl->zJ X.K j D->xl.contains j=true->PySem.W.kitOne X.K (.ref D) (.type "ValueError")=some (cs.contains j)
 mt:∀ m mk tb,c.M.lookup m=some (mk,tb)->m=qD mk/\mk<256 ^ 60/\cN X F k ex m tb
 at':∀ f kk cs,c.A.lookup f=some (kk,cs)->f=qD kk/\kk<256 ^ 60/\∀ cc C,cs.contains cc=true->zJ X.K cc C->L2.NoAttr X.K C (qD kk)
 xg:∀ xl j D,c.xs.lookup 1=some xl->zJ X.K j D->xl.contains j=true->XGet X.K D
 xc:∀ pins σ H s0 e s',Inv X pins σ H s0->CXD X.prog X.w ex X.stack H s0 (fun _ co H'=>∃ c,co=some c/\W c σ H') e s'->X.xe e s'
structure BodyS (X:Cx) (c:Cc) (F:Nat->List D->M D) (k:Nat) (ex:Nat->Option Addr) (W:WX):Prop extends Body X c F k ex W where
 fn:∀ x,X.fn x=true
 stk:X.stack=X.env::X.outer/\X.env.frame=some X.env.locals
 noex:X.ex=[]
 xcl:∀ i C,ex i=some C->zJ X.K i C
 xr:c.rs=true->∀ pins σ H s a args h' i C,ex i=some C->Inv X pins σ H s->Heap.MadeExcOf s.heap h' a (.ref C) args->W i σ H->X.xe (.ref a) { s with heap:=h' }
 xm:∀ i cs C j D,c.xs.lookup i=some cs->ex i=some C->ex j=some D->PySem.W.exmOne X.K (.ref D) (.ref C)=some (cs.contains j)
theorem fU{l:List Str}{x:Str}{i:Nat}(h:l.idxOf? x=some i):l[i]?=some x:=by
 unfold List.idxOf? at h;rw[List.findIdx?_eq_some_iff_getElem] at h;obtain ⟨h1,h2,_⟩:=h;rw[List.getElem?_eq_getElem h1];simpa using h2
theorem kM{e:Expr}{es:List Expr}{env:PySem.Env}(h:qV e=true):starEach (e::es) env=(false,eval e env)::starEach es env:=by
 cases e <;> first | rfl | cases h
theorem qFi{env:PySem.Env}:starEach [] env=[]:=rfl
theorem jD{e:Expr}{env:PySem.Env}(h:qV e=true):starEach [e] env=[(false,eval e env)]:=by rw[kM h,qFi]
theorem wR{e e':Expr}{env:PySem.Env}(h:qV e=true)(h':qV e'=true):starEach [e,e'] env=[(false,eval e env),(false,eval e' env)]:=by rw[kM h,jD h']
theorem qFj{e e' e'':Expr}{env:PySem.Env}(h:qV e=true)(h':qV e'=true)(h'':qV e''=true):starEach [e,e',e''] env=[(false,eval e env),(false,eval e' env),(false,eval e'' env)]:=by rw[kM h,wR h' h'']
def vA:List Expr->Bool
 | []=>true
 |e::es=>qV e&&vA es
theorem gJ{env:PySem.Env}{pos:Pos}:∀ {es:List Expr},vA es=true->(backTo pos (starEach es env)).any (·.1)=false
 | [],_=>rfl
 |e::es,h=>by
  have h:=Bool.and_eq_true_iff.mp h;rw[kM h.1];show (false || (backTo pos (starEach es env)).any (·.1))=false;rw[gJ h.2];rfl
theorem kU{o:Expr}{m:Str}{env:PySem.Env}{w:Sem Value}(h:wB o=true):attributeBase o m env w=w:=by
 cases o with
 |Call f es ks pos=>
  cases f with
  |Name id p=>
   cases es with
   |nil=>
    cases ks with
    |nil=>cases h
    |cons _ _=>rfl
   |cons _ _=>rfl
  |_=>rfl
 |_=>rfl
theorem qKS{b:Expr}(h:gY b=true):L2.PlainIx b:=by
 intro o i;cases b <;> first | rfl | cases h
section
variable {X:Cx}{c:Cc}{F:Nat->List D->M D}{k B:Nat}{ex:Nat->Option Addr}{W:WX}
theorem Body.vis (T:Body X c F k ex W) {x:Str} {i:Nat} (h:c.slot x=some i):X.N[i]?=some x/\L2.Vis X.env.scope x/\(x == ("__debug__":Str))=false/\(x == ("__classdict__":Str))=false:=by
 unfold Cc.slot at h;rw[T.N]
 have key:∀ {kd:NameKind},c.sc.names.lookup x=some kd->(kd=.local\/kd=.cell\/kd=.free)->(if (x == ("__debug__":Str) || x == ("__classdict__":Str))=true then none else c.N.idxOf? x)=some i->c.N[i]?=some x/\L2.Vis X.env.scope x/\(x == ("__debug__":Str))=false/\(x == ("__classdict__":Str))=false:=by
  intro kd hk hd hi;split at hi
  ·cases hi
  ·rename_i hn;refine⟨fU hi,?_,?_⟩
   ·unfold L2.Vis;rw[T.sc,hk];rcases hd with rfl | rfl | rfl <;> simp
   ·simpa using hn
 split at h
 ·rename_i hk;exact key hk (.inl rfl) h
 ·rename_i hk;exact key hk (.inr (.inl rfl)) h
 ·rename_i hk;exact key hk (.inr (.inr rfl)) h
 ·cases h
theorem Body.loc(T:Body X c F k ex W){x:Str}{i:Nat}(h:c.own x=some i):X.N[i]?=some x/\L2.Loc X.env.scope x:=by
 unfold Cc.own at h;rw[T.N];split at h
 ·rename_i hk;refine⟨fU h,.inl ?_⟩;rw[T.sc];exact hk
 ·rename_i hk;refine⟨fU h,.inr ?_⟩;rw[T.sc];exact hk
 ·cases h
theorem Body.gl (T:Body X c F k ex W) {x:Str} {g:GK} (h:c.glob x=some g):L2.Gl X x/\(x == ("__debug__":Str))=false/\x≠"__name__"/\GOk X F k ex x g:=by
 unfold Cc.glob at h;split at h
 ·rename_i hk;split at h
  ·cases h
  ·rename_i hn;refine⟨?_,by revert hn;cases (x == ("__debug__":Str)) <;> simp,fun z=>hn (by simp[z]),T.glob x g h⟩;show X.env.scope.names.lookup x=_;rw[T.sc];exact hk
 ·cases h
theorem Body.nd'(T:Body X c F k ex W):X.N.Nodup:=by rw[T.N];exact T.nd
theorem qOx{op:Operator}{o:Bi}(h:qDM op=some o):OpR X (binaryOp op) (rB X.K o):=by
 cases op <;> first | (cases h;first | exact qG4 | exact qGs | exact qGv | exact qG2 | exact qGw) | cases h
theorem vV(T:Body X c F k ex W){op:CmpOp}{o:Bi}(h:bE op=some o):yH o=true/\OpR X (compareOp op) (rB X.K o):=by
 cases op <;> first
  | (cases h;exact⟨rfl,by first | exact qG3 T.hu | exact qGu T.hu | exact qGx | exact qGy | exact qG0 | exact qG1 | exact qGz T.hu | exact qGt⟩)
  |cases h
theorem qO0(T:Body X c F k ex W){x:Str}{o:Un}{a:Expr}{ca:CE}{p pos:Pos}(h:bi1 x=some o)(hg:c.glob x=some .blt)(ha:PE X a (tD X.K W (den F ca)))(hs:qV a=true):PE X (.Call (.Name x p) [a] [] pos) (tD X.K W (den F (.un o ca))):=by
 obtain ⟨g1,g2,g3,g4⟩:=T.gl hg;have st:=jD (env:=X.env) hs
 have go:∀ {id:String},qL X (.builtin id) (rC X.K o)->bootBuiltins x=some (.builtin id)->PE X (.Call (.Name x p) [a] [] pos) (tD X.K W (den F (.un o ca))):=fun hc hv=>
  lQ (a:=a) (L2.pe_callB hc g1 g4 hv (L2.pa_cons ha L2.pa_nil (by rw[st];rfl)) g3 g2 (by rw[st];rfl)) fun x H Q z=>⟨x,rfl,z⟩
 have goT:∀ {id:String},qL X (.type id) (rC X.K o)->bootBuiltins x=some (.type id)->PE X (.Call (.Name x p) [a] [] pos) (tD X.K W (den F (.un o ca))):=fun hc hv=>
  lQ (a:=a) (L2.pe_callTy hc g1 g4 hv (L2.pa_cons ha L2.pa_nil (by rw[st];rfl)) g3 g2 (by rw[st];rfl)) fun x H Q z=>⟨x,rfl,z⟩
 unfold bi1 at h;split at h
 ·rename_i e;subst e;cases h;exact go qNq (by decide +kernel)
 split at h
 ·rename_i e;subst e;cases h;exact go qNk (by decide +kernel)
 split at h
 ·rename_i e;subst e;cases h;exact goT qNi (by decide +kernel)
 split at h
 ·rename_i e;subst e;cases h;exact goT qNs (by decide +kernel)
 split at h
 ·rename_i e;subst e;cases h;exact goT qNh (by decide +kernel)
 split at h
 ·rename_i e;subst e;cases h;exact goT qNp (by decide +kernel)
 ·cases h
theorem qOz(T:Body X c F k ex W)(hc:c.calm=true){x:Str}{o:Un}{a:Expr}{ca:CE}{p pos:Pos}(h:nV x=some o)(hg:c.glob x=some .blt)(ha:PE X a (tD X.K W (den F ca)))(hs:qV a=true):PE X (.Call (.Name x p) [a] [] pos) (tD X.K W (den F (.un o ca))):=by
 obtain ⟨g1,g2,g3,g4⟩:=T.gl hg;have st:=jD (env:=X.env) hs
 have go:∀ {id:String},qL X (.builtin id) (rC X.K o)->bootBuiltins x=some (.builtin id)->PE X (.Call (.Name x p) [a] [] pos) (tD X.K W (den F (.un o ca))):=fun hc hv=>
  lQ (a:=a) (L2.pe_callB hc g1 g4 hv (L2.pa_cons ha L2.pa_nil (by rw[st];rfl)) g3 g2 (by rw[st];rfl)) fun x H Q z=>⟨x,rfl,z⟩
 unfold nV at h;split at h
 ·rename_i e;subst e;cases h;exact go (qNt (T.calm hc)) (by decide +kernel)
 split at h
 ·rename_i e;subst e;cases h;exact go qNj (by decide +kernel)
 ·cases h
theorem qOy(T:Body X c F k ex W)(hc:c.calm=true){x:Str}{o:Bi}{a b:Expr}{ca cb:CE}{p pos:Pos}(h:bi2 x=some o)(hg:c.glob x=some .blt)(ha:PE X a (tD X.K W (den F ca)))(hb:PE X b (tD X.K W (den F cb)))(hs:qV a=true)(hs':qV b=true):PE X (.Call (.Name x p) [a,b] [] pos) (tD X.K W (den F (.bi o ca cb))):=by
 obtain ⟨g1,g2,g3,g4⟩:=T.gl hg;have st:=wR (env:=X.env) hs hs';have st1:=jD (env:=X.env) hs'
 have go:∀ {id:String},qL X (.builtin id) (rC2 X.K o)->bootBuiltins x=some (.builtin id)->PE X (.Call (.Name x p) [a,b] [] pos) (tD X.K W (den F (.bi o ca cb))):=fun hc hv=>
  qNK (L2.pe_callB hc g1 g4 hv (L2.pa_cons ha (L2.pa_cons hb L2.pa_nil (by rw[st1];rfl)) (by rw[st,st1])) g3 g2 (by rw[st,st1]) (by rw[st1];rfl)) fun x y H Q z=>⟨x,y,rfl,z⟩
 unfold bi2 at h;split at h
 ·rename_i e;subst e;cases h;exact go (qNn (T.calm hc)) (by decide +kernel)
 split at h
 ·rename_i e;subst e;cases h;exact go (qNo (T.calm hc)) (by decide +kernel)
 ·cases h
theorem qIt(T:Body X c F k ex W)(hc:c.calm=true){x:Str}{a b d:Expr}{ca cb cd:CE}{p pos:Pos}(h:bi2 x=some .min2)(hg:c.glob x=some .blt)(ha:PE X a (tD X.K W (den F ca)))(hb:PE X b (tD X.K W (den F cb)))(hd:PE X d (tD X.K W (den F cd)))(hs:qV a=true)(hs':qV b=true)(hs'':qV d=true):PE X (.Call (.Name x p) [a,b,d] [] pos) (tD X.K W (den F (.bi .min2 (.bi .min2 ca cb) cd))):=by
 obtain ⟨g1,g2,g3,g4⟩:=T.gl hg;have st1:=jD (env:=X.env) hs'';have st2:starEach [b,d] X.env=[(false,eval b X.env),(false,eval d X.env)]:=wR hs' hs'';have st:starEach [a,b,d] X.env=(false,eval a X.env)::[(false,eval b X.env),(false,eval d X.env)]:=by rw[kM hs,st2]
 unfold bi2 at h;split at h
 ·rename_i e;subst e;exact qM2 (L2.pe_callB (qNm (T.calm hc)) g1 g4 (by decide +kernel) (L2.pa_cons ha (L2.pa_cons hb (L2.pa_cons hd L2.pa_nil (by rw[st1];rfl)) (by rw[st2,st1])) (by rw[st,st2])) g3 g2 (by rw[st,st2]) (by rw[st2];rfl))
 ·split at h
  ·cases h
  ·cases h
theorem qKc (T:Body X c F k ex W) {x y:Str} {t:Ty} {a:Expr} {ca:CE} {p p2 pos:Pos} (hx:x="isinstance") (ht:tyN y=some t) (hg:c.glob x=some .blt) (hy:c.isB y=true) (ha:PE X a (tD X.K W (den F ca))) (hs:qV a=true):PE X (.Call (.Name x p) [a,.Name y p2] [] pos) (tD X.K W (den F (.un (.isi t) ca))):=by
 obtain ⟨g1,g2,g3,g4⟩:=T.gl hg
 have hy':c.glob y=some .blt:=by
  unfold Cc.isB at hy;split at hy
  ·assumption
  ·cases hy
 obtain ⟨k1,k2,k3,k4⟩:=T.gl hy';refine qNB hx g1 g4 k1 k4 ?_ k3 k2 ha (wR hs rfl);unfold tyN at ht;split at ht
 ·rename_i e;subst e;cases ht;decide +kernel
 split at ht
 ·rename_i e;subst e;cases ht;decide +kernel
 split at ht
 ·rename_i e;subst e;cases ht;decide +kernel
 split at ht
 ·rename_i e;subst e;cases ht;decide +kernel
 split at ht
 ·rename_i e;subst e;cases ht;decide +kernel
 ·cases ht
theorem qKX{α:Type}{p:Prop}[Decidable p]{a b r:α}(h:(if p then a else b)=r):(p/\a=r)\/(¬ p/\b=r):=by
 by_cases q:p
 ·exact .inl ⟨q,by rw[if_pos q] at h;exact h⟩
 ·exact .inr ⟨q,by rw[if_neg q] at h;exact h⟩
theorem qI4(T:Body X c F k ex W){m:Str}{o:Bi}{a b:Expr}{ca cb:CE}{ap p:Pos}(h:me1 m=some o)(ha:PE X a (tD X.K W (den F ca)))(hb:PE X b (tD X.K W (den F cb)))(hs:qV b=true)(hsu:wB a=true)(hl:(ap.endLine == p.line)=true):PE X (.Call (.Attribute a m ap) [b] [] p) (tD X.K W (den F (.me o ca cb))):=by
 unfold me1 at h;rcases qKX h with⟨e,h⟩ | ⟨_,h⟩
 ·cases h;exact qNL e ha hb (kU hsu) hl (jD hs)
 split at h
 ·rename_i e;cases h;exact qMs e ha hb (kU hsu) hl (jD hs)
 split at h
 ·rename_i e;cases h;exact qM8 e ha hb (kU hsu) hl (jD hs)
 split at h
 ·rename_i e;cases h;exact qND e ha hb (kU hsu) hl (jD hs)
 split at h
 ·rename_i e;cases h;exact qMv e ha hb (kU hsu) hl (jD hs)
 split at h
 ·rename_i e;cases h;exact qMx e ha hb (kU hsu) hl (jD hs)
 split at h
 ·rename_i e;cases h;exact qNG e ha hb (kU hsu) hl (jD hs)
 ·cases h
theorem qNS{kc:Const}{ce:CE}{j:Nat}{pos:Pos}(h:qDE kc=some ce):PE X (.Constant kc j pos) (tD X.K W (den F ce)):=by
 cases kc with
 |none=>cases h;exact uO L2.pe_non fun _ _=>rfl
 |bool b=>cases h;exact uO L2.pe_bl fun _ _=>rfl
 |int i=>cases h;exact uO L2.pe_int fun _ _=>rfl
 |str s=>cases h;exact uO L2.pe_str fun _ _=>(show V.str s=V.str ⟨s.cps.toList.toArray⟩ by simp)
 |_=>cases h
theorem qNl(T:Body X c F k ex W)(hc:c.calm=true){x:Str}{i:Nat}{e:Expr}{es:List Expr}{cl:CL}{p pos:Pos}(h:c.glob x=some (.fn i))(ha:PA X (e::es) (tDL X.K W (qT F cl)))(hs:vA (e::es)=true):PE X (.Call (.Name x p) (e::es) [] pos) (tD X.K W (den F (.call i cl))):=by
 obtain ⟨g1,g2,g3,f,fd,ps,hm,hk,hb,FO⟩:=T.gl h;have hs':=Bool.and_eq_true_iff.mp hs;intro pins s σ H Q I t;obtain ⟨ρ,env,hh,st,r,pp⟩:=t;rw[den] at pp;refine wpAny_Call_Name_kw (L2.ld_glob I g1 hm ?_ g2);refine PySem.W.callWith_K (h₀:=X.base) I.ok.mod.kin hk (L2.thn (ha pos pins s σ H (fun vs H1=>spD X.K (F i) vs H1 Q fun _ co H'=>∃ c,co=some c/\W c σ H') I ⟨ρ,env,hh,st,r,Post.bind pp fun ρ1 h1 ds H1 e1 r1 q vs hvs=>?_⟩) fun us s1 z=>?_) (kM hs'.1) (gJ hs'.2)
 ·exact⟨ρ1,h1,ds,r1,hvs,by
   cases z:F i ds h1 with
   |ok a g=>rw[z] at q;exact q
   |exc c g=>rw[z] at q;exact fun ρ' H' e' r' _=>⟨c,rfl,q ρ' H' e' r'⟩
   |bad=>rw[z] at q;exact q⟩
 ·obtain ⟨vs,H1,I1,rv,q1⟩:=z
  exact⟨I1.kIn,gR FO ((T.room hc).mono (Nat.le_succ _)) hb (fun e s' x=>T.xc pins σ H1 s1 e s' I1 x) I1 rv q1⟩
theorem qNw(T:Body X c F k ex W)(hc:c.calm=true){x:Str}{i:Nat}{p pos:Pos}(h:c.glob x=some (.fn i)):PE X (.Call (.Name x p) [] [] pos) (tD X.K W (den F (.call i .nil))):=by
 obtain ⟨g1,g2,g3,f,fd,ps,hm,hk,hb,FO⟩:=T.gl h;intro pins s σ H Q I t;obtain ⟨ρ,env,hh,st,r,pp⟩:=t;rw[den,qT] at pp;refine wpAny_Call_Name_kw (L2.ld_glob I g1 hm ?_ g2);refine PySem.W.callWith_K0 I.kIn hk (gR (us:=[]) (vs:=[]) (E:=fun _ co H'=>∃ c,co=some c/\W c σ H') FO ((T.room hc).mono (Nat.le_succ _)) hb (fun e s' x=>T.xc pins σ H s e s' I x) I .nil ⟨ρ,hh,[],r,rfl,?_⟩);have q:PostV X.K (W.at σ) Q ρ H (F i [] hh):=pp;cases z:F i [] hh with
 |ok a g=>rw[z] at q;exact q
 |exc c g=>rw[z] at q;exact fun ρ' H' e' r' _=>⟨c,rfl,q ρ' H' e' r'⟩
 |bad=>rw[z] at q;exact q
theorem qJB(T:Body X c F k ex W)(hc:c.calm=true){x:Str}{cc i:Nat}{e:Expr}{es:List Expr}{cl:CL}{p pos:Pos}(h:c.glob x=some (.cls cc i))(ha:PA X (e::es) (tDL X.K W (qT F cl)))(hs:vA (e::es)=true):PE X (.Call (.Name x p) (e::es) [] pos) (tD X.K W (den F (.make cc i cl))):=by
 obtain ⟨g1,g2,g3,C,f,fd,ps,hm,h1,h2,h3,h4,h5⟩:=T.gl h;have hs':=Bool.and_eq_true_iff.mp hs;exact qM6 g1 g2 hm h1 h2 h3 h4 h5 (T.room hc) T.xc ha (kM hs'.1) (gJ hs'.2)
theorem qJD(T:Body X c F k ex W)(hc:c.calm=true){x:Str}{cc i:Nat}{p pos:Pos}(h:c.glob x=some (.cls cc i)):PE X (.Call (.Name x p) [] [] pos) (tD X.K W (den F (.make cc i .nil))):=by
 obtain ⟨g1,g2,g3,C,f,fd,ps,hm,h1,h2,h3,h4,h5⟩:=T.gl h;exact qM5 g1 g2 hm h1 h2 h3 h4 h5 (T.room hc) T.xc
theorem qAH{env:PySem.Env}{pos:Pos}:∀ {es:List Expr},vA es=true->(backTo pos (starEach es env)).all (fun x=>!x.1)=true
 | [],_=>rfl
 |e::es,h=>by
  have h:=Bool.and_eq_true_iff.mp h;rw[kM h.1];show (!false&&(backTo pos (starEach es env)).all (fun x=>!x.1))=true;rw[qAH h.2];rfl
theorem qIu(T:Body X c F k ex W)(hc:c.calm=true){a e:Expr}{es:List Expr}{ca:CE}{cl:CL}{mk:Nat}{tb:List (Nat × Nat)}{m:Str}{ap pos:Pos}(h:c.M.lookup m=some (mk,tb))(ho:PE X a (tD X.K W (den F ca)))(ha:PA X (e::es) (tDL X.K W (qT F cl)))(hs:vA (e::es)=true)(hsu:wB a=true)(hl:(ap.endLine == pos.line)=true)(hn:es.length<20) :
  PE X (.Call (.Attribute a m ap) (e::es) [] pos) (tD X.K W (den F (.meth mk tb ca cl))):=by
 obtain ⟨m1,m2,m3⟩:=T.mt m mk tb h;have hs':=Bool.and_eq_true_iff.mp hs;refine qM4 m3 m1 m2 ((T.room hc).mono (Nat.le_succ _)) T.xc ho ha (kU hsu) hl ?_ (kM hs'.1) (gJ hs'.2);unfold methodCallForm;rw[qAH hs];show (true&&true&&decide ((e::es).length+0+0<30))=true;simp only[List.length_cons,Bool.and_self,Bool.true_and,decide_eq_true_eq];omega
theorem qIw(T:Body X c F k ex W)(hc:c.calm=true){a:Expr}{ca:CE}{mk:Nat}{tb:List (Nat × Nat)}{m:Str}{ap pos:Pos}(h:c.M.lookup m=some (mk,tb))(ho:PE X a (tD X.K W (den F ca)))(hsu:wB a=true)(hl:(ap.endLine == pos.line)=true) :
  PE X (.Call (.Attribute a m ap) [] [] pos) (tD X.K W (den F (.meth mk tb ca .nil))):=by
 obtain ⟨m1,m2,m3⟩:=T.mt m mk tb h;exact qM3 m3 m1 m2 ((T.room hc).mono (Nat.le_succ _)) T.xc ho (kU hsu) hl
theorem qB9{b:Expr}(h:isNone b=true):∃ j pos,b=.Constant .none j pos:=by
 unfold isNone at h;split at h
 ·exact⟨_,_,rfl⟩
 ·cases h
theorem qGh{e:Expr}{env:PySem.Env}(h:qAy e=true)(whole:Sem Value):isTrue e env whole=(do let v <- whole;standAt e.pos;holding [v] (truthy v)):=by
 cases e <;> first | rfl | cases h
theorem wJ{e:Expr}{env:PySem.Env}(h:uB e=true)(x:Value):foldedSetIterable e env x=pure x:=by
 cases e <;> first | rfl | cases h
theorem yQ(T:Body X c F k ex W){x:Str}{scope:Scope}(h:c.compOk x scope=true):CompOk X x scope:=by
 unfold Cc.compOk at h;simp only[Bool.and_eq_true,Bool.or_eq_true,decide_eq_true_eq,List.all_eq_true] at h;obtain ⟨⟨⟨⟨⟨⟨h1,h2⟩,h3⟩,h4⟩,h5⟩,h6⟩,h7⟩:=h;refine⟨h1,h2,h3,h4,fun y hy hf=>?_,h6.1,fun z=>?_,fun y hne hy hm=>h7 _ (wC hy) hne rfl (by rw[<- T.N];exact hm)⟩
 rotate_left
 ·rw[T.N] at z ⊢;rcases h6.2 with w | w
  ·exact absurd z w
  ·exact w
 show X.env.scope.names.lookup y.1=_\/X.env.scope.names.lookup y.1=_;rw[T.sc];exact h5 y hy hf
theorem vR(T:Body X c F k ex W){x:Str}{scope:Scope}(h:c.compOk x scope=true)(cl:List (Str × Addr))(C:Addr)(s3:Shared)(H3:Hp)(fp:List Addr)(E:Value->Shared->Prop):Body (cxC X x scope cl C s3 H3 fp E) (c.inner x scope) F k ex WF:=by
 have K:=yQ T h;refine⟨?_,?_,?_,T.calm,T.room,T.hu,fun y g hg=>?_,T.xq,T.xv,T.mt,T.at',T.xg,fun pins σ H s0 e s' I x=>?_⟩
 ·show jF X.N x++[x]=jF c.N x++[x];rw[T.N]
 ·show (jF c.N x++[x]).Nodup;exact qBP T.nd K.new fun z=>by have:=(K.hole (by rw[T.N];exact z)).1;rw[T.N] at this;exact this
 ·show relabel scope X.env=qAn scope c.sc;rw[<- T.sc];rfl
 ·have:=T.glob y g hg
  cases g <;> exact this
 ·obtain ⟨_,_,_,_,_,_,_,_,_,_,_,_,_,_,_,_,z⟩:=x;exact False.elim z
structure AllOk (X:Cx) (c:Cc) (F:Nat->List D->M D) (W:WX) (r:Rc):Prop where
 e:∀ e ce,r.e c e=some ce->PE X e (tD X.K W (den F ce))
 cmp:∀ a op b ce pos,r.cmp c a op b=some ce->PE X (.Compare a [op] [b] pos) (tD X.K W (den F ce))/\PT X (.Compare a [op] [b] pos) (tDT X.K W (qK F (.val ce)))
 b:∀ x es ce p pos,c.glob x=some .blt->r.b c x es=some ce->PE X (.Call (.Name x p) es [] pos) (tD X.K W (den F ce))
 l:∀ es cl,r.l c es=some cl->PA X es (tDL X.K W (qT F cl))/\vA es=true
 o:∀ o cp,r.o c o=some cp->PO X o (tDP X.K W (kJ F cp))
 t:∀ e ct,r.t c e=some ct->PT X e (tDT X.K W (qK F ct))
 tb:∀ op es ct pos,r.tb c op es=some ct->L2.PW X (.BoolOp op es pos) (tDT X.K W (qK F ct))
 i:∀ tg e ci,r.i c e=some ci->PI X tg e (tDI X.K W (zU F ci))/\uB e=true
end
section
variable {X:Cx}{c:Cc}{F:Nat->List D->M D}{k:Nat}{W:WX}
end
section
variable {X:Cx}{c:Cc}{F:Nat->List D->M D}{k B:Nat}{ex:Nat->Option Addr}{W:WX}
theorem qIl(T:Body X c F k ex W){x:Str}{pos:Pos}{ce:CE}(h:dF c x=some ce):PE X (.Name x pos) (tD X.K W (den F ce)):=by
 unfold dF at h;cases q:c.slot x with
 |some i=>rw[q] at h;cases h;obtain ⟨h1,h2,h3,h4⟩:=T.vis q;exact qMt (L2.pe_var h1 h2 h3 h4)
 |none=>
  rw[q] at h;cases w:c.glob x with
  |none=>rw[w] at h;cases h
  |some g=>
   rw[w] at h;cases g with
   |con d=>cases h;obtain ⟨g1,g2,g3,v,u,hm,hr,hv⟩:=T.gl w;exact uO (L2.pe_glob g1 hm hr g2) hv
   |_=>cases h
theorem qEb{r:Rc}(A:AllOk X c F W r){op:UnaryOp}{a:Expr}{pos:Pos}{ce:CE}(h:sUn r c a op=some ce):PE X (.UnaryOp op a pos) (tD X.K W (den F ce)):=by
 cases op with
 |Not=>obtain ⟨x,hx,h⟩:=qE h;cases h;exact qM0 (A.e a x hx)
 |USub=>obtain ⟨x,hx,h⟩:=qE h;cases h;exact qM1 (A.e a x hx)
 |_=>cases h
theorem qOv{r:Rc}(A:AllOk X c F W r){op:BoolOp}{es:List Expr}{pos:Pos}{ce:CE}(h:qAh r c op pos es=some ce):PE X (.BoolOp op es pos) (tD X.K W (den F ce)):=by
 cases es with
 |nil=>cases h
 |cons a es=>
  cases es with
  |nil=>exact L2.pe_one (A.e a ce h)
  |cons b es=>
   obtain ⟨x,hx,h⟩:=qE h;obtain ⟨y,hy,h⟩:=qE h;cases op with
   |And=>cases h;exact qNM (A.e a x hx) (A.e _ y hy)
   |Or=>cases h;exact qMy (A.e a x hx) (A.e _ y hy)
theorem qNc(T:Body X c F k ex W){r:Rc}(A:AllOk X c F W r){a b d:Expr}{op op':CmpOp}{ce:CE}{pos:Pos}(h:qAe r c a op op' b d=some ce) :
  PE X (.Compare a [op,op'] [b,d] pos) (tD X.K W (den F ce))/\PT X (.Compare a [op,op'] [b,d] pos) (tDT X.K W (qK F (.val ce))):=by
 obtain ⟨o,ho,h⟩:=qE h;obtain ⟨p,hp,h⟩:=qE h;obtain ⟨x,hx,h⟩:=qE h;obtain ⟨y,hy,h⟩:=qE h;obtain ⟨z,hz,h⟩:=qE h;obtain ⟨hl,rfl⟩:=qQ h;have hl:lastMarks [op,op'] [b,d]=false:=by simpa using hl
 exact⟨qNJ (vV T ho).2 (vV T hp).2 (A.e a x hx) (A.e b y hy) (A.e d z hz) hl,qMX (vV T hp).1 (vV T ho).2 (vV T hp).2 (A.e _ x hx) (A.e _ y hy) (A.e _ z hz) hl⟩
theorem qCt(T:Body X c F k ex W){r:Rc}(A:AllOk X c F W r){a:Expr}{ops:List CmpOp}{cs:List Expr}{ce:CE}{pos:Pos}(h:dG r c a ops cs=some ce) :
  PE X (.Compare a ops cs pos) (tD X.K W (den F ce))/\PT X (.Compare a ops cs pos) (tDT X.K W (qK F (.val ce))):=by
 cases ops with
 |nil=>cases h
 |cons op ops=>
  cases cs with
  |nil=>cases h
  |cons b cs=>
   cases ops with
   |nil=>
    cases cs with
    |nil=>exact A.cmp a op b ce pos h
    |cons _ _=>cases h
   |cons op' ops=>
    cases ops with
    |cons _ _=>cases h
    |nil=>
     cases cs with
     |nil=>cases h
     |cons d cs=>
      cases cs with
      |nil=>exact qNc T A h
      |cons _ _=>cases h
theorem qFW{r:Rc}(A:AllOk X c F W r){a b:Expr}{pos:Pos}{ce:CE}(h:dE r c a b=some ce):PE X (.Subscript a b pos) (tD X.K W (den F ce)):=by
 unfold dE at h;cases qr:qB8 b with
 |true=>rw[qr] at h;cases h
 |false=>
 rw[qr] at h;cases q:fN b with
 |some w=>rw[q] at h;obtain ⟨p,rfl⟩:=qKe q;obtain ⟨x,hx,h⟩:=qE h;obtain ⟨l,hl,h⟩:=qE h;obtain ⟨u,hu,h⟩:=qE h;cases h;exact qMw (A.e a x hx) (A.o w.1 l hl) (A.o w.2 u hu)
 |none=>rw[q] at h;obtain ⟨x,hx,h⟩:=qE h;obtain ⟨y,hy,h⟩:=qE h;obtain ⟨hs,rfl⟩:=qQ h;exact qM9 (A.e a x hx) (A.e b y hy) (qKS hs)
theorem qNv(T:Body X c F k ex W){r:Rc}(A:AllOk X c F W r){x:Str}{es:List Expr}{p pos:Pos}{ce:CE}(h:qAf r c x es (c.glob x)=some ce):PE X (.Call (.Name x p) es [] pos) (tD X.K W (den F ce)):=by
 cases w:c.glob x with
 |none=>rw[w] at h;cases h
 |some g=>
  rw[w] at h;cases g with
  |fn i=>
   cases es with
   |nil=>obtain ⟨hs,rfl⟩:=qQ h;exact qNw T hs w
   |cons e es=>obtain ⟨l,hl,h⟩:=qE h;obtain ⟨hs,rfl⟩:=qQ h;exact qNl T hs w (A.l _ l hl).1 (A.l _ l hl).2
  |blt=>exact A.b x es ce p pos w h
  |cls kc fi=>
   cases es with
   |nil=>obtain ⟨hs,rfl⟩:=qQ h;exact qJD T hs w
   |cons e es=>obtain ⟨l,hl,h⟩:=qE h;obtain ⟨hs,rfl⟩:=qQ h;exact qJB T hs w (A.l _ l hl).1 (A.l _ l hl).2
  |_=>cases h
theorem qIv(T:Body X c F k ex W){r:Rc}(A:AllOk X c F W r){a:Expr}{m:Str}{ap p:Pos}{es:List Expr}{x ce:CE}(hx:r.e c a=some x)(h:qAZ r c m (wB a&&(ap.endLine == p.line)) x es (c.M.lookup m)=some ce):PE X (.Call (.Attribute a m ap) es [] p) (tD X.K W (den F ce)):=by
 cases w:c.M.lookup m with
 |some q=>
  rw[w] at h;obtain ⟨mk,tb⟩:=q;cases es with
  |nil=>obtain ⟨hs,rfl⟩:=qQ h;obtain ⟨h1,h2⟩:=Bool.and_eq_true_iff.mp hs;obtain ⟨h2,h3⟩:=Bool.and_eq_true_iff.mp h2;exact qIw T h1 w (A.e a x hx) h2 h3
  |cons e es=>obtain ⟨l,hl,h⟩:=qE h;obtain ⟨hs,rfl⟩:=qQ h;obtain ⟨hs,h4⟩:=Bool.and_eq_true_iff.mp hs;obtain ⟨h1,h2⟩:=Bool.and_eq_true_iff.mp hs;obtain ⟨h2,h3⟩:=Bool.and_eq_true_iff.mp h2;exact qIu T h1 w (A.e a x hx) (A.l _ l hl).1 (A.l _ l hl).2 h2 h3 (of_decide_eq_true h4)
 |none=>
  rw[w] at h;cases es with
  |nil=>cases h
  |cons b es=>
   cases es with
   |cons d es=>
    cases es with
    |cons _ _=>cases h
    |nil=>
     have h:(match decide (m="setdefault") with | true=>none | false=>match decide (m="get") with | true=>none | false=>none)=some ce:=h;split at h
     ·cases h
     ·split at h
      ·cases h
      ·cases h
   |nil=>obtain ⟨o,ho,h⟩:=qE h;obtain ⟨y,hy,h⟩:=qE h;obtain ⟨hs,rfl⟩:=qQ h;obtain ⟨hs,h4⟩:=Bool.and_eq_true_iff.mp hs;obtain ⟨h2,h3⟩:=Bool.and_eq_true_iff.mp hs;exact qI4 T ho (A.e a x hx) (A.e b y hy) h4 h2 h3
theorem qNu(T:Body X c F k ex W){r:Rc}(A:AllOk X c F W r){f:Expr}{es:List Expr}{ks:List Keyword}{p:Pos}{ce:CE}(h:qAg r c f es ks p=some ce):PE X (.Call f es ks p) (tD X.K W (den F ce)):=by
 cases ks with
 |cons _ _=>cases h
 |nil=>
  cases f with
  |Name x q=>exact qNv T A h
  |Attribute a m ap=>obtain ⟨x,hx,h⟩:=qE h;exact qIv T A hx h
  |_=>cases h
theorem qKI{k:Option Expr}{y:Ky}(h:qAo k=some y):∃ e,k=some e/\PE X e (L2.tC (L2.kV (kyV y))):=by
 cases k with
 |none=>cases h
 |some e=>
  cases e with
  |Constant kc j pos=>
   cases kc with
   |str s=>
    cases h;refine⟨_,rfl,?_⟩;have e1:(⟨s.cps.toList.toArray⟩:Str)=s:=by simp
    show PE X _ (L2.tC (.str ⟨s.cps.toList.toArray⟩));rw[e1];exact L2.pe_str
   |int i=>cases h;exact⟨_,rfl,L2.pe_int⟩
   |_=>cases h
  |_=>cases h
theorem qCo{r:Rc}(A:AllOk X c F W r){pos:Pos}:∀ {keys:List (Option Expr)} {values:List Expr} {ks:List Ky} {l:CL},dM keys=some ks->dL r c values=some l->keys.length=values.length ->
  L2.PPs X pos keys values (trs X F W ks l)/\keys.all (·.isSome)=true/\bG l=ks.length
 | [],[],_,_,h1,h2,_=>by cases h1;cases h2;exact⟨L2.pps_nil,rfl,rfl⟩
 | [],_::_,_,_,_,_,h=>by cases h
 |_::_,[],_,_,_,_,h=>by cases h
 |k::keys,e::values,ks,l,h1,h2,h3=>by
  obtain ⟨y,hy,h1⟩:=qE h1;obtain ⟨ys,hys,h1⟩:=qE h1;cases h1;obtain ⟨x,hx,h2⟩:=qE h2;obtain ⟨l',hl,h2⟩:=qE h2;cases h2;obtain ⟨ek,rfl,pk⟩:=qKI (X:=X) hy;obtain ⟨g1,g2,g3⟩:=qCo A (pos:=pos) hys hl (Nat.succ.inj h3)
  exact⟨L2.pps_cons pk (A.e e x hx) g1,by rw[List.all_cons,g2];rfl,congrArg Nat.succ g3⟩
theorem qMi{r:Rc}(A:AllOk X c F W r){keys:List (Option Expr)}{values:List Expr}{pos:Pos}{ce:CE}(h:qAc r c keys values=some ce):PE X (.Dict keys values pos) (tD X.K W (den F ce)):=by
 obtain ⟨ks,hk,h⟩:=qE h;obtain ⟨l,hl,h⟩:=qE h;obtain ⟨hs,rfl⟩:=qQ h;obtain ⟨h1,h2⟩:=Bool.and_eq_true_iff.mp hs;have h1:=of_decide_eq_true h1;obtain ⟨g1,g2,g3⟩:=qCo A (pos:=pos) hk hl h1;refine qNH g1 g2 h1 (of_decide_eq_true h2) g3 fun z=>?_;subst z;cases hk;cases values with
 |nil=>cases hl;exact⟨rfl,rfl,rfl⟩
 |cons _ _=>cases h1
theorem qKO{r:Rc}(A:AllOk X c F W r){es:List Expr}{p:Pos}{ce:CE}(h:qAa r c es=some ce):PE X (.JoinedStr es p) (tD X.K W (den F ce)):=by
 rcases es with _ | ⟨f,_ | ⟨s,_ | ⟨g,_ | ⟨u,es⟩⟩⟩⟩
 ·cases h
 ·cases h
 ·cases h
 ·obtain ⟨a,ha,h⟩:=qE h;obtain ⟨t,ht,h⟩:=qE h;obtain ⟨b,hb,h⟩:=qE h;obtain ⟨x,hx,h⟩:=qE h;obtain ⟨y,hy,h⟩:=qE h;cases h;obtain ⟨_,rfl⟩:=qCD ha;obtain ⟨_,_,rfl⟩:=qKf ht;obtain ⟨_,rfl⟩:=qCD hb;exact qNE (A.e a x hx) (A.e b y hy)
 ·cases h
theorem qNT(T:Body X c F k ex W){r:Rc}(AA:∀ (X:Cx) (c:Cc) (W:WX),Body X c F k ex W->AllOk X c F W r){elt:Expr}{q:Gn}{scope:Scope}{pos:Pos}{ce:CE}(h:gQ r c elt scope q=some ce):PE X (.ListComp elt [⟨.Name q.x q.p,q.iter,q.ifs,0⟩] scope pos) (tD X.K W (den F ce)):=by
 have A:=AA X c W T;obtain ⟨x,px,iter,ifs⟩:=q;cases ifs with
 |nil=>
  obtain ⟨it,hi,h⟩:=qE h;obtain ⟨y,hy,h⟩:=qE h;obtain ⟨hk',rfl⟩:=qQ h;obtain ⟨hcm,hk⟩:=Bool.and_eq_true_iff.mp hk';have K:=yQ T hk
  exact PE.imp (dS K (by rw[T.N];exact T.nd) (T.calm hcm) (A.i _ iter it hi).1 (wJ (A.i (.Name x px) iter it hi).2) (tt:=none) fun cl C s3 H3 fp E=>⟨(AA _ _ _ (vR T hk cl C s3 H3 fp E)).e elt y hy,rfl⟩) fun σ H Q t=>bD (f:=fun env x=>zY (den F y) env x) (mi:=zU F it) (tT _) (by
   obtain ⟨ρ,env,h,s,r,p⟩:=t;rw[den] at p
   exact⟨ρ,env,h,s,r,p⟩)
 |cons tst ts=>
  cases ts with
  |cons _ _=>cases h
  |nil=>
   obtain ⟨it,hi,h⟩:=qE h;obtain ⟨z,hz,h⟩:=qE h;obtain ⟨y,hy,h⟩:=qE h;obtain ⟨hk',rfl⟩:=qQ h;obtain ⟨hcm,hk⟩:=Bool.and_eq_true_iff.mp hk';have K:=yQ T hk
   exact PE.imp (dS K (by rw[T.N];exact T.nd) (T.calm hcm) (A.i _ iter it hi).1 (wJ (A.i (.Name x px) iter it hi).2) (tt:=some (tDT X.K WF (qK F z))) fun cl C s3 H3 fp E=>⟨(AA _ _ _ (vR T hk cl C s3 H3 fp E)).e elt y hy,tst,rfl,(AA _ _ _ (vR T hk cl C s3 H3 fp E)).t tst z hz⟩) fun σ H Q t=>bD (f:=fun env x=>jJ (den F y) (qK F z) env x) (mi:=zU F it) (cU _ _) (by
    obtain ⟨ρ,env,h,s,r,p⟩:=t;rw[den] at p
    exact⟨ρ,env,h,s,r,p⟩)
theorem fQ{x:Str}(h:c.isB x=true):c.glob x=some .blt:=by
 unfold Cc.isB at h;split at h
 ·assumption
 ·cases h
theorem qBG{e:Expr}(h:kC e=true):uB e=true:=by
 cases e with
 |Set _ _=>cases h
 |_=>rfl
theorem qNW(T:Body X c F k ex W){r:Rc}(AA:∀ (X:Cx) (c:Cc) (W:WX),Body X c F k ex W->AllOk X c F W r){elt:Expr}{q:Gn}{scope:Scope}{pos:Pos}{ce:CE}(hd:kC q.iter=true)(h:dH r c elt scope q=some ce):PE X (.ListComp elt [⟨.Name q.x q.p,q.iter,q.ifs,0⟩] scope pos) (tD X.K W (den F ce)):=by
 have A:=AA X c W T;obtain ⟨x,px,iter,ifs⟩:=q;cases ifs with
 |nil=>cases h
 |cons tst ts=>
  cases ts with
  |cons _ _=>cases h
  |nil=>obtain ⟨d,hi,h⟩:=qE h;obtain ⟨z,hz,h⟩:=qE h;obtain ⟨y,hy,h⟩:=qE h;obtain ⟨hk',rfl⟩:=qQ h;obtain ⟨hcm,hk⟩:=Bool.and_eq_true_iff.mp hk';have K:=yQ T hk;exact PE.imp (L2.pe_thaw (dS K (by rw[T.N];exact T.nd) (T.calm hcm) (L2.pi_dict (A.e iter d hi)) (wJ (qBG hd)) (tt:=some (tDT X.K WF (qK F z))) fun cl C s3 H3 fp E=>⟨(AA _ _ _ (vR T hk cl C s3 H3 fp E)).e elt y hy,tst,rfl,(AA _ _ _ (vR T hk cl C s3 H3 fp E)).t tst z hz⟩)) fun σ H Q t=>compD (cU _ _) t
theorem qNV(T:Body X c F k ex W){r:Rc}(AA:∀ (X:Cx) (c:Cc) (W:WX),Body X c F k ex W->AllOk X c F W r){elt:Expr}{gs:List Comprehension}{scope:Scope}{pos:Pos}{ce:CE}(h:uA r c elt scope gs=some ce):PE X (.ListComp elt gs scope pos) (tD X.K W (den F ce)):=by
 unfold uA at h;split at h
 ·rename_i q hq;obtain rfl:=qCC hq;cases hd:kC q.iter with
  |true=>rw[hd] at h;exact qNW T AA hd h
  |false=>rw[hd] at h;exact qNT T AA h
 ·cases h
theorem qAG(T:Body X c F k ex W){r:Rc}(AA:∀ (X:Cx) (c:Cc) (W:WX),Body X c F k ex W->AllOk X c F W r)(e:Expr)(ce:CE)(h:eS r c e=some ce):PE X e (tD X.K W (den F ce)):=by
 have A:=AA X c W T;cases e with
 |Constant kc j pos=>exact qNS h
 |Name x pos=>exact qIl T h
 |BinOp a op b pos=>obtain ⟨o,ho,h⟩:=qE h;obtain ⟨x,hx,h⟩:=qE h;obtain ⟨y,hy,h⟩:=qE h;cases h;exact PE.imp (L2.pe_op (qOx ho) (A.e a x hx) (A.e b y hy)) fun _ _ _ t=>two t
 |UnaryOp op a pos=>exact qEb A h
 |BoolOp op es pos=>exact qOv A h
 |IfExp t a b pos=>obtain ⟨z,hz,h⟩:=qE h;obtain ⟨x,hx,h⟩:=qE h;obtain ⟨y,hy,h⟩:=qE h;cases h;exact qNA (A.t t z hz) (A.e a x hx) (A.e b y hy)
 |Compare a ops cs pos=>exact (qCt T A h).1
 |Tuple es j pos=>obtain ⟨l,hl,h⟩:=qE h;cases h;exact qMu (A.l es l hl).1
 |List es pos=>obtain ⟨l,hl,h⟩:=qE h;cases h;exact qM7 (A.l es l hl).1
 |Subscript a b pos=>exact qFW A h
 |Call f es ks p=>exact qNu T A h
 |Attribute a f pos=>obtain ⟨kk,hk,h⟩:=qE h;obtain ⟨x,hx,h⟩:=qE h;obtain ⟨hs,rfl⟩:=qQ h;exact qNF (T.at' f kk.1 kk.2 hk).1 (A.e a x hx) (kU hs)
 |Dict keys values pos=>exact qMi A h
 |JoinedStr es p=>exact qKO A h
 |ListComp elt gs scope pos=>exact qNV T AA h
 |_=>cases h
theorem qNX(T:Body X c F k ex W){r:Rc}(A:AllOk X c F W r){a:Expr}{op:CmpOp}{b:Expr}{ce:CE}{pos:Pos}(h:qAd r c a op b=some ce) :
  PE X (.Compare a [op] [b] pos) (tD X.K W (den F ce))/\PT X (.Compare a [op] [b] pos) (tDT X.K W (qK F (.val ce))):=by
 obtain ⟨o,ho,h⟩:=qE h;obtain ⟨x,hx,h⟩:=qE h;obtain ⟨y,hy,h⟩:=qE h;obtain ⟨hb,rfl⟩:=qQ h;have hb:behindInMarks op b=false:=by simpa using hb
 exact⟨qNI (vV T ho).2 (A.e _ x hx) (A.e _ y hy) hb,qMW (vV T ho).1 (vV T ho).2 (A.e _ x hx) (A.e _ y hy) hb⟩
theorem qFg(T:Body X c F k ex W){r:Rc}(A:AllOk X c F W r)(a:Expr)(op:CmpOp)(b:Expr)(ce:CE)(pos:Pos)(h:qCx r c a op b=some ce) :
  PE X (.Compare a [op] [b] pos) (tD X.K W (den F ce))/\PT X (.Compare a [op] [b] pos) (tDT X.K W (qK F (.val ce))):=by
 cases op with
 |Is=>
  obtain ⟨x,hx,h⟩:=qE h;unfold sIs at h;cases q:isNone b with
  |true=>
   rw[q] at h;cases h;obtain ⟨j,p',rfl⟩:=qB9 q
   exact⟨qNC (A.e _ x hx),qMV (A.e _ x hx)⟩
  |false=>rw[q] at h;cases h
 |IsNot=>
  obtain ⟨x,hx,h⟩:=qE h;unfold sIs at h;cases q:isNone b with
  |true=>
   rw[q] at h;cases h;obtain ⟨j,p',rfl⟩:=qB9 q
   exact⟨qMz (A.e _ x hx),qMT (A.e _ x hx)⟩
  |false=>rw[q] at h;cases h
 |_=>exact qNX T A h
theorem qRT(T:Body X c F k ex W){x:Str}{a:Expr}{y ce:CE}{p pos:Pos}(hg:c.glob x=some .blt)(ha:PE X a (tD X.K W (den F y)))(h:sB1 c x a y=some ce):PE X (.Call (.Name x p) [a] [] pos) (tD X.K W (den F ce)):=by
 unfold sB1 at h;cases q:bi1 x with
 |some o=>rw[q] at h;obtain ⟨hs,rfl⟩:=qQ h;exact qO0 T q hg ha hs
 |none=>rw[q] at h;obtain ⟨o,ho,h⟩:=qE h;obtain ⟨hs,rfl⟩:=qQ h;obtain ⟨h1,h2⟩:=Bool.and_eq_true_iff.mp hs;exact qOz T h2 ho hg ha h1
theorem qKd (T:Body X c F k ex W) {r:Rc} (A:AllOk X c F W r) {x y:Str} {a:Expr} {ce:CE} {p p2 pos:Pos} (hx:x="isinstance") (hg:c.glob x=some .blt) (h:qAb r c a y=some ce):PE X (.Call (.Name x p) [a,.Name y p2] [] pos) (tD X.K W (den F ce)):=by
 obtain ⟨z,hz,h⟩:=qE h;cases q:tyN y with
 |some t=>rw[q] at h;obtain ⟨hs,rfl⟩:=qQ h;obtain ⟨h1,h2⟩:=Bool.and_eq_true_iff.mp hs;exact qKc T hx q hg h2 (A.e _ z hz) h1
 |none=>rw[q] at h;cases h
theorem qFh(T:Body X c F k ex W){r:Rc}(A:AllOk X c F W r)(x:Str)(es:List Expr)(ce:CE)(p pos:Pos)(hg:c.glob x=some .blt)(h:bS r c x es=some ce):PE X (.Call (.Name x p) es [] pos) (tD X.K W (den F ce)):=by
 rcases es with _ | ⟨a,_ | ⟨b,_ | ⟨d,_ | ⟨_,_⟩⟩⟩⟩
 ·cases h
 ·obtain ⟨y,hy,h⟩:=qE h;exact qRT T hg (A.e _ y hy) h
 ·unfold bS at h;cases q:decide (x="isinstance") with
  |true=>simp only[q] at h;obtain ⟨y,hy,h⟩:=qE h;obtain ⟨p2,rfl⟩:=qCA hy;exact qKd T A (of_decide_eq_true q) hg h
  |false=>simp only[q] at h;obtain ⟨o,ho,h⟩:=qE h;obtain ⟨u,hu,h⟩:=qE h;obtain ⟨v,hv,h⟩:=qE h;obtain ⟨hs,rfl⟩:=qQ h;obtain ⟨hs,h3⟩:=Bool.and_eq_true_iff.mp hs;obtain ⟨h1,h2⟩:=Bool.and_eq_true_iff.mp hs;exact qOy T h3 ho hg (A.e _ u hu) (A.e _ v hv) h1 h2
 ·obtain ⟨o,ho,h⟩:=qE h;obtain ⟨u,hu,h⟩:=qE h;obtain ⟨v,hv,h⟩:=qE h;obtain ⟨z,hz,h⟩:=qE h;obtain ⟨hs,rfl⟩:=qQ h;obtain ⟨h0,hs⟩:=Bool.and_eq_true_iff.mp hs;obtain ⟨hs,h4⟩:=Bool.and_eq_true_iff.mp hs;obtain ⟨hs,h3⟩:=Bool.and_eq_true_iff.mp hs;obtain ⟨h1,h2⟩:=Bool.and_eq_true_iff.mp hs;rw[of_decide_eq_true h0] at ho;exact qIt T h4 ho hg (A.e _ u hu) (A.e _ v hv) (A.e _ z hz) h1 h2 h3
 ·cases h
theorem qFd{r:Rc}(A:AllOk X c F W r)(es:List Expr)(cl:CL)(h:lS r c es=some cl):PA X es (tDL X.K W (qT F cl))/\vA es=true:=by
 cases es with
 |nil=>cases h;exact⟨qMq (es:=[]),rfl⟩
 |cons e es=>
  obtain ⟨x,hx,h⟩:=qE h;obtain ⟨l,hl,h⟩:=qE h;obtain ⟨hs,rfl⟩:=qQ h
  exact⟨qMr (A.e _ x hx) (A.l _ l hl).1 (kM hs),by unfold vA;rw[hs,(A.l _ l hl).2];rfl⟩
theorem qFc{r:Rc}(A:AllOk X c F W r)(o:Option Expr)(cp:CP)(h:oS r c o=some cp):PO X o (tDP X.K W (kJ F cp)):=by
 cases o with
 |none=>cases h;exact qMY
 |some e=>obtain ⟨x,hx,h⟩:=qE h;cases h;exact qMZ (A.e _ x hx)
theorem qGK{r:Rc}(A:AllOk X c F W r){e:Expr}{ct:CT}(h:sT r c e=some ct):PT X e (tDT X.K W (qK F ct)):=by
 obtain ⟨x,hx,h⟩:=qE h;obtain ⟨hs,rfl⟩:=qQ h;exact qMS (A.e _ x hx) (qGh hs)
theorem qFZ(T:Body X c F k ex W){r:Rc}(A:AllOk X c F W r)(e:Expr)(ct:CT)(h:tS r c e=some ct):PT X e (tDT X.K W (qK F ct)):=by
 cases e with
 |UnaryOp op a pos=>
  cases op with
  |Not=>obtain ⟨x,hx,h⟩:=qE h;cases h;exact qMU (A.t _ x hx)
  |_=>cases h
 |BoolOp op es pos=>exact (A.tb _ _ ct pos h).pt
 |Compare a ops cs pos=>obtain ⟨x,hx,h⟩:=qE h;cases h;exact (qCt T A hx).2
 |_=>exact qGK A h
theorem qFY{r:Rc}(A:AllOk X c F W r)(op:BoolOp)(es:List Expr)(ct:CT)(pos:Pos)(h:tbS r c op es=some ct):L2.PW X (.BoolOp op es pos) (tDT X.K W (qK F ct)):=by
 cases es with
 |nil=>cases h
 |cons a es=>
  cases es with
  |nil=>
   cases op with
   |And=>exact L2.pw_and1 (A.t _ ct h)
   |Or=>exact L2.pw_or1 (A.t _ ct h)
  |cons b es=>
   obtain ⟨x,hx,h⟩:=qE h;obtain ⟨y,hy,h⟩:=qE h;cases op with
   |And=>cases h;exact qMQ (A.t _ x hx) (A.tb _ _ y pos hy)
   |Or=>cases h;exact qMP (A.t _ x hx) (A.tb _ _ y pos hy)
theorem qFe(T:Body X c F k ex W){r:Rc}(A:AllOk X c F W r)(tg e:Expr)(ci:CI)(h:iS r c e=some ci):PI X tg e (tDI X.K W (zU F ci))/\uB e=true:=by
 unfold iS at h;cases q:fO e with
 |none=>
  rw[q] at h;obtain ⟨z,hz,h⟩:=qE h;obtain ⟨hs,rfl⟩:=qQ h
  exact⟨qMo (A.e _ z hz),hs⟩
 |some es=>
  rw[q] at h;obtain ⟨p,p2,rfl⟩:=qKg q;rcases es with _ | ⟨a,_ | ⟨b,_ | ⟨d,_ | _⟩⟩⟩
  ·cases h
  ·obtain ⟨z,hz,h⟩:=qE h;obtain ⟨hs,rfl⟩:=qQ h;obtain ⟨h1,h2⟩:=Bool.and_eq_true_iff.mp hs;obtain ⟨g1,g2,g3,g4⟩:=T.gl (fQ h2)
   exact⟨qMn g1 g4 (A.e _ z hz) (jD h1),rfl⟩
  ·obtain ⟨z,hz,h⟩:=qE h;obtain ⟨z',hz',h⟩:=qE h;obtain ⟨hs,rfl⟩:=qQ h;obtain ⟨hs,h2⟩:=Bool.and_eq_true_iff.mp hs;obtain ⟨h1,h3⟩:=Bool.and_eq_true_iff.mp hs;obtain ⟨g1,g2,g3,g4⟩:=T.gl (fQ h2)
   exact⟨qMm g1 g4 (A.e _ z hz) (A.e _ z' hz') (wR h1 h3) (jD h3),rfl⟩
  ·obtain ⟨z,hz,h⟩:=qE h;obtain ⟨z',hz',h⟩:=qE h;obtain ⟨z'',hz'',h⟩:=qE h;obtain ⟨hs,rfl⟩:=qQ h;obtain ⟨hs,h2⟩:=Bool.and_eq_true_iff.mp hs;obtain ⟨hs,h4⟩:=Bool.and_eq_true_iff.mp hs;obtain ⟨h1,h3⟩:=Bool.and_eq_true_iff.mp hs;obtain ⟨g1,g2,g3,g4⟩:=T.gl (fQ h2)
   exact⟨qMl g1 g4 (A.e _ z hz) (A.e _ z' hz') (A.e _ z'' hz'') (qFj h1 h3 h4) (wR h3 h4) (jD h4),rfl⟩
  ·cases h
theorem vK:∀ (n:Nat) (X:Cx) (c:Cc) (W:WX),Body X c F k ex W->AllOk X c F W (rcN n)
 |0,_,_,_,_=>{
   e:=fun _ _ h=>nomatch h
   cmp:=fun _ _ _ _ _ h=>nomatch h
   b:=fun _ _ _ _ _ _ h=>nomatch h
   l:=fun _ _ h=>nomatch h
   o:=fun _ _ h=>nomatch h
   t:=fun _ _ h=>nomatch h
   tb:=fun _ _ _ _ h=>nomatch h
   i:=fun _ _ _ h=>nomatch h }
 |n+1,X,c,W,T=>
  have A:=vK n X c W T
  ⟨qAG T (vK n),qFg T A,qFh T A,qFd A,qFc A,qFZ T A,qFY A,qFe T A⟩
theorem gH{e:Expr}{t:Option Expr}{n:Nat}{env:PySem.Env}(h:uC e=true):swapsWith e t n env=pure false:=by
 cases e <;> first | rfl | cases h
theorem qRV{o i:Expr}{pos:Pos}{env:PySem.Env}(h:gY i=true)(v:Value):assign (.Subscript o i pos) env v=(do
      let ov <- holding [v] (eval o env)
      let iv <- holding [v,ov] (eval i env)
      standAt pos
      holding [v,ov,iv] (setItem ov iv v)
      release [v,ov,iv] []):=by
  cases i <;> first | rfl | cases h
theorem qGF{t:TG}{g:L2.TG}{tg iter:Expr}{ci:CI}{body:List Stmt}{cb:CS}{pos:Pos}(ht:vZ X.K t g)(hc:X.calm=true)(hi:PI X.nox tg iter (tDI X.K WF (zU F ci)))(hg:PG X.nox tg g)(hb:PSs X.nox body (tDS X.K WF (qB F B cb)))
  (hs:∀ x,foldedSetIterable iter X.env x=pure x):PS X (.For tg iter body [] pos) (tDS X.K W (qB F B (.fori t ci cb))):=PS.imp (PS.nox (L2.ps_for PassesOwn.never hc hi hg hb hs)) fun E σ H q=>by
 obtain ⟨ρ,env,h,s,r,p⟩:=q;rw[qB] at p;refine⟨ρ,env,h,s,r,qC5 (PostS.ofR s p fun ρ1 h1 it H1 e1 r1 q J hJ=>?_) _⟩;cases it with
 |row xs=>obtain ⟨go,yl,sp⟩:=hJ;exact qBl ht (s.mono e1) r1 go yl sp q
 |pairs xs=>exact (show False from q).elim
 |live k=>obtain ⟨a,ha,rfl⟩:=hJ;exact qJu ht (s.mono e1) r1 ha q
theorem qF5{i:Nat}{y:Str}{py spos:Pos}{e:Expr}{ce:CE}(T:BodyS X c F k ex W)(hi:c.own y=some i)(hc:qCF e=true){n:Nat}(he:eS (rcN n) c e=some ce):PS X (.Assign [.Name y py] e spos) (tDS X.K W (qB F B (.set (.nm i) ce))):=by
 have AA:=vK (F:=F) (k:=k) (ex:=ex) n;have A:=AA X c W T.toBody;obtain ⟨h1,h2⟩:=T.loc hi;have pe:=qAG T.toBody (vK n) e ce he
 have key:∀ {σ:L2.St} {H:Hp} {E:Ends},tDS X.K W (qB F B (.set (.nm i) ce)) E σ H->tD X.K W (den F ce) σ H fun v H'=>E.nx (σ.set i (some v)) H':=fun {σ H E} t=>by
  obtain ⟨ρ,env,h,s,r,p⟩:=t;rw[qB] at p
  exact⟨ρ,env,h,s,r,PostS.ofR s p fun ρ' h' d H' e' r' q v hv=>q ρ' H' _ (Step.refl _ _) r' ((s.mono e').set i hv)⟩
 cases e with
 |ListComp elt gs scope pos=>
  have he:uA (rcN n) c elt scope gs=some ce:=he;have hc':(match yG gs with | some q=>decide (q.ifs.length<=1)&&!kC q.iter | none=>false)=true:=hc
  obtain ⟨g,hg⟩:∃ g,yG gs=some g:=by
   cases z:yG gs with
   |none=>rw[z] at hc';cases hc'
   |some g=>exact⟨g,rfl⟩
  rw[hg] at hc';have hdn:kC g.iter=false:=by simpa using (Bool.and_eq_true_iff.mp hc').2
  have hsc:gQ (rcN n) c elt scope g=some ce:=by
   unfold uA at he;rw[hg] at he;have he:(match kC g.iter with | true=>dH (rcN n) c elt scope g | false=>gQ (rcN n) c elt scope g)=some ce:=he;rw[hdn] at he;exact he
  clear hc'
  obtain rfl:=qCC hg;obtain ⟨x,px,iter,ifs⟩:=g;have hsw:swapsWith (.ListComp elt [⟨.Name x px,iter,ifs,0⟩] scope pos) (some (.Name y py)) spos.line X.env=pure (X.env.blockKind == .function&&X.env.kindOf y == some .local&&py.line == (Expr.ListComp elt [⟨.Name x px,iter,ifs,0⟩] scope pos).pos.line&&!(scope.names.any fun (n,k)=>n == y&&(k == .local || k == .cell))):=rfl;cases q:(X.env.blockKind == .function&&X.env.kindOf y == some .local&&py.line == (Expr.ListComp elt [⟨.Name x px,iter,ifs,0⟩] scope pos).pos.line&&!(scope.names.any fun (n,k)=>n == y&&(k == .local || k == .cell))) with
  |false=>rw[q] at hsw;exact qAV T.nd' h1 h2 pe hsw (.inl (T.fn _))
  |true=>
   rw[q] at hsw;simp only[Bool.and_eq_true] at q;have hk:X.env.scope.names.lookup y=some .local:=(show X.env.kindOf y=some .local by simpa using q.1.1.2);cases ifs with
   |nil=>
    obtain ⟨it,hit,he⟩:=qE hsc;obtain ⟨z,hz,he⟩:=qE he;obtain ⟨hko',rfl⟩:=qQ he;obtain ⟨hcm,hko⟩:=Bool.and_eq_true_iff.mp hko';have K:=yQ T.toBody hko;refine PS.imp (qAv K T.nd' (T.calm hcm) (A.i _ iter it hit).1 (wJ (A.i (.Name x px) iter it hit).2) (tt:=none) (fun cl C s3 H3 fp E=>⟨(AA _ _ _ (vR T.toBody hko cl C s3 H3 fp E)).e elt z hz,rfl⟩) h1 hk hsw) fun E σ H t=>bD (f:=fun env x=>zY (den F z) env x) (mi:=zU F it) (tT _) ?_;obtain ⟨ρ,env,h,s,r,p⟩:=key t;rw[den] at p
    exact⟨ρ,env,h,s,r,p⟩
   |cons tst ts=>
    cases ts with
    |cons _ _=>cases hsc
    |nil=>
     obtain ⟨it,hit,he⟩:=qE hsc;obtain ⟨zt,hzt,he⟩:=qE he;obtain ⟨z,hz,he⟩:=qE he;obtain ⟨hko',rfl⟩:=qQ he;obtain ⟨hcm,hko⟩:=Bool.and_eq_true_iff.mp hko';have K:=yQ T.toBody hko;refine PS.imp (qAv K T.nd' (T.calm hcm) (A.i _ iter it hit).1 (wJ (A.i (.Name x px) iter it hit).2) (tt:=some (tDT X.K WF (qK F zt))) (fun cl C s3 H3 fp E=>⟨(AA _ _ _ (vR T.toBody hko cl C s3 H3 fp E)).e elt z hz,tst,rfl,(AA _ _ _ (vR T.toBody hko cl C s3 H3 fp E)).t tst zt hzt⟩) h1 hk hsw) fun E σ H t=>bD (f:=fun env x=>jJ (den F z) (qK F zt) env x) (mi:=zU F it) (cU _ _) ?_;obtain ⟨ρ,env,h,s,r,p⟩:=key t;rw[den] at p
     exact⟨ρ,env,h,s,r,p⟩
 |_=>cases hc
theorem cW(T:BodyS X c F k ex W):BodyS X.nox c.still F k ex WF where
 N:=T.N
 nd:=T.nd
 sc:=T.sc
 calm:=T.calm
 room:=T.room
 hu:=T.hu
 glob:=fun x g h=>by
  have:=T.glob x g h
  cases g <;> exact this
 xc:=fun pins σ H s0 e s' I x=>by
  obtain ⟨_,_,_,_,_,_,_,_,_,_,_,_,_,_,_,_,z⟩:=x;exact False.elim z
 fn:=T.fn
 stk:=T.stk
 xr:=fun z=>by cases z
 xm:=T.xm
 xq:=T.xq
 xv:=T.xv
 xg:=T.xg
 mt:=T.mt
 at':=T.at'
 noex:=T.noex
 xcl:=T.xcl
theorem qMR(T:BodyS X c F k ex W)(e:Value):BodyS (mark X e) c.dull F k ex WF where
 N:=T.N
 nd:=T.nd
 sc:=T.sc
 calm:=fun z=>by cases z
 room:=fun z=>by cases z
 hu:=T.hu
 glob:=fun x g h=>by
  have:=T.glob x g h
  cases g <;> exact this
 xc:=fun pins σ H s0 e s' I x=>by
  obtain ⟨_,_,_,_,_,_,_,_,_,_,_,_,_,_,_,_,z⟩:=x;exact False.elim z
 fn:=T.fn
 stk:=T.stk
 xr:=fun z=>by cases z
 xm:=T.xm
 xq:=T.xq
 xv:=T.xv
 xg:=T.xg
 mt:=T.mt
 at':=T.at'
 noex:=T.noex
 xcl:=T.xcl
theorem qLj(T:BodyS X c F k ex W)(pins:List (Addr × Obj))(W1:WX):BodyS (hold X pins fun e s'=>∃ pins' σ H s0,Inv (hold X pins fun _ _=>False) pins' σ H s0/\CXD X.prog X.w ex X.stack H s0 (fun _ co H'=>∃ c,co=some c/\W1 c σ H') e s') c.still F k ex W1 where
 N:=T.N
 nd:=T.nd
 sc:=T.sc
 calm:=T.calm
 room:=T.room
 hu:=T.hu
 glob:=fun x g h=>by
  have:=T.glob x g h
  cases g <;> exact this
 xc:=fun pins' σ H s0 e s' I x=>⟨pins',σ,H,s0,⟨qBA (qA9 I.ok),I.os,I.bare,I.base,I.loc,I.cell,I.free,I.freeC,I.pin,I.hok,I.len⟩,x⟩
 fn:=T.fn
 stk:=T.stk
 xr:=fun z=>by cases z
 xm:=T.xm
 xq:=T.xq
 xv:=T.xv
 xg:=T.xg
 mt:=T.mt
 at':=T.at'
 noex:=T.noex
 xcl:=T.xcl
structure AllS (F:Nat->List D->M D) (k B:Nat) (ex:Nat->Option Addr) (r:Rs):Prop where
 s:∀ (X:Cx) (c:Cc) (W:WX),BodyS X c F k ex W->∀ st cs,r.s c st=some cs->PS X st (tDS X.K W (qB F B cs))
 ss:∀ (X:Cx) (c:Cc) (W:WX),BodyS X c F k ex W->∀ st cs,r.ss c st=some cs->PSs X st (tDS X.K W (qB F B cs))
 h:∀ (X:Cx) (c:Cc) (W:WX),BodyS X c F k ex W->∀ hs ch,r.h c hs=some ch->HOf X F B ex hs ch
theorem qFs(T:BodyS X c F k ex W){n:Nat}{t e:Expr}{spos:Pos}{cs:CS}(h:qAY (rcN n) c e t=some cs):PS X (.Assign [t] e spos) (tDS X.K W (qB F B cs)):=by
 have A:=vK (F:=F) (k:=k) (ex:=ex) n X c W T.toBody;cases t with
 |Name x py=>
  obtain ⟨i,hi,h⟩:=qE h;obtain ⟨y,hy,h⟩:=qE h;obtain ⟨hn,rfl⟩:=qQ h;obtain ⟨h1,h2⟩:=T.loc hi;rcases Bool.or_eq_true_iff.mp hn with hn | hn
  ·exact qAV T.nd' h1 h2 (A.e _ y hy) (gH hn) (.inl (T.fn _))
  ·cases n with
   |zero=>cases hy
   |succ n=>exact qF5 T hi hn hy
 |Attribute o f p=>obtain ⟨kk,hk,h⟩:=qE h;obtain ⟨x,hx,h⟩:=qE h;obtain ⟨y,hy,h⟩:=qE h;obtain ⟨hn,rfl⟩:=qQ h;obtain ⟨k1,k2,k3⟩:=T.at' _ kk.1 kk.2 hk;exact qF4 k1 k2 (fun c C h1 h2=>k3 c C h1 h2) (A.e _ x hx) (A.e _ y hy) (gH hn)
 |Subscript o i p=>obtain ⟨x,hx,h⟩:=qE h;obtain ⟨z,hz,h⟩:=qE h;obtain ⟨y,hy,h⟩:=qE h;obtain ⟨hn,rfl⟩:=qQ h;obtain ⟨h1,h2⟩:=Bool.and_eq_true_iff.mp hn;exact qF3 (A.e _ x hx) (A.e _ z hz) (A.e _ y hy) (qRV h2) (by unfold swapsWithSole;exact gH h1) rfl
 |_=>cases h
theorem tX(T:BodyS X c F k ex W)(hc:X.calm=true){tg:Expr}{t:TG}(h:uI c tg=some t):∃ g,vZ X.K t g/\PG X.nox tg g:=by
 cases tg with
 |Name x p=>
  obtain ⟨i,hi,h⟩:=qE h;cases h;obtain ⟨h1,h2⟩:=T.loc hi
  exact⟨_,qE9 i,L2.pg_name (X:=X.nox) T.nd' h1 h2 (.inl (T.fn _))⟩
 |_=>cases h
theorem qMB{n:Nat}(S:AllS F k B ex (rsN n))(X:Cx)(c:Cc)(W:WX)(T:BodyS X c F k ex W){tg it:Expr}{a:List Stmt}{pos:Pos}{t:TG}{z:CI}{y:CS}(ht:uI c tg=some t)(hz:(rcN n).i c it=some z)(hy:(rsN n).ss c.still a=some y)(hcm:c.calm=true):PS X (.For tg it a [] pos) (tDS X.K W (qB F B (.fori t z y))):=by
 have T':=cW T;have A':=vK (k:=k) (ex:=ex) n X.nox c WF { T'.toBody with };obtain ⟨g,g1,g2⟩:=tX T (T.calm hcm) ht;exact qGF g1 (T.calm hcm) (A'.i _ _ z hz).1 g2 (S.ss _ _ _ T' _ y hy) (wJ (A'.i (.Name "" ⟨0,0,0,0⟩) _ z hz).2)
theorem qMC{n:Nat}(S:AllS F k B ex (rsN n))(X:Cx)(c:Cc)(W:WX)(T:BodyS X c F k ex W){tg l:Expr}{a:List Stmt}{pos:Pos}{cs:CS}(hd:kC l=true)(h:gP (rcN n) (rsN n) c tg l a=some cs):PS X (.For tg l a [] pos) (tDS X.K W (qB F B cs)):=by
 unfold gP at h;obtain ⟨t,ht,h⟩:=qE h;cases t with
 |two i j=>cases h
 |nm i=>obtain ⟨z,hz,h⟩:=qE h;obtain ⟨y,hy,h⟩:=qE h;obtain ⟨hcm,rfl⟩:=qQ h;have T':=cW T;have A':=vK (k:=k) (ex:=ex) n X.nox c WF { T'.toBody with };obtain ⟨g,g1,g2⟩:=tX T (T.calm hcm) ht;exact qGE g1 (T.calm hcm) (A'.e _ z hz) g2 (S.ss _ _ _ T' _ y hy) (wJ (qBG hd))
theorem qE3{n:Nat}(S:AllS F k B ex (rsN n))(X:Cx)(c:Cc)(W:WX)(T:BodyS X c F k ex W){a els fin:List Stmt}{hs:List ExceptHandler}{pos:Pos}{cs:CS}(h:qAX (rsN n) c a hs els fin=some cs):PS X (.Try a hs els fin pos) (tDS X.K W (qB F B cs)):=by
 cases hs with
 |nil=>cases h
 |cons hd hs=>
  cases els with
  |cons _ _=>cases h
  |nil=>
   cases fin with
   |cons _ _=>cases h
   |nil=>obtain ⟨x,hx,h⟩:=qE h;obtain ⟨y,hy,h⟩:=qE h;obtain ⟨_,rfl⟩:=qQ h;exact qF1 T.stk (S.h X c W T _ y hy) fun pins W1=>S.ss _ _ _ (qLj T pins W1) _ x hx
theorem qFb{n:Nat}(S:AllS F k B ex (rsN n))(X:Cx)(c:Cc)(W:WX)(T:BodyS X c F k ex W)(st:Stmt)(cs:CS)(h:stS (rcN n) (rsN n) c st=some cs):PS X st (tDS X.K W (qB F B cs)):=by
 have A:=vK (k:=k) (ex:=ex) n X c W T.toBody;cases st with
 |Assign ts e spos=>
  rcases ts with _ | ⟨t,_ | ⟨_,_⟩⟩
  ·cases h
  ·exact qFs T h
  ·cases h
 |Expr e pos=>obtain ⟨y,hy,h⟩:=qE h;obtain ⟨hn,rfl⟩:=qQ h;exact qGG (A.e _ y hy) (gH hn)
 |Return v pos=>
  cases v with
  |none=>cases h;exact qF6
  |some e=>obtain ⟨y,hy,h⟩:=qE h;cases h;exact qF7 (A.e _ y hy)
 |Pass pos=>cases h;exact qF9
 |Break pos=>cases h;exact qGJ
 |Continue pos=>cases h;exact qGI
 |If t a b pos=>obtain ⟨z,hz,h⟩:=qE h;obtain ⟨x,hx,h⟩:=qE h;obtain ⟨y,hy,h⟩:=qE h;cases h;exact qGD (A.t _ z hz) (S.ss X c W T _ x hx) (S.ss X c W T _ y hy)
 |While t a els pos=>
  cases els with
  |cons _ _=>cases h
  |nil=>obtain ⟨z,hz,h⟩:=qE h;obtain ⟨x,hx,h⟩:=qE h;cases h;have T':=cW T;exact qFz ((vK (k:=k) (ex:=ex) n _ _ _ T'.toBody).t _ z hz) (S.ss _ _ _ T' _ x hx)
 |For tg it a els pos=>
  cases els with
  |cons _ _=>cases h
  |nil=>
   have h:(match kC it with | true=>gP (rcN n) (rsN n) c tg it a | false=>(uI c tg).bind fun t=>((rcN n).i c it).bind fun z=>((rsN n).ss c.still a).bind fun y=>qR c.calm (.fori t z y))=some cs:=h;cases hd:kC it with
   |true=>rw[hd] at h;exact qMC S X c W T hd h
   |false=>
   rw[hd] at h;obtain ⟨t,ht,h⟩:=qE h;obtain ⟨z,hz,h⟩:=qE h;obtain ⟨y,hy,h⟩:=qE h;obtain ⟨hcm,rfl⟩:=qQ h;exact qMB S X c W T ht hz hy hcm
 |Try a hs els fin pos=>exact qE3 S X c W T h
 |_=>cases h
theorem qGA{st:Stmt}:PS X st (tDS X.K W (qB F B .opq)):=fun pins s σ H D I t=>by
 obtain ⟨ρ,env,h,st,r,p⟩:=t;rw[qB] at p;exact False.elim p
theorem qAW{n:Nat}(S:AllS F k B ex (rsN n)){X:Cx}{c:Cc}{W:WX}(T:BodyS X c F k ex W)(st:Stmt):PS X st (tDS X.K W (qB F B (((rsN n).s c st).getD .opq))):=by
 cases q:(rsN n).s c st with
 |none=>exact qGA
 |some x=>exact S.s X c W T st x q
theorem qGB{st:Stmt}{a:CS}(h1:PS X st (tDS X.K W (qB F B a))):PSs X [st] (tDS X.K W (qB F B a)):=L2.pss_one h1
theorem qFa{n:Nat}(S:AllS F k B ex (rsN n))(X:Cx)(c:Cc)(W:WX)(T:BodyS X c F k ex W)(st:List Stmt)(cs:CS)(h:ssS (rsN n) c st=some cs):PSs X st (tDS X.K W (qB F B cs)):=by
 cases st with
 |nil=>cases h;exact qGC
 |cons s r=>
  cases r with
  |nil=>cases h;exact qGB (qAW S T _)
  |cons t r=>obtain ⟨y,hy,h⟩:=qE h;cases h;exact qGH (qAW S T _) (S.ss X c W T _ y hy)
theorem qLv{n:Nat}(S:AllS F k B ex (rsN n))(X:Cx)(c:Cc)(W:WX)(T:BodyS X c F k ex W){x:Str}{p pos:Pos}{i:Nat}{nm:Option Str}{b:List Stmt}{r:List ExceptHandler}{ch:CH}(hi:c.glob x=some (.exc i))(h:sH (rsN n) c i nm b r=some ch):HOf X F B ex (.ExceptHandler (some (.Name x p)) nm b pos::r) ch:=by
 obtain ⟨g1,g2,g3,C,g4,g5,g6⟩:=T.gl hi;cases b with
 |nil=>cases h
 |cons s b=>
  obtain ⟨cs,hcs,h⟩:=qE h;obtain ⟨kk,hk,h⟩:=qE h;obtain ⟨q,hq,h⟩:=qE h;cases nm with
  |none=>
   cases h
   exact⟨⟨C,g1,g2,g4,fun j D hj=>T.xm i cs C j D hcs g5 hj⟩,⟨_,_,rfl⟩,fun e=>S.ss _ _ _ (qMR T e) _ kk hk,S.h X c W T _ q hq⟩
  |some m=>cases h
theorem qFf{n:Nat}(S:AllS F k B ex (rsN n))(X:Cx)(c:Cc)(W:WX)(T:BodyS X c F k ex W)(hs:List ExceptHandler)(ch:CH)(h:hS (rsN n) c hs=some ch):HOf X F B ex hs ch:=by
 cases hs with
 |nil=>cases h;trivial
 |cons hd r=>
  obtain ⟨ty,nm,b,pos⟩:=hd;cases ty with
  |none=>cases h
  |some t=>
   obtain ⟨x,hx,h2⟩:=qE h;obtain ⟨p,rfl⟩:=qCA hx
   clear h
   cases w:c.glob x with
   |none=>rw[w] at h2;cases h2
   |some g=>
    rw[w] at h2;cases g with
    |exc i=>exact qLv S X c W T w h2
    |_=>cases h2
theorem qEN:∀ n,AllS F k B ex (rsN n)
 |0=>{ s:=fun _ _ _ _ _ _ h=>(nomatch h),ss:=fun _ _ _ _ _ _ h=>(nomatch h),h:=fun _ _ _ _ _ _ h=>(nomatch h) }
 |n+1=>
  have S:=qEN n
  ⟨qFb S,qFa S,qFf S⟩
end
structure Df where
 name:Str
 qual:Str
 st:Stmt
 N:List Str
 ps:List Str
structure DfOk (G:List (Str × GK)) (xs:List (Nat × List Nat)) (Mt:List (Str × Nat × List (Nat × Nat))) (At:List (Str × Nat × List Nat)) (d:Df) (f:Fn):Prop where
 sc:L2.FnScope d.N d.ps (L2.defScope d.st)
 cp:cSs ⟨d.N,L2.defScope d.st,G,xs,true,true,Mt,At⟩ 100 (L2.defBody d.st)=some f.body
 ar:f.ar=d.ps.length
 sl:f.sl=d.N.length
def vX(K:PySem.W.Frag)(d:Df)(f:Addr)(fd:FuncData):Prop:=L2.Fun K d.name d.qual d.st f fd/\L2.Binds K fd d.ps []
def qRk(mg:Str->Option Value)(x:Str)(d:D):Prop:=∃ v u,mg x=some u/\RelV v u/\∀ K ρ H,RepV K ρ H d v
def zT(K:PySem.W.Frag)(xl:List Nat)(c:Nat):Option Addr:=if xl.contains c then (match PySem.W.nsIn K mainGlobals (qD c) with | some (some (.ref C))=>some C | _=>none) else none
theorem yM{K:PySem.W.Frag}{xl:List Nat}{c:Nat}{C:Addr}(h:zT K xl c=some C):c∈xl/\zJ K c C:=by
 unfold zT at h;split at h
 ·rename_i q;refine⟨by simpa using q,?_⟩;split at h
  ·rename_i C' z;cases h;exact z
  ·cases h
 ·cases h
theorem aU{K:PySem.W.Frag}{xl:List Nat}{c:Nat}{C:Addr}{x:Str}(hc:xl.contains c=true)(hx:qD c=x)(h:PySem.W.nsIn K mainGlobals x=some (some (.ref C))):zT K xl c=some C:=by
 unfold zT;rw[if_pos hc,hx,h]
theorem uQ{K:PySem.W.Frag}{c:Nat}{C D:Addr}{x:Str}(h:zJ K c D)(hx:qD c=x)(ha:PySem.W.nsIn K mainGlobals x=some (some (.ref C))):D=C:=by
 unfold zJ at h;rw[hx,ha] at h;cases h;rfl
theorem qMJ {K:PySem.W.Frag} {C D:Addr} {b:Bool} (hc:PySem.W.isClsIn K C=true) (ht:PySem.W.typeIn K (.ref C)=some (.type "type")) (hb:PySem.W.subIn K (.ref C) (.type "BaseException")=some true) (hs:PySem.W.subIn K (.ref D) (.ref C)=some b) :
  PySem.W.exmOne K (.ref D) (.ref C)=some b:=by
 unfold PySem.W.exmOne;rw[hb,if_pos (show (some true == some true)=true from rfl)];unfold PySem.W.kitCls;have hc':(PySem.W.clsIn K C).isSome=true:=hc;simp only;rw[hc',ht,if_pos (show (true&&some (Value.type "type") == some (Value.type "type"))=true by decide),hs]
def GlP(K:PySem.W.Frag)(mg:Str->Option Value)(xl:List Nat)(ds:List Df)(x:Str)(g:GK):Prop:=match g with
 | .fn i=>∃ d f fd,ds[i]?=some d/\mg x=some (.ref f)/\vX K d f fd
 | .con d=>qRk mg x d
 | .blt=>mg x=none
 | .exc c=>∃ C,mg x=some (.ref C)/\zT K xl c=some C/\aJ K C=true
 | .cls c i=>∃ C d f fd,mg x=some (.ref C)/\zJ K c C/\L2.Cls K C/\L2.Mk K C f/\ds[i]?=some d/\vX K d f fd
def MtP(K:PySem.W.Frag)(ds:List Df)(m:Str)(mk:Nat)(tb:List (Nat × Nat)):Prop:=m=qD mk/\mk<256 ^ 60/\∀ cc fi C,tbN tb cc=some fi->zJ K cc C->L2.Cls K C/\∃ d f fd,L2.Meth K C m f/\ds[fi]?=some d/\vX K d f fd
def AtP(K:PySem.W.Frag)(f:Str)(kk:Nat)(cs:List Nat):Prop:=f=qD kk/\kk<256 ^ 60/\∀ cc C,cs.contains cc=true->zJ K cc C->L2.NoAttr K C (qD kk)
def AllP{α:Type}(P:α->Prop):List α->Prop
 | []=>True
 |a::r=>P a/\AllP P r
theorem AllP.of{α:Type}{P:α->Prop}{l:List α}(h:AllP P l){a:α}(ha:a∈l):P a:=by
 induction l with
 |nil=>cases ha
 |cons b r ih=>
  rcases List.mem_cons.mp ha with e | e
  ·rw[e];exact h.1
  ·exact ih h.2 e
def AllZ{α β:Type}(P:α->β->Prop):List α->List β->Prop
 |a::r,b::q=>P a b/\AllZ P r q
 |_,_=>True
theorem AllZ.of{α β:Type}{P:α->β->Prop}{l:List α}{m:List β}(h:AllZ P l m){i:Nat}{a:α}{b:β}(ha:l[i]?=some a)(hb:m[i]?=some b):P a b:=by
 induction l generalizing m i with
 |nil=>cases ha
 |cons x r ih=>
  cases m with
  |nil=>cases hb
  |cons y q=>
   cases i with
   |zero=>cases ha;cases hb;exact h.1
   |succ i=>exact ih h.2 (by simpa using ha) (by simpa using hb)
def qF(d:Df):Prop:=∀ (kV doc pm:Value) (an:Option Addr) (cdv ct:Value) (us:List Value),us.length=d.ps.length->bindArgs (PySem.W.fnOf d.name d.qual (L2.defArgs d.st) (L2.defBody d.st) (L2.defScope d.st) .none kV doc pm an cdv ct) ⟨us,[]⟩=pure (d.ps.zip us)
section
variable {P:List Value->Prop}
theorem ar1(h:∀ a,P [a]):∀ us:List Value,us.length=1->P us
 | [a],_=>h a
theorem ar2(h:∀ a b,P [a,b]):∀ us:List Value,us.length=2->P us
 | [a,b],_=>h a b
theorem ar3(h:∀ a b c,P [a,b,c]):∀ us:List Value,us.length=3->P us
 | [a,b,c],_=>h a b c
theorem ar4(h:∀ a b c d,P [a,b,c,d]):∀ us:List Value,us.length=4->P us
 | [a,b,c,d],_=>h a b c d
end
theorem qMp{K:PySem.W.Frag}{d:Df}{f:Addr}{oc:Value}{od an:Option Addr}{osl:Array (Option Value)}{kV doc pm cdv ct:Value}(p:qF d)
  (l:K.lookup f=some ⟨oc,od,.func (PySem.W.fnOf d.name d.qual (L2.defArgs d.st) (L2.defBody d.st) (L2.defScope d.st) .none kV doc pm an cdv ct),osl⟩) (c:PySem.W.codeIn K cdv d.qual=true) (k:PySem.W.keepIn K (.ref f)=true) :
  ∃ fd,vX K d f fd:=⟨_,L2.fun_mk l c k,(L2.fun_mk l c k).binds p⟩
section
variable {K:PySem.W.Frag}{mg:Str->Option Value}{xl:List Nat}{ds:List Df}{h:Heap}{x:Str}
theorem gl_fn{i:Nat}{d:Df}{f:Addr}(X:K.In h)(Gm:h.Ns mainGlobals mg)(hd:ds[i]?=some d)(a:PySem.W.nsIn K mainGlobals x=some (some (.ref f)))(D:∃ fd,vX K d f fd):GlP K mg xl ds x (.fn i):=by
 obtain ⟨fd,D⟩:=D
 exact⟨d,f,fd,hd,PySem.W.mg_of X Gm a,D⟩
theorem gl_cls{i c:Nat}{C f:Addr}{d:Df}(X:K.In h)(Gm:h.Ns mainGlobals mg)(hd:ds[i]?=some d)(hx:qD c=x)(a:PySem.W.nsIn K mainGlobals x=some (some (.ref C)))(q:L2.Cls K C)(m:L2.Mk K C f)(D:∃ fd,vX K d f fd):GlP K mg xl ds x (.cls c i):=by
 obtain ⟨fd,D⟩:=D
 exact⟨C,d,f,fd,PySem.W.mg_of X Gm a,(by unfold zJ;rw[hx];exact a),q,m,hd,D⟩
theorem gl_exc{c:Nat}{C:Addr}(X:K.In h)(Gm:h.Ns mainGlobals mg)(hc:xl.contains c=true)(hx:qD c=x)(a:PySem.W.nsIn K mainGlobals x=some (some (.ref C)))(e:aJ K C=true):GlP K mg xl ds x (.exc c):=
 ⟨C,PySem.W.mg_of X Gm a,aU hc hx a,e⟩
theorem gl_int{n:Int}{t:Tok}(X:K.In h)(Gm:h.Ns mainGlobals mg)(a:PySem.W.nsIn K mainGlobals x=some (some (.int n t))):GlP K mg xl ds x (.con (.int n)):=⟨.int _,_,PySem.W.mg_of X Gm a,⟨_,rfl⟩,fun _ _ _=>rfl⟩
theorem gl_blt(X:K.In h)(Gm:h.Ns mainGlobals mg)(a:PySem.W.nsIn K mainGlobals x=some none):GlP K mg xl ds x .blt:=PySem.W.mg_none_of X Gm a
end
structure Top (K:PySem.W.Frag) (mg:Str->Option Value) (G:List (Str × GK)) (xs:List (Nat × List Nat)) (xl:List Nat) (Mt:List (Str × Nat × List (Nat × Nat))) (At:List (Str × Nat × List Nat)) (ds:List Df) (fns:List Fn):Prop where
 ok:∀ (i:Nat) (d:Df) (f:Fn),ds[i]?=some d->fns[i]?=some f->DfOk G xs Mt At d f
 len:ds.length=fns.length
 gl:∀ x g,(x,g)∈G->GlP K mg xl ds x g
 mt:∀ m mk tb,(m,mk,tb)∈Mt->MtP K ds m mk tb
 at':∀ f kk cs,(f,kk,cs)∈At->AtP K f kk cs
 xm:∀ (i:Nat) (cs:List Nat) (C:Addr) (j:Nat) (D:Addr),(i,cs)∈xs->zT K xl i=some C->zT K xl j=some D->PySem.W.exmOne K (.ref D) (.ref C)=some (cs.contains j)
 xk:∀ (i:Nat) (cs:List Nat),(i,cs)∈xs->xl.contains i=true->cs.contains i=true
 xl1:∀ (cs:List Nat),(1,cs)∈xs->cs=xl
 xv:∀ (cs:List Nat) (j:Nat) (D:Addr),(0,cs)∈xs->zT K xl j=some D->PySem.W.exmOne K (.ref D) (.type "ValueError")=some (cs.contains j)
 xg:∀ (j:Nat) (D:Addr),zT K xl j=some D->XGet K D
section
variable {K:PySem.W.Frag}{mg:Str->Option Value}{xl:List Nat}{ds:List Df}{h:Heap}{x:Str}
theorem df_mk'{d:Df}{f:Addr}{oc:Value}{od an:Option Addr}{osl:Array (Option Value)}{kV doc pm cdv ct:Value}{nm ql:Str}(p:qF d)(hn:d.name=nm)(hq:d.qual=ql)
  (l:K.lookup f=some ⟨oc,od,.func (PySem.W.fnOf nm ql (L2.defArgs d.st) (L2.defBody d.st) (L2.defScope d.st) .none kV doc pm an cdv ct),osl⟩) (c:PySem.W.codeIn K cdv ql=true) (k:PySem.W.keepIn K (.ref f)=true):∃ fd,vX K d f fd:=by
 subst hn hq;exact qMp p l c k
theorem gl_str{tx:Tx}{z:Str}{t:Tok}(X:K.In h)(Gm:h.Ns mainGlobals mg)(hz:z=⟨tx.toArray⟩)(a:PySem.W.nsIn K mainGlobals x=some (some (.str z t))):GlP K mg xl ds x (.con (.str tx)):=⟨.str z,_,PySem.W.mg_of X Gm a,⟨_,rfl⟩,fun _ _ _=>by rw[hz];rfl⟩
theorem with_cls {C:Addr} {P:Prop} (X:K.In h) (a:PySem.W.nsIn K mainGlobals x=some (some (.ref C))) (b:PySem.W.plainGet K C Str.empty=true) (c:PySem.W.hasDictIn K C=true) (d:PySem.W.plainOver K C=true) (e:PySem.W.findIn K (.ref C) "__setattr__"=some (some (.builtin "object.__setattr__"))) (k:PySem.W.nsIn K mainGlobals x=some (some (.ref C))->L2.Cls K C->P):P:=k a ⟨b,c,d,e⟩
theorem with_exc {C:Addr} {P:Prop} (X:K.In h) (a:PySem.W.nsIn K mainGlobals x=some (some (.ref C))) (b:PySem.W.excIn K C [.type "ValueError",.type "Exception",.type "BaseException",.type "object"] "ValueError.__new__"=true) (k:PySem.W.nsIn K mainGlobals x=some (some (.ref C))->aJ K C=true->P):P:=k a b
theorem mt_nil{m:Str}{mk:Nat}(h1:qD mk=m)(h2:mk<256 ^ 60):MtP K ds m mk []:=⟨h1.symm,h2,fun _ _ _ z=>by cases z⟩
theorem mt_cons{m:Str}{mk c i:Nat}{C f:Addr}{d:Df}{tb:List (Nat × Nat)}(hx:qD c=x)(hn:PySem.W.nsIn K mainGlobals x=some (some (.ref C)))(h3:L2.Cls K C)(hm:L2.Meth K C m f)(hd:ds[i]?=some d)(D:∃ fd,vX K d f fd)(r:MtP K ds m mk tb):MtP K ds m mk ((c,i)::tb):=
 ⟨r.1,r.2.1,fun cc fi E ht hE=>by
  unfold tbN at ht;split at ht
  ·rename_i q;have q:c=cc:=by simpa using q
   subst q;cases ht;cases uQ hE hx hn;obtain ⟨fd,D⟩:=D
   exact⟨h3,d,f,fd,hm,hd,D⟩
  ·exact r.2.2 cc fi E ht hE⟩
theorem at_nil{f:Str}{kk:Nat}(h1:qD kk=f)(h2:kk<256 ^ 60):AtP K f kk []:=⟨h1.symm,h2,fun _ _ z=>by cases z⟩
theorem at_cons{f:Str}{kk c:Nat}{C:Addr}{cs:List Nat}(hx:qD c=x)(hn:PySem.W.nsIn K mainGlobals x=some (some (.ref C)))(h3:PySem.W.findIn K (.ref C) f=some none)(r:AtP K f kk cs):AtP K f kk (c::cs):=
 ⟨r.1,r.2.1,fun cc D hc hD=>by
  rw[List.contains_cons,Bool.or_eq_true] at hc;rcases hc with e | e
  ·have e:cc=c:=by simpa using e
   subst e;cases uQ hD hx hn;unfold L2.NoAttr;rw[<- r.1];exact h3
  ·exact r.2.2 cc D e hD⟩
def XsP(K:PySem.W.Frag)(C:Addr)(cs:List Nat)(j:Nat):Prop:=∀ D,zJ K j D->PySem.W.subIn K (.ref D) (.ref C)=some (cs.contains j)
theorem xs_mk{C D:Addr}{cs:List Nat}{j:Nat}{b:Bool}(hx:qD j=x)(a:PySem.W.nsIn K mainGlobals x=some (some (.ref D)))(hb:cs.contains j=b)(hs:PySem.W.subIn K (.ref D) (.ref C)=some b):XsP K C cs j:=fun E hE=>by
 cases uQ hE hx a;rw[hb];exact hs
def XmP(K:PySem.W.Frag)(xl:List Nat)(i:Nat)(cs:List Nat):Prop:=∀ C,zT K xl i=some C->∀ j D,zT K xl j=some D->PySem.W.exmOne K (.ref D) (.ref C)=some (cs.contains j)
theorem xm_mk {i:Nat} {cs:List Nat} {C:Addr} (hx:qD i=x) (a:PySem.W.nsIn K mainGlobals x=some (some (.ref C))) (hc:PySem.W.isClsIn K C=true) (ht:PySem.W.typeIn K (.ref C)=some (.type "type")) (hb:PySem.W.subIn K (.ref C) (.type "BaseException")=some true) (r:AllP (XsP K C cs) xl):XmP K xl i cs:=fun E hE j D hD=>by
 cases uQ (yM hE).2 hx a;obtain ⟨hj,hD⟩:=yM hD;exact qMJ hc ht hb (r.of hj D hD)
def XgP(K:PySem.W.Frag)(j:Nat):Prop:=∀ D,zJ K j D->XGet K D
theorem xg_mk{j:Nat}{C:Addr}(hx:qD j=x)(a:PySem.W.nsIn K mainGlobals x=some (some (.ref C)))(g:XGet K C):XgP K j:=fun D hD=>by
 cases uQ hD hx a;exact g
theorem top_of{G:List (Str × GK)}{xs:List (Nat × List Nat)}{Mt:List (Str × Nat × List (Nat × Nat))}{At:List (Str × Nat × List Nat)}{fns:List Fn}(ok:AllZ (fun d f=>DfOk G xs Mt At d f) ds fns)(len:ds.length=fns.length)(gl:AllP (fun p:Str × GK=>GlP K mg xl ds p.1 p.2) G)
  (mt:AllP (fun p:Str × Nat × List (Nat × Nat)=>MtP K ds p.1 p.2.1 p.2.2) Mt) (at':AllP (fun p:Str × Nat × List Nat=>AtP K p.1 p.2.1 p.2.2) At) (xm:AllP (fun p:Nat × List Nat=>XmP K xl p.1 p.2) xs) (xk:xs.all (fun p=>!xl.contains p.1 || p.2.contains p.1)=true) (xl1:xs.all (fun p=>decide (p.1≠1) || decide (p.2=xl))=true)
  (xv:xs.all (fun p=>decide (p.1≠0))=true) (xg:AllP (XgP K) xl):Top K mg G xs xl Mt At ds fns where
 ok:=fun _ _ _ hd hf=>ok.of hd hf
 len:=len
 gl:=fun _ _ hg=>gl.of hg
 mt:=fun _ _ _ hm=>mt.of hm
 at':=fun _ _ _ hf=>at'.of hf
 xm:=fun _ _ C j D hi hC hD=>xm.of hi C hC j D hD
 xk:=fun i cs hi hx=>by
  have:=List.all_eq_true.mp xk _ hi
  rw[show xl.contains (i,cs).1=true from hx] at this;exact this
 xl1:=fun cs hi=>by
  have:=List.all_eq_true.mp xl1 _ hi
  simpa using this
 xv:=fun cs j D hi _=>by
  have:=List.all_eq_true.mp xv _ hi
  simp at this
 xg:=fun j D hD=>xg.of (yM hD).1 D (yM hD).2
end
theorem lookup_mem'{α β:Type}[BEq α][LawfulBEq α]{l:List (α × β)}{x:α}{g:β}(h:l.lookup x=some g):(x,g)∈l:=by
 induction l with
 |nil=>cases h
 |cons p l ih=>
  obtain ⟨a,b⟩:=p;rw[List.lookup_cons] at h;cases q:(x == a) with
  |true=>
   rw[q] at h;cases h
   have:x=a:=by simpa using q
   subst this;exact List.mem_cons_self ..
  |false=>rw[q] at h;exact List.mem_cons_of_mem _ (ih h)
theorem PostS.fin{K:PySem.W.Frag}{Q:VK}{w:W1}{ρ:List Addr}{H:Hp}{r:SR}(p:PostV K w Q ρ H (fin r)):PostS K (fun c _ H'=>w c H') { nx:=fun _ H'=>Q .non H',rt:=Q } ρ H r:=by
 cases r with
 |nx e h=>exact fun ρ' H' st e' r' s'=>p ρ' H' e' r' .non rfl
 |rt d h=>exact fun ρ' H' v e' r' hv=>p ρ' H' e' r' v hv
 |bk e h=>exact False.elim p
 |ct e h=>exact False.elim p
 |exc c e h=>exact fun ρ' H' st e' r' s'=>p ρ' H' e' r'
 |bad=>exact False.elim p
theorem PSs.wish{X:Cx}{E:Value->Shared->Prop}{st:List Stmt}{t:TS}(h:PSs (X.wish E) st t)(hE:∀ e s,E e s->X.xe e s):PSs X st t:=fun pins s σ H D I hw=>
 wpAny_mono (h pins s σ H D (I.wish _) hw) (fun _ _ q=>q.unwish) hE
theorem RepS.start{K:PySem.W.Frag}{ρ:List Addr}{H:Hp}{N:List Str}{ds:List D}{vs:List V}{n:Nat}(l:RepL K ρ H ds vs)(hn:n=N.length-vs.length):RepS K ρ H (ds.map some++List.replicate n none) (L2.start N vs):=by
 subst hn;unfold L2.start;refine⟨by simp[l.length],fun i d hi=>?_⟩
 by_cases hlt:i<ds.length
 ·rw[List.getElem?_append_left (by simpa using hlt),List.getElem?_map] at hi;cases q:ds[i]? with
  |none=>rw[q] at hi;cases hi
  |some d'=>rw[q] at hi;cases hi;obtain ⟨v,h1,h2⟩:=l.get q;refine⟨v,?_,h2⟩;rw[List.getElem?_append_left (by simpa [l.length] using hlt),List.getElem?_map,h1];rfl
 ·rw[List.getElem?_append_right (by simpa using hlt),List.getElem?_replicate] at hi;split at hi <;> cases hi
def qDG(X0:Cx)(ex:Nat->Option Addr)(E:XK):Value->Shared->Prop:=fun e s'=>
 (∃ pins σ H1 s1,Inv X0 pins σ H1 s1/\CXD X0.prog X0.w ex X0.stack H1 s1 (fun _ co H'=>∃ c,co=some c/\∀ e,E e (some c) H') e s') \/
 (∃ pins σ H1 s1 a args h' c C,ex c=some C/\Inv X0 pins σ H1 s1/\Heap.MadeExcOf s1.heap h' a (.ref C) args/\(∀ e,E e (some c) H1)/\e=.ref a/\s'={ s1 with heap:=h' })
theorem aS{P:Program}{w:World}{K:PySem.W.Frag}{mg:Str->Option Value}{base:Heap}{G:List (Str × GK)}{xs:List (Nat × List Nat)}{xl:List Nat}{Mt:List (Str × Nat × List (Nat × Nat))}{At:List (Str × Nat × List Nat)}{ds:List Df}{fns:List Fn}{B:Nat}(T:Top K mg G xs xl Mt At ds fns) :
  ∀ (n i:Nat) (d:Df) (f:Addr) (fd:FuncData),ds[i]?=some d->L2.Fun K d.name d.qual d.st f fd->L2.FnOk P w K mg base (CXD P w (zT K xl)) (2*n) f fd d.ps (spD K (qA fns B n i))
 |0,i,d,f,fd,hi,hf=>by
  refine⟨fun vs H Q E h=>?_,fun A outer s H args us vs Q E hr he hb hv h=>?_⟩
  ·obtain ⟨ρ,h0,ds,_,_,p⟩:=h;exact False.elim p
  ·obtain ⟨ρ,h0,ds,_,_,p⟩:=h;exact False.elim p
 |n+1,i,d,f,fd,hi,hf=>by
  have hil:=(List.getElem?_eq_some_iff.mp hi).1;have hfi:fns[i]?=some (fns[i]'(by rw[<- T.len];exact hil)):=List.getElem?_eq_getElem _;generalize fns[i]'(by rw[<- T.len];exact hil)=fn at hfi;have O:=T.ok i d fn hi hfi
  have key:∀ {ds:List D} {h:AH},qA fns B (n+1) i ds h=dI (qA fns B n) B fn ds h:=by
   intro ds h;rw[qA,hfi]
  have arity:∀ {w:W1} {Q:VK} {ρ:List Addr} {H:Hp} {ds:List D} {h:AH},PostV K w Q ρ H (qA fns B (n+1) i ds h)->ds.length=fn.ar/\PostV K w Q ρ H (fin (qB (qA fns B n) B fn.body (ds.map some++List.replicate (fn.sl-fn.ar) none) h)):=by
   intro w Q ρ H ds h p;rw[key,dI] at p;exact PostV.ite p
  obtain ⟨oc,od,kV,doc,pm,an,cdv,ct,osl,rfl,lk,hcd⟩:=hf.ex;refine L2.fn_of lk hcd O.sc (fun vs H Q E h=>?_) fun A outer s H vs Q E hr h=>?_
  ·obtain ⟨ρ,h0,ds,_,l,p⟩:=h;rw[l.length,(arity p).1,O.ar]
  ·obtain ⟨ρ,h0,ds',r,l,p⟩:=h;obtain ⟨ha,p⟩:=arity p;refine⟨tDS K (fun c _ H'=>∀ e,E e (some c) H') (qB (qA fns B n) B fn.body),?_,ρ,ds'.map some++List.replicate (fn.sl-fn.ar) none,h0,RepS.start l (by rw[O.sl,l.length,ha]),r,PostS.fin p⟩;refine PSs.wish (E:=qDG (cxX (zT K xl) P w K mg base d.N d.qual (L2.defScope d.st) f cdv A outer s H E) (zT K xl) E) ?_ fun e s' z=>?_
   ·have T':BodyS ((cxX (zT K xl) P w K mg base d.N d.qual (L2.defScope d.st) f cdv A outer s H E).wish (qDG (cxX (zT K xl) P w K mg base d.N d.qual (L2.defScope d.st) f cdv A outer s H E) (zT K xl) E)) ⟨d.N,L2.defScope d.st,G,xs,true,true,Mt,At⟩ (qA fns B n) (2*n) (zT K xl) (fun c _ H'=>∀ e,E e (some c) H'):=by
     refine⟨⟨rfl,O.sc.nd,rfl,fun _=>rfl,fun _=>hr,hr.units,fun x g hg=>?_,fun i cs xl' C j D h h1 hC hD hj=>?_,fun cs xl' j D h h1 hD hj=>?_,fun m mk tb hm=>?_,fun f kk cs hf=>T.at' f kk cs (lookup_mem' hf),fun xl' j D h1 hD hj=>?_,fun pins σ H1 s1 e s' I x=>.inl ⟨pins,σ,H1,s1,I.unwish,x⟩⟩,fun _=>rfl,⟨rfl,rfl⟩,rfl,fun i C h=>(yM h).2,fun _ pins σ H1 s1 a args h' c C hc I m hw=>.inr ⟨pins,σ,H1,s1,a,args,h',c,C,hc,I.unwish,m,hw,rfl,rfl⟩,fun i cs C j D h=>T.xm i cs C j D (lookup_mem' h)⟩
     ·have gm:=T.gl x g (lookup_mem' hg);cases g with
      |fn j=>
       obtain ⟨d',f',fd',hd',hm,hF,hB⟩:=gm
       exact⟨f',fd',d'.ps,hm,hF.kp,hB,aS T n j d' f' fd' hd' hF⟩
      |con e=>
       obtain ⟨v,u,h1,h2,h3⟩:=gm
       exact⟨v,u,h1,h2,fun ρ H=>h3 _ ρ H⟩
      |blt=>exact gm
      |exc c=>exact gm
      |cls c j=>
       obtain ⟨C,d',f',fd',hm,h1,h2,h3,hd',hF,hB⟩:=gm
       exact⟨C,f',fd',d'.ps,hm,h1,h2,h3,hB,aS T n j d' f' fd' hd' hF⟩
     ·have e:=T.xl1 _ (lookup_mem' h1);subst e;have hD':=aU hj rfl hD;have q1:=T.xm i cs C j D (lookup_mem' h) hC hD';refine qBw q1 fun z=>?_;have e:D=C:=Value.ref.inj (beq_iff_eq.mp z);subst e;have q2:=T.xm i cs D i D (lookup_mem' h) hC hC;rw[T.xk i cs (lookup_mem' h) (by simpa using (yM hC).1)] at q2;exact Option.some.inj (q1.symm.trans q2)
     ·have e:=T.xl1 _ (lookup_mem' h1);subst e;exact qBw (T.xv cs j D (lookup_mem' h) (aU hj rfl hD)) fun z=>by cases beq_iff_eq.mp z
     ·obtain ⟨m1,m2,m3⟩:=T.mt m mk tb (lookup_mem' hm);refine⟨m1,m2,fun cc fi C ht hC=>?_⟩;obtain ⟨k1,d',f',fd',k2,k3,k4,k5⟩:=m3 cc fi C ht hC
      exact⟨k1,f',fd',d'.ps,k2,k5,aS T n fi d' f' fd' k3 k4⟩
     ·have e:=T.xl1 _ (lookup_mem' h1);subst e;exact T.xg j D (aU hj rfl hD)
    exact (qEN 100).ss _ _ _ T' _ _ O.cp
   ·rcases z with⟨pins,σ,H1,s1,I,x⟩ | ⟨pins,σ,H1,s1,a,args,h',c,C,hc,I,m,hw,rfl,rfl⟩
    ·exact qJy (W:=fun c _ H'=>∀ e,E e (some c) H') (fun _ _ _ z=>z) I x
    ·exact qJx (W:=fun c _ H'=>∀ e,E e (some c) H') (fun _ _ _ z=>z) I hc m hw
theorem qJ1{K:PySem.W.Frag}{m:List D->M D}(hm:∀ ns:List Int,ns.length<=63->∃ h',m [.ref 0] [.rol (ns.map .int)]=.ok (.bl true) h')(H:Hp)(a:Addr)(ns:List Int)(hl:ns.length<=63)(hO:L2.Only H)(hS:SqL K H a (ns.map V.int)){E:L2.XK} :
  spD K m [.ref a] H (fun v _=>v=.bl true) E:=by
 have hr:∀ ns:List Int,RepL K [a] H (ns.map .int) (ns.map V.int):=fun ns=>by
  induction ns with
  |nil=>rfl
  |cons x ns ih=>exact⟨_,_,rfl,rfl,ih⟩
 refine⟨[a],[.rol (ns.map .int)],[.ref 0],⟨rfl,fun i o hi=>?_,fun i j b o1 o2 hi hj m1 m2 _ _=>?_⟩,⟨.ref a,[],rfl,⟨a,rfl,rfl⟩,rfl⟩,?_⟩
 ·cases i with
  |succ i=>simp at hi
  |zero=>
   cases hi;refine⟨a,rfl,ns.map V.int,?_,hr ns⟩;rcases hS with (h | ⟨o,h⟩) | h
   ·rcases hO a with z | ⟨o,xs,z⟩
    ·rw[h] at z;cases z
    ·rw[h] at z;cases z
   ·exact .inl ⟨o,h⟩
   ·exact .inr h
 ·cases i with
  |succ i=>simp at hi
  |zero=>cases hi;cases m1
 ·obtain ⟨h',e⟩:=hm ns hl;rw[e];exact fun ρ' H' _ _ v hv=>hv
theorem walk{l:PySem.W.OpenLaw}{q:Program}{loose:List Str}{XP:(Str->Option Value)->Heap->Prop}{YP:World->Heap->Prop}{dr:DefRec}{K:Params->PySem.W.Frag}{G:List (Str × GK)}{xs:List (Nat × List Nat)}{xl:List Nat}{Mt:List (Str × Nat × List (Nat × Nat))}{At:List (Str × Nat × List Nat)}{ds:List Df}{fns:List Fn}{B i:Nat}{d:Df}{x:Str}
  (hn:l.most=some 63) (hdf:dr.params.defaults=[]) (hi:ds[i]?=some d) (hG:(dr.name,GK.fn i)∈G) (hq:d.qual=d.name) (hps:d.ps=[x])
  (hY:∀ (w:World) (h:Heap),YP w h->(K w.params).In h)
  (T:∀ (w:World) (mg:Str->Option Value) (h:Heap),(K w.params).In h->h.Ns mainGlobals mg->Top (K w.params) mg G xs xl Mt At ds fns)
  (hm:∀ ns:List Int,ns.length<=63->∃ h',qA fns B 40 i [.ref 0] [.rol (ns.map .int)]=.ok (.bl true) h')
  (hbnd:∀ (fd:FuncData) (f:Addr) (K:PySem.W.Frag),L2.Fun K d.name d.name d.st f fd->∀ (s:Shared) (u:Value),BindsTo s fd ⟨[u],[]⟩ [(x,u)]) :
  PySem.W.WalkO q loose XP YP l.row.toRowW dr [] (fun f vs=>PySem.call f vs):=by
 refine L2.walk_of (n:=63) (k:=80) (x:=x) (K:=K) (CX:=fun w=>CXD l.prog w (zT (K w.params) xl)) (sp:=fun w=>spD (K w.params) (qA fns B 40 i)) hn (by decide) hdf ⟨rfl,by decide,by decide⟩ hY (fun w mg fa h KX Gm hmg=>?_) (fun w H a ns hl hO hS=>qJ1 hm H a ns hl hO hS) fun w H s e s' z=>?_
 ·have T':=T w mg h KX Gm;obtain ⟨d',f,fd,h0,h1,h2,h3⟩:=T'.gl _ _ hG;rw[hi] at h0;cases h0;rw[h1] at hmg;cases hmg;refine⟨fd,hbnd fd _ _ (hq ▸ h2),fun base kb nb=>?_⟩
  have:=aS (P:=l.prog) (w:=w) (base:=base) (B:=B) T' 40 i d _ fd hi h2
  rw[hps] at this;exact this
 ·obtain ⟨_,_,_,_,_,_,_,_,_,_,_,_,_,_,q⟩:=z;exact q
end Fy
namespace Lk35
open Fy PySem
theorem i10 {α:Sort _} {a b:α}:(if 3<=16777216 then a else b)=a:=if_pos (by omega)
theorem i11 {α:Sort _} {a b:α}:(if 2<=16777216 then a else b)=a:=if_pos (by omega)
theorem i12 {α:Sort _} {a b:α}:(if 0<=16777216 then a else b)=a:=if_pos (by omega)
theorem i13 {α:Sort _} {a b:α}:(if 1<=16777216 then a else b)=a:=if_pos (by omega)
theorem i14 {α:Sort _} {a b:α}:(if 0<16777216 then a else b)=a:=if_pos (by omega)
theorem i15 {α:Sort _} {a b:α}:(if 0+1<=16777216 then a else b)=a:=if_pos (by omega)
theorem i16:(0:Int)<3:=by omega
theorem i17:(0:Int)<2:=by omega
theorem i18:(3:Int)<1073741824:=by omega
theorem i19:(decide ((0:Int)<((0:Nat):Int))=false):=rfl
abbrev qH:Nat:=306712044914
abbrev zG:Nat:=21785059625889383
abbrev qW:Nat:=1215263604
abbrev kF:Nat:=1836020596
abbrev fA:Nat:=1952807028
abbrev fE:Nat:=1936027252
abbrev fL:Nat:=1668246885
abbrev fF:Nat:=465625246068
abbrev fB:Nat:=495806672499
abbrev fI:Nat:=7598521885552567652
abbrev fJ:Nat:=127482042954642681340718708
abbrev fH:Nat:=7598521898286281316
abbrev fK:Nat:=29681726098730597
abbrev qBx:Nat:=1835626085
abbrev eZ:Nat:=521561010803
abbrev fG:Nat:=115944243160436
abbrev vD:Nat:=1919905645
abbrev vQ:Nat:=108256335193460
abbrev wG:Nat:=1818846821
abbrev yD:Nat:=30792258880630375
abbrev yE:Nat:=113702655586931
abbrev uH:Nat:=127961762460275
abbrev aH:Nat:=2128684475675056370548
def qQO:CT:=(.val (.lit (.bl true)))
def qQP:CS:=(.whil qQO .skip)
def qQf:CS:=(.set (.nm 3) (.bi .add (.var 5) (.lit (.int 1))))
def qQe:CS:=(.set (.nm 4) (.var 5))
def qQd:CS:=(.seq (.set (.nm 5) (.bi .fdiv (.bi .add (.var 3) (.var 4)) (.lit (.int 2)))) (.ite (.val (.bi .lt (.bi .ix (.bi .ix (.var 0) (.var 5)) (.var 1)) (.var 2))) qQf qQe))
def qDv:CT:=(.val (.bi .lt (.var 3) (.var 4)))
def qDw:CS:=(.ret (.var 3))
def pZ:CS:=(.seq (.set (.nm 3) (.lit (.int 0))) (.seq (.set (.nm 4) (.un .len (.var 0))) (.seq (.whil qDv qQd) qDw)))
def rE:CS:=(.ite (.val (.bi .lt (.var 0) (.lit (.int 0)))) .opq .skip)
def rA:CS:=(.seq (.exp (.call 2 (.cons (.var 0) .nil))) (.ite (.val (.bi .gt (.var 0) (.var 1))) .opq .skip))
def qQl:CS:=(.seq (.set (.nm 1) (.bi .min2 (.var 1) (.bi .ix (.bi .ix (.var 0) (.var 3)) (.lit (.int 0))))) (.set (.nm 2) (.bi .max2 (.var 2) (.bi .ix (.bi .ix (.var 0) (.bi .sub (.var 4) (.lit (.int 1)))) (.lit (.int 1))))))
def qQk:CS:=(.ret (.bi .add (.bi .add (.sl (.var 0) .no (.at (.var 3))) (.tup (.cons (.tup (.cons (.var 1) (.cons (.var 2) .nil))) .nil))) (.sl (.var 0) (.at (.var 4)) .no)))
def qQj:CS:=(.seq (.set (.nm 3) (.call 1 (.cons (.var 0) (.cons (.lit (.int 1)) (.cons (.var 1) .nil))))) (.seq (.set (.nm 4) (.call 1 (.cons (.var 0) (.cons (.lit (.int 0)) (.cons (.bi .add (.var 2) (.lit (.int 1))) .nil))))) (.seq (.ite (.val (.bi .lt (.var 3) (.var 4))) qQl .skip) qQk)))
def qQm:CS:=(.seq (.exp (.call 3 (.cons (.var 1) (.cons (.var 2) .nil)))) (.seq (.ite (.val (.bi .eq (.var 1) (.var 2))) (.ret (.var 0)) .skip) qQj))
def qDu:CS:=(.ret (.var 2))
def pY:CS:=(.seq (.exp (.call 2 (.cons (.var 1) .nil))) (.seq (.set (.nm 2) (.sl (.var 0) (.at (.call 1 (.cons (.var 0) (.cons (.lit (.int 1)) (.cons (.bi .add (.var 1) (.lit (.int 1))) .nil))))) .no)) (.seq (.ite (.and (.val (.bi .gt (.un .len (.var 2)) (.lit (.int 0)))) (.val (.bi .lt (.bi .ix (.bi .ix (.var 2) (.lit (.int 0))) (.lit (.int 0))) (.var 1)))) (.ret (.bi .add (.tup (.cons (.tup (.cons (.var 1) (.cons (.bi .ix (.bi .ix (.var 2) (.lit (.int 0))) (.lit (.int 1))) .nil))) .nil)) (.sl (.var 2) (.at (.lit (.int 1))) .no))) .skip) qDu)))
def qQc:CS:=(.exp (.me .append (.var 3) (.tup (.cons (.var 4) (.cons (.bi .ix (.var 5) (.lit (.int 0))) .nil)))))
def qQb:CS:=(.set (.nm 4) (.bi .ix (.var 5) (.lit (.int 1))))
def qQa:CS:=(.seq (.ite (.val (.bi .gt (.bi .ix (.var 5) (.lit (.int 0))) (.var 4))) qQc .skip) qQb)
def qQZ:CS:=(.seq (.ite (.val (.bi .ge (.bi .ix (.var 5) (.lit (.int 0))) (.var 2))) .brk .skip) qQa)
def qDr:CS:=(.exp (.me .append (.var 3) (.tup (.cons (.var 4) (.cons (.var 2) .nil)))))
def pT:CS:=(.ret (.un .tuple (.var 3)))
def qDq:CS:=(.seq (.ite (.val (.bi .lt (.var 4) (.var 2))) qDr .skip) pT)
def pU:CS:=(.seq (.exp (.call 3 (.cons (.var 1) (.cons (.var 2) .nil)))) (.seq (.set (.nm 3) (.lst .nil)) (.seq (.set (.nm 4) (.var 1)) (.seq (.fori (.nm 5) (.of (.call 5 (.cons (.var 0) (.cons (.var 1) .nil)))) qQZ) qDq))))
def sY:CS:=(.seq (.setF (.var 0) 1836020596 [306712044914,1215263604] (.var 1)) (.seq (.setF (.var 0) 1952807028 [306712044914,358300611685,362411681138] (.lit (.str []))) (.seq (.setF (.var 0) 1936027252 [306712044914] (.lit (.int 0))) (.seq (.setF (.var 0) 1668246885 [306712044914] (.lit (.int 0))) (.seq (.setF (.var 0) 465625246068 [306712044914,362411681138] (.lit (.int 1))) (.seq (.setF (.var 0) 495806672499 [306712044914,358300611685] (.tup .nil)) (.seq (.setF (.var 0) 7598521885552567652 [306712044914] (.lit (.bl false))) (.seq (.setF (.var 0) 127482042954642681340718708 [306712044914] (.lit (.bl false))) (.seq (.setF (.var 0) 7598521898286281316 [306712044914] (.lit (.bl false))) (.setF (.var 0) 29681726098730597 [306712044914,362411681138] (.lit (.bl false))))))))))))
def qEC:CS:=(.setF (.var 0) 1952807028 [306712044914,358300611685,362411681138] (.bi .add (.un (.fld 1952807028) (.var 0)) (.var 1)))
def qEB:CS:=(.seq (.ite (.val (.bi .gt (.bi .add (.un .len (.un (.fld 1952807028) (.var 0))) (.un .len (.var 1))) (.lit (.int 2000)))) .opq .skip) qEC)
def qEA:CS:=(.seq (.ite (.not (.val (.chain .le .le (.lit (.int 1)) (.un .len (.var 1)) (.lit (.int 200))))) .opq .skip) qEB)
def sP:CS:=(.seq (.ite (.val (.un (.fld 7598521885552567652) (.var 0))) .opq .skip) qEA)
def qEK:CS:=(.setF (.var 0) 7598521885552567652 [306712044914] (.lit (.bl true)))
def sZ:CS:=(.seq (.ite (.val (.un (.fld 7598521885552567652) (.var 0))) .opq .skip) qEK)
def qEL:CS:=(.seq (.setF (.var 0) 7598521898286281316 [306712044914] (.lit (.bl true))) (.seq (.setF (.var 0) 1668246885 [306712044914] (.bi .max2 (.un (.fld 1668246885) (.var 0)) (.var 1))) (.seq (.setF (.var 0) 465625246068 [306712044914,362411681138] (.bi .max2 (.un (.fld 465625246068) (.var 0)) (.var 2))) (.seq (.setF (.var 0) 495806672499 [306712044914,358300611685] (.meth 507330387524976831460456 [(306712044914,11)] (.var 0) (.cons (.var 3) .nil))) (.setF (.var 0) 29681726098730597 [306712044914,362411681138] (.and (.un (.fld 7598521885552567652) (.var 0)) (.bi .eq (.un (.fld 1668246885) (.var 0)) (.bi .add (.un .len (.un (.fld 1952807028) (.var 0))) (.lit (.int 1))))))))))
def tE:CS:=(.seq (.set (.nm 4) (.ite (.val (.un (.fld 7598521885552567652) (.var 0))) (.bi .add (.un .len (.un (.fld 1952807028) (.var 0))) (.lit (.int 1))) (.un .len (.un (.fld 1952807028) (.var 0))))) (.seq (.ite (.or (.val (.bi .gt (.var 1) (.var 4))) (.val (.bi .lt (.bi .add (.var 2) (.lit (.int 1))) (.var 1)))) .retN .skip) qEL))
def qRQ:CS:=(.set (.nm 2) (.call 4 (.cons (.var 2) (.cons (.var 4) (.cons (.var 5) .nil)))))
def qRP:CS:=(.seq (.set (.nm 4) (.bi .max2 (.bi .ix (.var 3) (.lit (.int 0))) (.un (.fld 1668246885) (.var 0)))) (.seq (.set (.nm 5) (.bi .min2 (.bi .ix (.var 3) (.lit (.int 1))) (.un .len (.un (.fld 1952807028) (.var 0))))) (.ite (.val (.bi .lt (.var 4) (.var 5))) qRQ .skip)))
def qEJ:CS:=(.ret (.var 2))
def sW:CS:=(.seq (.set (.nm 2) (.call 5 (.cons (.un (.fld 495806672499) (.var 0)) (.cons (.un (.fld 1668246885) (.var 0)) .nil)))) (.seq (.fori (.nm 3) (.of (.var 1)) qRP) qEJ))
def qEG:CS:=(.exp (.me .append (.var 2) (.var 3)))
def sV:CS:=(.seq (.set (.nm 3) (.meth 2036453570056342827636 [(306712044914,13)] (.var 0) .nil)) (.seq (.ite (.val (.un .isN (.var 3))) .brk .skip) qEG))
def sS:CT:=(.val (.bi .lt (.un .len (.var 2)) (.var 1)))
def sU:CS:=(.ret (.var 2))
def cJ:CS:=(.seq (.set (.nm 2) (.lst .nil)) (.seq (.whil sS sV) sU))
def qEI:CS:=(.seq (.setF (.var 0) 1936027252 [306712044914] (.var 2)) (.ret (.tup (.cons (.lit (.str [100,97,116,97])) (.cons (.var 1) (.cons (.sl (.un (.fld 1952807028) (.var 0)) (.at (.var 1)) (.at (.var 2))) .nil))))))
def qEH:CS:=(.seq (.setF (.var 0) 127482042954642681340718708 [306712044914] (.lit (.bl true))) (.ret (.tup (.cons (.lit (.str [101,110,100])) (.cons (.var 1) .nil)))))
def gC:CS:=(.ret (.lit .non))
def cK:CS:=(.seq (.ite (.and (.val (.un (.fld 7598521885552567652) (.var 0))) (.and (.not (.val (.un (.fld 127482042954642681340718708) (.var 0)))) (.val (.bi .eq (.var 1) (.un .len (.un (.fld 1952807028) (.var 0))))))) qEH .skip) gC)
def yT:CS:=(.seq (.set (.nm 1) (.un (.fld 1936027252) (.var 0))) (.seq (.set (.nm 2) (.bi .min2 (.bi .min2 (.bi .add (.var 1) (.un (.fld 1836020596) (.var 0))) (.un (.fld 465625246068) (.var 0))) (.un .len (.un (.fld 1952807028) (.var 0))))) (.seq (.ite (.val (.bi .lt (.var 1) (.var 2))) qEI .skip) cK)))
def cL:CS:=(.ret (.sl (.meth 135859872665656628713974126 [(306712044914,15)] (.var 0) .nil) .no (.at (.var 1))))
def qEF:CS:=(.ret (.lst .nil))
def sR:CS:=(.seq (.ite (.or (.val (.bi .lt (.un (.fld 1936027252) (.var 0)) (.un .len (.un (.fld 1952807028) (.var 0))))) (.not (.val (.un (.fld 7598521898286281316) (.var 0))))) (.ret (.lst (.cons (.tup (.cons (.lit (.str [100,97,116,97])) (.cons (.un (.fld 1936027252) (.var 0)) (.cons (.lit (.str [])) .nil)))) .nil))) .skip) qEF)
def vW:CS:=(.seq (.ite (.and (.val (.un (.fld 127482042954642681340718708) (.var 0))) (.not (.val (.un (.fld 29681726098730597) (.var 0))))) (.ret (.lst (.cons (.tup (.cons (.lit (.str [101,110,100])) (.cons (.un .len (.un (.fld 1952807028) (.var 0))) .nil))) .nil))) .skip) sR)
def cI:CS:=(.seq (.set (.nm 1) (.meth 2279350429444218050288784390251891 [(306712044914,16)] (.var 0) .nil)) (.seq (.ite (.val (.bi .gt (.un .len (.var 1)) (.lit (.int 0)))) (.ret (.var 1)) .skip) vW))
def qEE:CS:=(.exp (.me .append (.var 1) (.tup (.cons (.lit (.str [100,97,116,97])) (.cons (.var 3) (.cons (.sl (.un (.fld 1952807028) (.var 0)) (.at (.var 3)) (.at (.bi .min2 (.bi .add (.var 3) (.un (.fld 1836020596) (.var 0))) (.bi .ix (.var 2) (.lit (.int 1)))))) .nil))))))
def qED:CS:=(.fori (.nm 3) (.rng3 (.bi .ix (.var 2) (.lit (.int 0))) (.bi .ix (.var 2) (.lit (.int 1))) (.un (.fld 1836020596) (.var 0))) qEE)
def sQ:CS:=(.ret (.var 1))
def cH:CS:=(.seq (.set (.nm 1) (.lst .nil)) (.seq (.fori (.nm 2) (.of (.call 6 (.cons (.un (.fld 495806672499) (.var 0)) (.cons (.un (.fld 1668246885) (.var 0)) (.cons (.bi .max2 (.un (.fld 1668246885) (.var 0)) (.un (.fld 1936027252) (.var 0))) .nil))))) qED) sQ))
def rL:CS:=(.seq (.setF (.var 0) 1835626085 [21785059625889383] (.var 1)) (.seq (.setF (.var 0) 521561010803 [21785059625889383] (.lit (.int 0))) (.setF (.var 0) 115944243160436 [21785059625889383] (.lit (.bl false)))))
def rO:CS:=(.seq (.setF (.var 0) 521561010803 [21785059625889383] (.var 2)) (.setF (.var 0) 115944243160436 [21785059625889383] (.lit (.bl false))))
def rN:CS:=(.setF (.var 0) 115944243160436 [21785059625889383] (.lit (.bl true)))
def bY:CS:=(.ret (.tup (.cons (.var 4) (.cons (.var 5) .nil))))
def bX:CS:=(.seq (.set (.nm 5) (.bi .eq (.var 3) (.un (.fld 1835626085) (.var 0)))) (.seq (.ite (.val (.var 5)) rN .skip) bY))
def bW:CS:=(.seq (.set (.nm 4) (.bi .gt (.var 2) (.un (.fld 521561010803) (.var 0)))) (.seq (.ite (.val (.var 4)) rO .skip) bX))
def uY:CS:=(.seq (.set (.nm 2) (.bi .ix (.var 1) (.lit (.int 1)))) (.seq (.set (.nm 3) (.bi .ix (.var 1) (.lit (.int 2)))) (.seq (.ite (.or (.val (.bi .lt (.var 2) (.un (.fld 521561010803) (.var 0)))) (.val (.bi .gt (.var 3) (.un (.fld 1835626085) (.var 0))))) (.ret (.lit .non)) .skip) bW)))
def rM:CS:=(.ret (.tup (.cons (.lit (.str [104,101,108,108,111])) (.cons (.un (.fld 1835626085) (.var 0)) (.cons (.lit (.int 0)) .nil)))))
def rK:CS:=(.ret (.tup (.cons (.lit (.str [104,101,108,108,111])) (.cons (.un (.fld 1835626085) (.var 0)) (.cons (.un (.fld 521561010803) (.var 0)) .nil)))))
def pD:CS:=(.seq (.set (.nm 1) (.un .ord (.var 0))) (.ret (.and (.chain .le .le (.lit (.int 32)) (.var 1) (.lit (.int 126))) (.bi .ne (.var 1) (.lit (.int 37))))))
def pB:CE:=(.call 21 (.cons (.var 1) .nil))
def pC:CS:=(.ret (.and (.un (.isi .str) (.var 0)) (.un .all (.comp pB (.of (.var 0))))))
def qDj:CS:=(.ret (.chain .le .le (.var 1) (.var 0) (.var 2)))
def pG:CS:=(.seq (.ite (.or (.val (.un (.isi .bool) (.var 0))) (.not (.val (.un (.isi .int) (.var 0))))) (.ret (.lit (.bl false))) .skip) qDj)
def bU:CS:=(.set (.nm 1) (.bi .mod (.bi .sub (.bi .add (.bi .mul (.var 1) (.lit (.int 31))) (.un .ord (.var 2))) (.lit (.int 32))) (.lit (.int 9973))))
def qDx:CS:=(.ret (.var 1))
def rD:CS:=(.seq (.set (.nm 1) (.lit (.int 7))) (.seq (.fori (.nm 2) (.of (.var 0)) bU) qDx))
def pW:CS:=(.ret (.un .str (.var 0)))
def pK:CE:=(.bi .isin (.var 1) (.lit (.str [48,49,50,51,52,53,54,55,56,57])))
def pJ:CS:=(.ret (.un .all (.comp pK (.of (.var 0)))))
def qDk:CS:=(.seq (.ite (.and (.val (.bi .eq (.bi .ix (.var 0) (.lit (.int 0))) (.lit (.str [48])))) (.val (.bi .gt (.un .len (.var 0)) (.lit (.int 1))))) (.ret (.lit (.bl false))) .skip) pJ)
def pL:CS:=(.seq (.ite (.or (.not (.val (.un (.isi .str) (.var 0)))) (.not (.val (.chain .le .le (.lit (.int 1)) (.un .len (.var 0)) (.lit (.int 13)))))) (.ret (.lit (.bl false))) .skip) qDk)
def qDW:CS:=(.seq (.set (.nm 1) (.un .int (.var 0))) (.ret (.ite (.val (.bi .le (.var 1) (.lit (.int 1000000000000)))) (.var 1) (.lit .non))))
def bL:CS:=(.seq (.ite (.not (.val (.call 26 (.cons (.var 0) .nil)))) (.ret (.lit .non)) .skip) qDW)
def pH:CS:=(.ret (.call 23 (.cons (.var 0) (.cons (.lit (.int 1)) (.cons (.lit (.int 1000000000)) .nil)))))
def pE:CS:=(.ret (.call 23 (.cons (.var 0) (.cons (.lit (.int 0)) (.cons (.lit (.int 1000000)) .nil)))))
def oJ:CS:=(.ret (.and (.call 28 (.cons (.bi .ix (.var 0) (.lit (.int 1))) .nil)) (.and (.call 28 (.cons (.bi .ix (.var 0) (.lit (.int 2))) .nil)) (.call 23 (.cons (.bi .ix (.var 0) (.lit (.int 3))) (.cons (.lit (.int 0)) (.cons (.lit (.int 999)) .nil)))))))
def pI:CS:=(.ret (.and (.bi .eq (.un .len (.var 0)) (.lit (.int 3))) (.and (.call 28 (.cons (.bi .ix (.var 0) (.lit (.int 1))) .nil)) (.call 23 (.cons (.bi .ix (.var 0) (.lit (.int 2))) (.cons (.lit (.int 0)) (.cons (.lit (.int 1000000000)) .nil)))))))
def qDm:CS:=(.ret (.and (.bi .le (.un .len (.var 2)) (.lit (.int 40))) (.bi .le (.bi .add (.var 1) (.un .len (.var 2))) (.lit (.int 1000000)))))
def qDl:CS:=(.seq (.set (.nm 1) (.bi .ix (.var 0) (.lit (.int 4)))) (.seq (.set (.nm 2) (.bi .ix (.var 0) (.lit (.int 5)))) (.seq (.ite (.or (.not (.val (.call 29 (.cons (.var 1) .nil)))) (.not (.val (.call 22 (.cons (.var 2) .nil))))) (.ret (.lit (.bl false))) .skip) qDm)))
def pN:CS:=(.seq (.ite (.or (.val (.bi .ne (.un .len (.var 0)) (.lit (.int 6)))) (.not (.val (.call 30 (.cons (.var 0) .nil))))) (.ret (.lit (.bl false))) .skip) qDl)
def pM:CS:=(.ret (.and (.bi .eq (.un .len (.var 0)) (.lit (.int 5))) (.and (.call 30 (.cons (.var 0) .nil)) (.call 29 (.cons (.bi .ix (.var 0) (.lit (.int 4))) .nil)))))
def qQX:CS:=(.ret (.and (.call 29 (.cons (.bi .ix (.var 0) (.lit (.int 0))) .nil)) (.and (.call 29 (.cons (.bi .ix (.var 0) (.lit (.int 1))) .nil)) (.chain .lt .lt (.var 1) (.bi .ix (.var 0) (.lit (.int 0))) (.bi .ix (.var 0) (.lit (.int 1)))))))
def qQY:CS:=(.seq (.ite (.or (.not (.val (.un (.isi .tuple) (.var 0)))) (.val (.bi .ne (.un .len (.var 0)) (.lit (.int 2))))) (.ret (.lit (.bl false))) .skip) qQX)
def qQh:CS:=(.set (.nm 1) (.bi .ix (.var 2) (.lit (.int 1))))
def qQg:CS:=(.seq (.ite (.not (.val (.call 34 (.cons (.var 2) (.cons (.var 1) .nil))))) (.ret (.lit (.bl false))) .skip) qQh)
def qD1:CS:=(.ret (.lit (.bl true)))
def qD0:CS:=(.seq (.fori (.nm 2) (.of (.var 0)) qQg) qD1)
def rH:CS:=(.seq (.ite (.or (.not (.val (.un (.isi .tuple) (.var 0)))) (.val (.bi .gt (.un .len (.var 0)) (.lit (.int 8))))) (.ret (.lit (.bl false))) .skip) qD0)
def qDo:CS:=(.ret (.call 35 (.cons (.bi .ix (.var 0) (.lit (.int 6))) (.cons (.bi .ix (.var 0) (.lit (.int 4))) .nil))))
def qDn:CS:=(.seq (.ite (.or (.not (.val (.call 23 (.cons (.bi .ix (.var 0) (.lit (.int 4))) (.cons (.lit (.int 0)) (.cons (.lit (.int 1000001)) .nil)))))) (.not (.val (.call 23 (.cons (.bi .ix (.var 0) (.lit (.int 5))) (.cons (.lit (.int 0)) (.cons (.lit (.int 1000200)) .nil))))))) (.ret (.lit (.bl false))) .skip) qDo)
def pO:CS:=(.seq (.ite (.or (.val (.bi .ne (.un .len (.var 0)) (.lit (.int 7)))) (.not (.val (.call 30 (.cons (.var 0) .nil))))) (.ret (.lit (.bl false))) .skip) qDn)
def qDi:CS:=(.ret (.and (.bi .eq (.var 1) (.lit (.str [97,110,115,119,101,114]))) (.call 36 (.cons (.var 0) .nil))))
def pF:CS:=(.seq (.ite (.val (.bi .eq (.var 1) (.lit (.str [101,110,100])))) (.ret (.call 33 (.cons (.var 0) .nil))) .skip) qDi)
def bR:CS:=(.seq (.ite (.val (.bi .eq (.var 1) (.lit (.str [100,97,116,97])))) (.ret (.call 32 (.cons (.var 0) .nil))) .skip) pF)
def uX:CS:=(.seq (.ite (.val (.bi .eq (.var 1) (.lit (.str [104,101,108,108,111])))) (.ret (.call 31 (.cons (.var 0) .nil))) .skip) bR)
def uW:CS:=(.seq (.set (.nm 1) (.bi .ix (.var 0) (.lit (.int 0)))) (.seq (.ite (.not (.val (.un (.isi .str) (.var 1)))) (.ret (.lit (.bl false))) .skip) uX))
def kY:CS:=(.seq (.ite (.or (.not (.val (.un (.isi .tuple) (.var 0)))) (.val (.bi .eq (.un .len (.var 0)) (.lit (.int 0))))) (.ret (.lit (.bl false))) .skip) uW)
def bK:CE:=(.call 25 (.cons (.var 1) .nil))
def oI:CS:=(.ret (.comp bK (.of (.var 0))))
def oB:CS:=(.seq (.set (.nm 1) (.call 25 (.cons (.un .len (.var 0)) .nil))) (.ret (.bi .add (.bi .add (.var 1) (.lit (.str [58]))) (.var 0))))
def qQR:CE:=(.me .join (.lit (.str [45])) (.call 38 (.cons (.var 1) .nil)))
def qQQ:CS:=(.ret (.me .join (.lit (.str [44])) (.comp qQR (.of (.var 0)))))
def qQS:CS:=(.seq (.ite (.val (.bi .eq (.un .len (.var 0)) (.lit (.int 0)))) (.ret (.lit (.str [45]))) .skip) qQQ)
def qDz:CS:=(.set (.nm 2) (.bi .add (.call 38 (.cons (.sl (.var 0) (.at (.lit (.int 1))) (.at (.lit (.int 5)))) .nil)) (.lst (.cons (.call 39 (.cons (.bi .ix (.var 0) (.lit (.int 5))) .nil)) .nil))))
def qDy:CS:=(.set (.nm 2) (.bi .add (.call 38 (.cons (.sl (.var 0) (.at (.lit (.int 1))) (.at (.lit (.int 6)))) .nil)) (.lst (.cons (.call 40 (.cons (.bi .ix (.var 0) (.lit (.int 6))) .nil)) .nil))))
def rG:CS:=(.set (.nm 2) (.call 38 (.cons (.sl (.var 0) (.at (.lit (.int 1))) .no) .nil)))
def bV:CS:=(.ite (.val (.bi .eq (.var 1) (.lit (.str [97,110,115,119,101,114])))) qDy rG)
def rF:CS:=(.ret (.me .join (.lit (.str [32])) (.bi .add (.lst (.cons (.var 1) .nil)) (.var 2))))
def kZ:CS:=(.seq (.set (.nm 1) (.bi .ix (.var 0) (.lit (.int 0)))) (.seq (.ite (.val (.bi .eq (.var 1) (.lit (.str [100,97,116,97])))) qDz bV) rF))
def qDS:CS:=(.seq (.set (.nm 1) (.call 41 (.cons (.var 0) .nil))) (.seq (.set (.nm 2) (.me .zfill (.call 25 (.cons (.call 24 (.cons (.var 1) .nil)) .nil)) (.lit (.int 4)))) (.ret (.bi .add (.bi .add (.var 1) (.lit (.str [32]))) (.var 2)))))
def nW:CS:=(.seq (.ite (.not (.val (.call 37 (.cons (.var 0) .nil)))) .opq .skip) qDS)
def oG:CE:=(.call 27 (.cons (.var 1) .nil))
def oH:CS:=(.ret (.un .tuple (.comp oG (.of (.var 0)))))
def qQU:CE:=(.call 43 (.cons (.me .split (.var 1) (.lit (.str [45]))) .nil))
def qQT:CS:=(.ret (.un .tuple (.comp qQU (.of (.me .split (.var 0) (.lit (.str [44])))))))
def qQV:CS:=(.seq (.ite (.val (.bi .eq (.var 0) (.lit (.str [45])))) (.ret (.tup .nil)) .skip) qQT)
def qQW:CS:=(.seq .opq .opq)
def qDV:CS:=(.ret (.bi .add (.tup (.cons (.var 2) .nil)) (.call 43 (.cons (.sl (.var 1) (.at (.lit (.int 1))) .no) .nil))))
def oF:CS:=(.seq (.ite (.val (.bi .eq (.var 2) (.lit (.str [97,110,115,119,101,114])))) (.ret (.bi .add (.bi .add (.tup (.cons (.var 2) .nil)) (.call 43 (.cons (.sl (.var 1) (.at (.lit (.int 1))) (.at (.un .neg (.lit (.int 1))))) .nil))) (.tup (.cons (.call 44 (.cons (.bi .ix (.var 1) (.un .neg (.lit (.int 1)))) .nil)) .nil)))) .skip) qDV)
def bJ:CS:=(.seq (.set (.nm 1) (.me .split (.var 0) (.lit (.str [32])))) (.seq (.set (.nm 2) (.bi .ix (.var 1) (.lit (.int 0)))) (.seq (.ite (.val (.bi .eq (.var 2) (.lit (.str [100,97,116,97])))) qQW .skip) oF)))
def qDU:CS:=(.ret (.var 1))
def qDT:CS:=(.seq (.set (.nm 1) (.call 45 (.cons (.bi .ix (.me .rpart (.var 0) (.lit (.str [32]))) (.lit (.int 0))) .nil))) (.seq (.ite (.or (.not (.val (.call 37 (.cons (.var 1) .nil)))) (.val (.bi .ne (.call 42 (.cons (.var 1) .nil)) (.var 0)))) .opq .skip) qDU))
def oE:CS:=(.seq (.ite (.not (.val (.call 22 (.cons (.var 0) .nil)))) .opq .skip) qDT)
def qQ4:CS:=(.seq (.setF (.var 0) 1952807028 [306712044914,358300611685,362411681138] (.lit (.str []))) (.seq (.setF (.var 0) 495806672499 [306712044914,358300611685] (.tup .nil)) (.setF (.var 0) 108187682958948 [358300611685] (.disp [] .nil))))
def qQ2:CS:=.opq
def qQ1:CS:=(.seq (.setF (.var 0) 495806672499 [306712044914,358300611685] (.call 4 (.cons (.un (.fld 495806672499) (.var 0)) (.cons (.var 3) (.cons (.var 4) .nil))))) (.exp (.meth 28273260611201390 [(358300611685,49)] (.var 0) .nil)))
def qQ0:CS:=(.seq (.fori (.nm 5) (.rng2 (.var 3) (.var 4)) qQ2) qQ1)
def qQz:CS:=(.seq (.set (.nm 3) (.bi .max2 (.var 1) (.un .len (.un (.fld 1952807028) (.var 0))))) (.seq (.set (.nm 4) (.bi .add (.var 1) (.un .len (.var 2)))) (.seq (.ite (.val (.bi .ge (.var 3) (.var 4))) .retN .skip) qQ0)))
def qQ3:CS:=(.seq (.ite (.val (.bi .lt (.var 1) (.lit (.int 0)))) .opq .skip) qQz)
def qQ7:CS:=.opq
def qQ6:CS:=(.seq (.setF (.var 0) 1952807028 [306712044914,358300611685,362411681138] (.me .join (.lit (.str [])) (.var 2))) (.setF (.var 0) 495806672499 [306712044914,358300611685] (.sl (.un (.fld 495806672499) (.var 0)) (.at (.lit (.int 1))) .no)))
def qQ5:CS:=(.seq (.set (.nm 2) (.lst (.cons (.un (.fld 1952807028) (.var 0)) .nil))) (.seq (.fori (.nm 3) (.rng2 (.bi .ix (.var 1) (.lit (.int 0))) (.bi .ix (.var 1) (.lit (.int 1)))) qQ7) qQ6))
def qQ8:CS:=(.seq (.set (.nm 1) (.bi .ix (.un (.fld 495806672499) (.var 0)) (.lit (.int 0)))) (.seq (.ite (.val (.bi .ne (.bi .ix (.var 1) (.lit (.int 0))) (.un .len (.un (.fld 1952807028) (.var 0))))) .retN .skip) qQ5))
def qQx:CS:=(.ret (.me .get (.un (.fld 108187682958948) (.var 0)) (.var 1)))
def qQy:CS:=(.seq (.ite (.val (.chain .le .lt (.lit (.int 0)) (.var 1) (.un .len (.un (.fld 1952807028) (.var 0))))) (.ret (.bi .ix (.un (.fld 1952807028) (.var 0)) (.var 1))) .skip) qQx)
def qQr:CS:=(.seq (.setF (.var 0) 1919905645 [362411681138,1215263604] (.var 1)) (.seq (.setF (.var 0) 495739565157 [362411681138] (.make 358300611685 47 .nil)) (.seq (.setF (.var 0) 8390043809167535716 [362411681138] (.lit .non)) (.seq (.setF (.var 0) 1952807028 [306712044914,358300611685,362411681138] (.lit (.str []))) (.seq (.setF (.var 0) 1919246692 [362411681138] (.lit (.int 0))) (.seq (.setF (.var 0) 465625246068 [306712044914,362411681138] (.var 1)) (.setF (.var 0) 29681726098730597 [306712044914,362411681138] (.lit (.bl false)))))))))
def qQq:CS:=(.seq (.set (.nm 3) (.ite (.val (.un .isN (.un (.fld 8390043809167535716) (.var 0)))) (.un (.fld 465625246068) (.var 0)) (.bi .min2 (.un (.fld 465625246068) (.var 0)) (.un (.fld 8390043809167535716) (.var 0))))) (.seq (.exp (.meth 7370100 [(358300611685,48),(362411681138,52)] (.un (.fld 495739565157) (.var 0)) (.cons (.var 1) (.cons (.sl (.var 2) .no (.at (.bi .max2 (.bi .sub (.var 3) (.var 1)) (.lit (.int 0))))) .nil)))) (.setF (.var 0) 1952807028 [306712044914,358300611685,362411681138] (.un (.fld 1952807028) (.un (.fld 495739565157) (.var 0))))))
def qQs:CS:=(.seq (.setF (.var 0) 8390043809167535716 [362411681138] (.var 1)) (.exp (.meth 8315163747390811749 [(362411681138,56)] (.var 0) .nil)))
def qQt:CS:=(.seq (.ite (.or (.val (.un .notN (.un (.fld 8390043809167535716) (.var 0)))) (.val (.bi .lt (.var 1) (.meth 491327153000 [(362411681138,54)] (.var 0) .nil)))) .retN .skip) qQs)
def qQp:CS:=(.seq (.set (.nm 1) (.un (.fld 495806672499) (.un (.fld 495739565157) (.var 0)))) (.ret (.ite (.val (.bi .gt (.un .len (.var 1)) (.lit (.int 0)))) (.bi .ix (.bi .ix (.var 1) (.un .neg (.lit (.int 1)))) (.lit (.int 1))) (.un .len (.un (.fld 1952807028) (.var 0))))))
def qQn:CS:=(.exp (.call 0 (.cons (.lit (.int 0)) .nil)))
def qQo:CS:=(.setF (.var 0) 29681726098730597 [306712044914,362411681138] (.bi .eq (.un (.fld 1919246692) (.var 0)) (.un (.fld 8390043809167535716) (.var 0))))
def qQv:CS:=(.set (.nm 1) (.bi .add (.var 1) (.lit (.int 1))))
def qQu:CS:=(.ret (.tup (.cons (.var 1) (.cons (.un (.fld 465625246068) (.var 0)) (.cons (.sl (.un (.fld 495806672499) (.un (.fld 495739565157) (.var 0))) .no (.at (.lit (.int 8)))) .nil)))))
def qQw:CS:=(.seq (.set (.nm 1) (.un .len (.un (.fld 1952807028) (.var 0)))) (.seq (.ite (.val (.bi .eq (.var 1) (.un (.fld 8390043809167535716) (.var 0)))) qQv .skip) qQu))
def pS:CE:=(.var 3)
def pR:CT:=(.val (.bi .gt (.var 3) (.var 1)))
def pQ:CE:=(.var 3)
def pP:CT:=(.val (.bi .le (.var 3) (.var 1)))
def qDp:CS:=(.seq (.set (.nm 2) (.compIf pS pR (.of (.var 0)))) (.ret (.bi .add (.var 2) (.compIf pQ pP (.of (.var 0))))))
def bT:CS:=(.seq (.ite (.val (.un .isN (.var 1))) (.ret (.un .list (.var 0))) .skip) qDp)
def qDt:CS:=(.ret (.bi .ix (.var 0) (.var 1)))
def qDs:CS:=(.seq (.ite (.val (.un .isN (.bi .ix (.var 0) (.var 1)))) .opq .skip) qDt)
def pV:CS:=(.seq (.ite (.val (.bi .notin (.var 1) (.var 0))) .opq .skip) qDs)
def nZ:CE:=(.var 1)
def nY:CT:=(.val (.un .notN (.bi .ix (.var 0) (.var 1))))
def oA:CS:=(.ret (.un .sorted (.compD nZ nY (.var 0))))
def qQi:CS:=(.setIx (.var 1) (.var 2) (.lit .non))
def qD2:CS:=(.ret (.var 1))
def rJ:CS:=(.seq (.set (.nm 1) (.disp [] .nil)) (.seq (.forD 2 (.var 0) qQi) qD2))
def sD:CS:=(.seq (.setF (.var 0) 1919905645 [362411681138,1215263604] (.var 1)) (.seq (.setF (.var 0) 1836020596 [306712044914,1215263604] (.bi .min2 (.var 2) (.lit (.int 40)))) (.seq (.setF (.var 0) 108256335193460 [1215263604] (.var 3)) (.seq (.setF (.var 0) 1818846821 [1215263604] (.lit (.int 1))) (.exp (.meth 464662488081084476647013 [(1215263604,63)] (.var 0) .nil))))))
def sN:CS:=(.seq (.setF (.var 0) 30792258880630375 [1215263604] (.make 21785059625889383 17 (.cons (.un (.fld 1818846821) (.var 0)) .nil))) (.seq (.setF (.var 0) 113702655586931 [1215263604] (.disp [] .nil)) (.seq (.setF (.var 0) 127961762460275 [1215263604] (.disp [] .nil)) (.setF (.var 0) 2128684475675056370548 [1215263604] (.lit .non)))))
def qD6:CS:=(.seq (.setIx (.un (.fld 113702655586931) (.var 0)) (.var 1) (.make 306712044914 7 (.cons (.un (.fld 1836020596) (.var 0)) .nil))) (.ret (.var 1)))
def qD5:CS:=(.seq (.set (.nm 1) (.un .len (.un (.fld 113702655586931) (.var 0)))) (.seq (.ite (.val (.bi .eq (.var 1) (.lit (.int 50)))) .opq .skip) qD6))
def rW:CS:=(.seq (.ite (.val (.bi .eq (.un (.fld 521561010803) (.un (.fld 30792258880630375) (.var 0))) (.lit (.int 0)))) .opq .skip) qD5)
def sK:CS:=(.ret (.call 59 (.cons (.un (.fld 113702655586931) (.var 0)) (.cons (.var 1) .nil))))
def qRC:CS:=(.ret (.call 59 (.cons (.un (.fld 127961762460275) (.var 0)) (.cons (.var 1) .nil))))
def rP:CS:=(.exp (.meth 513020621925 [(306712044914,8),(1215263604,67)] (.meth 444150998386 [(1215263604,65)] (.var 0) (.cons (.var 1) .nil)) (.cons (.var 2) .nil)))
def sL:CS:=(.exp (.meth 112603010003816 [(306712044914,9),(1215263604,68)] (.meth 444150998386 [(1215263604,65)] (.var 0) (.cons (.var 1) .nil)) .nil))
def qRD:CS:=(.exp (.call 0 (.cons (.lit (.int 1)) .nil)))
def rV:CS:=(.ret (.call 60 (.cons (.un (.fld 113702655586931) (.var 0)) .nil)))
def qRJ:CS:=(.exp (.call 0 (.cons (.lit (.int 2)) .nil)))
def qRN:CE:=(.var 1)
def qRM:CT:=(.val (.un .isN (.bi .ix (.un (.fld 113702655586931) (.var 0)) (.var 1))))
def qRO:CS:=(.ret (.un .sorted (.compD qRN qRM (.un (.fld 113702655586931) (.var 0)))))
def qRL:CS:=(.exp (.call 0 (.cons (.lit (.int 3)) .nil)))
def qD3:CS:=(.exp (.me .append (.var 1) (.meth 448378203247 [(21785059625889383,19)] (.un (.fld 30792258880630375) (.var 0)) .nil)))
def rR:CE:=(.call 42 (.cons (.var 2) .nil))
def rQ:CS:=(.seq (.exp (.me .extend (.var 1) (.meth 583674933970360372264291001892499059 [(1215263604,75)] (.var 0) .nil))) (.ret (.comp rR (.of (.var 1)))))
def bZ:CS:=(.seq (.set (.nm 1) (.lst .nil)) (.seq (.ite (.not (.val (.un (.fld 115944243160436) (.un (.fld 30792258880630375) (.var 0))))) qD3 .skip) rQ))
def rZ:CE:=(.var 5)
def rY:CT:=(.not (.val (.un (.fld 29681726098730597) (.bi .ix (.un (.fld 113702655586931) (.var 0)) (.var 5)))))
def qD8:CS:=(.seq (.exp (.me .append (.var 1) (.meth 8100116882379468646 [(1215263604,77)] (.var 0) (.cons (.var 3) (.cons (.var 4) .nil))))) (.setF (.var 0) 2128684475675056370548 [1215263604] (.var 3)))
def rX:CS:=(.seq (.set (.nm 4) (.meth 34780127400972871403634519652 [(1215263604,76)] (.var 0) (.cons (.var 3) .nil))) (.ite (.val (.un .notN (.var 4))) qD8 .skip))
def uZ:CS:=(.seq (.ite (.val (.bi .ge (.un .len (.var 1)) (.un (.fld 108256335193460) (.var 0)))) .brk .skip) rX)
def qD7:CS:=(.ret (.var 1))
def sA:CS:=(.seq (.set (.nm 1) (.lst .nil)) (.seq (.set (.nm 2) (.compIf rZ rY (.of (.meth 32497656997703027 [(1215263604,70)] (.var 0) .nil)))) (.seq (.fori (.nm 3) (.of (.call 58 (.cons (.var 2) (.cons (.un (.fld 2128684475675056370548) (.var 0)) .nil)))) uZ) qD7)))
def sC:CS:=(.set (.nm 3) (.meth 418346264942 [(306712044914,14)] (.var 2) (.cons (.lit (.int 1)) .nil)))
def cB:CS:=(.ret (.ite (.val (.bi .gt (.un .len (.var 3)) (.lit (.int 0)))) (.bi .ix (.var 3) (.lit (.int 0))) (.lit .non)))
def gA:CS:=(.seq (.set (.nm 2) (.bi .ix (.un (.fld 113702655586931) (.var 0)) (.var 1))) (.seq (.set (.nm 3) (.meth 521332113934423763874931 [(306712044914,12)] (.var 2) (.cons (.lit (.int 1)) .nil))) (.seq (.ite (.val (.bi .eq (.un .len (.var 3)) (.lit (.int 0)))) sC .skip) cB)))
def sB:CS:=(.ret (.bi .add (.bi .add (.sl (.var 2) .no (.at (.lit (.int 1)))) (.tup (.cons (.un (.fld 1835626085) (.un (.fld 30792258880630375) (.var 0))) (.cons (.un (.fld 521561010803) (.un (.fld 30792258880630375) (.var 0))) (.cons (.var 1) .nil))))) (.sl (.var 2) (.at (.lit (.int 1))) .no)))
def cG:CS:=(.set (.nm 2) (.call 46 (.cons (.var 1) .nil)))
def qRK:CS:=(.ret (.lst .nil))
def sJ:CS:=(.exp (.meth 7799763779075547922881686105459 [(1215263604,79)] (.var 0) .nil))
def sI:CS:=(.exp (.me .append (.var 6) (.meth 491328138361 [(21785059625889383,20)] (.un (.fld 30792258880630375) (.var 0)) .nil)))
def sG:CS:=(.exp (.me .extend (.var 6) (.meth 8386102064528189806 [(1215263604,80)] (.var 0) (.cons (.var 2) .nil))))
def sF:CE:=(.call 42 (.cons (.var 7) .nil))
def sE:CS:=(.ret (.comp sF (.of (.var 6))))
def cD:CS:=(.seq (.ite (.val (.var 5)) sG .skip) sE)
def cC:CS:=(.seq (.set (.nm 6) (.lst .nil)) (.seq (.ite (.or (.val (.var 4)) (.not (.val (.var 5)))) sI .skip) cD))
def cF:CS:=(.seq (.set (.nm 4) (.bi .ix (.var 3) (.lit (.int 0)))) (.seq (.set (.nm 5) (.bi .ix (.var 3) (.lit (.int 1)))) (.seq (.ite (.val (.var 4)) sJ .skip) cC)))
def cE:CS:=(.seq (.set (.nm 3) (.meth 448377483876 [(21785059625889383,18)] (.un (.fld 30792258880630375) (.var 0)) (.cons (.var 2) .nil))) (.seq (.ite (.val (.un .isN (.var 3))) (.ret (.lst .nil)) .skip) cF))
def gB:CS:=(.seq (.tryx cG (.cons [91742370622580] qRK .nil)) cE)
def sM:CS:=(.seq (.setF (.var 0) 113702655586931 [1215263604] (.call 61 (.cons (.un (.fld 113702655586931) (.var 0)) .nil))) (.setF (.var 0) 127961762460275 [1215263604] (.call 61 (.cons (.un (.fld 127961762460275) (.var 0)) .nil))))
def qD4:CS:=(.exp (.meth 117787394794711584694431077 [(1215263604,83)] (.var 0) (.cons (.var 1) .nil)))
def rT:CS:=(.ret (.lst .nil))
def rS:CS:=(.seq (.ite (.val (.bi .eq (.var 2) (.lit (.str [97,110,115,119,101,114])))) qD4 .skip) rT)
def cA:CS:=(.seq (.set (.nm 2) (.bi .ix (.var 1) (.lit (.int 0)))) (.seq (.ite (.or (.val (.bi .eq (.var 2) (.lit (.str [100,97,116,97])))) (.val (.bi .eq (.var 2) (.lit (.str [101,110,100]))))) (.ret (.meth 2073057138977531850085 [(1215263604,81)] (.var 0) (.cons (.var 1) .nil))) .skip) rS))
def qRH:CS:=(.exp (.meth 7370100 [(358300611685,48),(362411681138,52)] (.var 3) (.cons (.bi .ix (.var 1) (.lit (.int 4))) (.cons (.bi .ix (.var 1) (.lit (.int 5))) .nil))))
def qRG:CS:=(.exp (.meth 1701733491 [(362411681138,53)] (.var 3) (.cons (.bi .ix (.var 1) (.lit (.int 4))) .nil)))
def qRF:CS:=(.ret (.lst (.cons (.meth 8100116882379468646 [(1215263604,77)] (.var 0) (.cons (.var 2) (.cons (.bi .add (.tup (.cons (.lit (.str [97,110,115,119,101,114])) .nil)) (.meth 107127011501426 [(362411681138,57)] (.var 3) .nil)) .nil))) .nil)))
def qRE:CS:=(.seq (.set (.nm 3) (.meth 549591584905317559919717 [(1215263604,82)] (.var 0) (.cons (.var 2) .nil))) (.seq (.ite (.val (.bi .eq (.bi .ix (.var 1) (.lit (.int 0))) (.lit (.str [100,97,116,97])))) qRH qRG) qRF))
def qRI:CS:=(.seq (.set (.nm 2) (.bi .ix (.var 1) (.lit (.int 3)))) (.seq (.ite (.val (.bi .ge (.var 2) (.lit (.int 50)))) (.ret (.lst .nil)) .skip) qRE))
def qRA:CS:=(.setIx (.un (.fld 127961762460275) (.var 0)) (.var 1) (.make 362411681138 51 (.cons (.un (.fld 1919905645) (.var 0)) .nil)))
def qQ9:CS:=(.ret (.bi .ix (.un (.fld 127961762460275) (.var 0)) (.var 1)))
def qRB:CS:=(.seq (.ite (.val (.un .isN (.me .get (.un (.fld 127961762460275) (.var 0)) (.var 1)))) qRA .skip) qQ9)
def qD9:CS:=(.exp (.meth 7020675825757480292 [(306712044914,10)] (.var 2) (.cons (.bi .ix (.var 1) (.lit (.int 4))) (.cons (.bi .ix (.var 1) (.lit (.int 5))) (.cons (.bi .ix (.var 1) (.lit (.int 6))) .nil)))))
def sO:CS:=(.seq (.set (.nm 2) (.me .get (.un (.fld 113702655586931) (.var 0)) (.bi .ix (.var 1) (.lit (.int 3))))) (.ite (.val (.un .notN (.var 2))) qD9 .skip))
def qDg:CS:=(.ret (.lit (.int 0)))
def oR:CS:=(.seq (.ite (.val (.bi .lt (.var 1) (.un .len (.var 0)))) (.ret (.bi .ix (.var 0) (.var 1))) .skip) qDg)
def oN:CE:=(.bi .ix (.var 2) (.bi .mod (.bi .add (.bi .add (.var 0) (.bi .mul (.lit (.int 7)) (.var 3))) (.bi .fdiv (.bi .mul (.var 3) (.var 3)) (.lit (.int 3)))) (.lit (.int 94))))
def oO:CS:=(.seq (.set (.nm 2) (.lit (.str [32,33,34,35,36,38,39,40,41,42,43,44,45,46,47,48,49,50,51,52,53,54,55,56,57,58,59,60,61,62,63,64,65,66,67,68,69,70,71,72,73,74,75,76,77,78,79,80,81,82,83,84,85,86,87,88,89,90,91,92,93,94,95,96]))) (.seq (.set (.nm 2) (.bi .add (.var 2) (.lit (.str [97,98,99,100,101,102,103,104,105,106,107,108,109,110,111,112,113,114,115,116,117,118,119,120,121,122,123,124,125,126])))) (.ret (.me .join (.lit (.str [])) (.comp oN (.rng1 (.var 1)))))))
def qDc:CS:=(.ret (.tup (.cons (.lit (.str [100,97,116,97])) (.cons (.lit (.int 0)) (.cons (.lit (.str [])) .nil)))))
def oP:CS:=(.seq (.ite (.val (.var 1)) (.ret (.tup (.cons (.lit (.str [101,110,100])) (.cons (.lit (.int 0)) .nil)))) .skip) qDc)
def uU:CS:=(.seq (.ite (.val (.bi .ne (.var 0) (.lit (.str [])))) (.ret (.tup (.cons (.lit (.str [100,97,116,97])) (.cons (.lit (.int 0)) (.cons (.sl (.var 0) .no (.at (.lit (.int 1)))) .nil))))) .skip) oP)
def qDf:CS:=(.exp (.me .append (.var 4) (.call 42 (.cons (.tup (.cons (.lit (.str [104,101,108,108,111])) (.cons (.lit (.int 1)) (.cons (.lit (.int 0)) .nil)))) .nil))))
def qDe:CS:=(.seq (.exp (.me .append (.var 4) (.call 42 (.cons (.bi .add (.tup (.cons (.bi .ix (.bi .ix (.var 0) (.var 8)) (.lit (.int 0))) (.cons (.lit (.int 1)) (.cons (.lit (.int 3)) (.cons (.var 8) .nil))))) (.sl (.bi .ix (.var 0) (.var 8)) (.at (.lit (.int 1))) .no)) .nil)))) (.seq (.set (.nm 5) (.bi .sub (.var 5) (.lit (.int 1)))) (.set (.nm 6) (.var 8))))
def yR:CS:=(.seq (.set (.nm 8) (.bi .mod (.bi .add (.bi .add (.var 1) (.lit (.int 1))) (.var 7)) (.un .len (.var 0)))) (.ite (.and (.val (.bi .gt (.var 5) (.lit (.int 0)))) (.val (.un .notN (.bi .ix (.var 0) (.var 8))))) qDe .skip))
def qDd:CS:=(.ret (.tup (.cons (.var 4) (.cons (.var 6) .nil))))
def oQ:CS:=(.seq (.set (.nm 5) (.var 2)) (.seq (.set (.nm 6) (.var 1)) (.seq (.fori (.nm 7) (.rng1 (.un .len (.var 0))) yR) qDd)))
def bO:CS:=(.seq (.set (.nm 4) (.lst .nil)) (.seq (.ite (.not (.val (.var 3))) qDf .skip) oQ))
def qDb:CS:=(.set (.nm 7) (.sl (.var 7) .no (.at (.lit (.int 1)))))
def qDZ:CS:=(.exp (.meth 513020621925 [(306712044914,8),(1215263604,67)] (.var 0) (.cons (.var 5) (.cons (.var 7) .nil))))
def qDY:CS:=(.exp (.meth 112603010003816 [(306712044914,9),(1215263604,68)] (.var 0) (.cons (.var 5) .nil)))
def qDX:CS:=(.exp (.me .append (.var 4) (.var 5)))
def oK:CS:=(.exp (.me .append (.var 3) (.call 86 (.cons (.var 7) (.cons (.var 8) .nil)))))
def bN:CS:=(.seq (.ite (.val (.bi .eq (.un .len (.var 7)) (.lit (.int 1)))) qDX .skip) oK)
def uT:CS:=(.seq (.set (.nm 8) (.and (.bi .eq (.bi .mod (.bi .fdiv (.var 6) (.lit (.int 3))) (.lit (.int 2))) (.lit (.int 1))) (.bi .ne (.un .len (.var 7)) (.lit (.int 1))))) (.seq (.ite (.val (.var 8)) qDY .skip) bN))
def bM:CS:=(.seq (.exp (.meth 495873782388 [(1215263604,64)] (.var 0) .nil)) (.seq (.ite (.val (.bi .ne (.var 7) (.lit (.str [])))) qDZ .skip) uT))
def uS:CS:=(.seq (.set (.nm 6) (.call 84 (.cons (.var 1) (.cons (.bi .add (.lit (.int 2)) (.bi .mod (.var 5) (.lit (.int 20)))) .nil)))) (.seq (.set (.nm 7) (.call 85 (.cons (.bi .add (.bi .fdiv (.var 6) (.lit (.int 6))) (.var 5)) (.cons (.bi .mul (.bi .mod (.var 6) (.lit (.int 3))) (.bi .add (.lit (.int 2)) (.bi .mod (.bi .fdiv (.var 6) (.lit (.int 6))) (.lit (.int 60))))) .nil)))) (.seq (.ite (.val (.bi .eq (.bi .mod (.var 6) (.lit (.int 7))) (.lit (.int 3)))) qDb .skip) bM)))
def qDa:CS:=(.ret (.tup (.cons (.var 3) (.cons (.var 4) .nil))))
def oM:CS:=(.seq (.set (.nm 3) (.lst .nil)) (.seq (.set (.nm 4) (.lst .nil)) (.seq (.fori (.nm 5) (.rng1 (.var 2)) uS) qDa)))
def oZ:CS:=(.set (.nm 6) (.lit (.int 50)))
def oY:CS:=(.seq (.exp (.meth 1751474546 [(1215263604,78)] (.var 3) (.cons (.call 42 (.cons (.tup (.cons (.lit (.str [97,110,115,119,101,114])) (.cons (.lit (.int 3)) (.cons (.lit (.int 1)) (.cons (.var 14) (.cons (.un .int (.bi .eq (.un (.fld 1936027252) (.meth 444150998386 [(1215263604,65)] (.var 3) (.cons (.var 14) .nil))) (.lit (.int 1)))) (.cons (.lit (.int 1)) (.cons (.tup .nil) .nil)))))))) .nil)) .nil))) (.seq (.setIx (.var 8) (.var 14) (.ite (.val (.bi .eq (.un (.fld 1936027252) (.meth 444150998386 [(1215263604,65)] (.var 3) (.cons (.var 14) .nil))) (.lit (.int 1)))) (.lit .non) (.bi .ix (.var 8) (.var 14)))) (.set (.nm 5) (.lit (.bl true)))))
def yS:CS:=(.ite (.val (.bi .gt (.var 11) (.bi .mod (.var 14) (.lit (.int 4))))) oY .skip)
def qDh:CS:=(.seq (.exp (.me .append (.var 10) (.tup (.cons (.var 13) (.cons (.bi .ix (.var 12) (.lit (.int 0))) .nil))))) (.seq (.set (.nm 9) (.bi .ix (.var 12) (.lit (.int 1)))) (.fori (.nm 14) (.of (.bi .ix (.var 7) (.lit (.int 1)))) yS)))
def bP:CS:=(.seq (.set (.nm 12) (.call 87 (.cons (.var 8) (.cons (.var 9) (.cons (.var 2) (.cons (.var 5) .nil)))))) (.seq (.set (.nm 13) (.meth 1953063787 [(1215263604,74)] (.var 3) .nil)) (.seq (.ite (.or (.not (.val (.un (.isi .list) (.var 13)))) (.val (.bi .ne (.var 13) (.bi .ix (.var 12) (.lit (.int 0)))))) (.ret (.lit (.bl false))) .skip) qDh)))
def oW:CE:=(.bi .eq (.bi .ix (.var 15) (.lit (.int 0))) (.bi .ix (.var 15) (.lit (.int 1))))
def oV:CE:=(.var 15)
def oU:CS:=(.ret (.and (.bi .eq (.meth 32497656997703027 [(1215263604,70)] (.var 3) .nil) (.comp oV (.rng1 (.var 6)))) (.un .all (.comp oW (.of (.var 10))))))
def uV:CS:=(.seq (.set (.nm 7) (.call 88 (.cons (.var 3) (.cons (.var 0) (.cons (.var 6) .nil))))) (.seq (.set (.nm 8) (.bi .ix (.var 7) (.lit (.int 0)))) (.seq (.set (.nm 9) (.bi .sub (.var 6) (.lit (.int 1)))) (.seq (.set (.nm 10) (.lst .nil)) (.seq (.fori (.nm 11) (.rng1 (.bi .add (.lit (.int 1)) (.bi .mod (.call 84 (.cons (.var 0) (.cons (.lit (.int 22)) .nil))) (.lit (.int 12))))) bP) oU)))))
def bQ:CS:=(.seq (.set (.nm 5) (.bi .eq (.bi .mod (.bi .fdiv (.var 1) (.lit (.int 800))) (.lit (.int 2))) (.lit (.int 1)))) (.seq (.exp (.meth 1751474546 [(1215263604,78)] (.var 3) (.cons (.call 42 (.cons (.tup (.cons (.lit (.str [104,101,108,108,111])) (.cons (.lit (.int 3)) (.cons (.un .int (.var 5)) .nil)))) .nil)) .nil))) (.seq (.set (.nm 6) (.bi .add (.lit (.int 1)) (.bi .mod (.call 84 (.cons (.var 0) (.cons (.lit (.int 1)) .nil))) (.lit (.int 8))))) (.seq (.ite (.val (.bi .eq (.bi .mod (.bi .fdiv (.call 84 (.cons (.var 0) (.cons (.lit (.int 1)) .nil))) (.lit (.int 8))) (.lit (.int 5))) (.lit (.int 2)))) oZ .skip) uV))))
def pA:CS:=(.seq (.set (.nm 1) (.call 84 (.cons (.var 0) (.cons (.lit (.int 0)) .nil)))) (.seq (.set (.nm 2) (.bi .add (.lit (.int 1)) (.bi .mod (.bi .fdiv (.var 1) (.lit (.int 40))) (.lit (.int 20))))) (.seq (.set (.nm 3) (.make 1215263604 62 (.cons (.lit (.int 9)) (.cons (.bi .add (.lit (.int 1)) (.bi .mod (.var 1) (.lit (.int 40)))) (.cons (.var 2) .nil))))) (.seq (.set (.nm 4) (.meth 1953063787 [(1215263604,74)] (.var 3) .nil)) (.seq (.ite (.or (.not (.val (.un (.isi .list) (.var 4)))) (.val (.bi .ne (.var 4) (.lst (.cons (.call 42 (.cons (.tup (.cons (.lit (.str [104,101,108,108,111])) (.cons (.lit (.int 1)) (.cons (.lit (.int 0)) .nil)))) .nil)) .nil))))) (.ret (.lit (.bl false))) .skip) bQ)))))
def fns:List Fn:=[⟨1,1,qQP⟩,
 ⟨3,6,pZ⟩,
 ⟨1,1,rE⟩,
 ⟨2,2,rA⟩,
 ⟨3,5,qQm⟩,
 ⟨2,3,pY⟩,
 ⟨3,6,pU⟩,
 ⟨2,2,sY⟩,
 ⟨2,2,sP⟩,
 ⟨1,1,sZ⟩,
 ⟨4,5,tE⟩,
 ⟨2,6,sW⟩,
 ⟨2,4,cJ⟩,
 ⟨1,3,yT⟩,
 ⟨2,2,cL⟩,
 ⟨1,2,cI⟩,
 ⟨1,4,cH⟩,
 ⟨2,2,rL⟩,
 ⟨2,6,uY⟩,
 ⟨1,1,rM⟩,
 ⟨1,1,rK⟩,
 ⟨1,2,pD⟩,
 ⟨1,1,pC⟩,
 ⟨3,3,pG⟩,
 ⟨1,3,rD⟩,
 ⟨1,1,pW⟩,
 ⟨1,1,pL⟩,
 ⟨1,2,bL⟩,
 ⟨1,1,pH⟩,
 ⟨1,1,pE⟩,
 ⟨1,1,oJ⟩,
 ⟨1,1,pI⟩,
 ⟨1,3,pN⟩,
 ⟨1,1,pM⟩,
 ⟨2,2,qQY⟩,
 ⟨2,3,rH⟩,
 ⟨1,1,pO⟩,
 ⟨1,2,kY⟩,
 ⟨1,1,oI⟩,
 ⟨1,2,oB⟩,
 ⟨1,1,qQS⟩,
 ⟨1,3,kZ⟩,
 ⟨1,3,nW⟩,
 ⟨1,1,oH⟩,
 ⟨1,1,qQV⟩,
 ⟨1,3,bJ⟩,
 ⟨1,2,oE⟩,
 ⟨1,1,qQ4⟩,
 ⟨3,6,qQ3⟩,
 ⟨1,4,qQ8⟩,
 ⟨2,2,qQy⟩,
 ⟨2,2,qQr⟩,
 ⟨3,4,qQq⟩,
 ⟨2,2,qQt⟩,
 ⟨1,2,qQp⟩,
 ⟨2,2,qQn⟩,
 ⟨1,1,qQo⟩,
 ⟨1,2,qQw⟩,
 ⟨2,3,bT⟩,
 ⟨2,2,pV⟩,
 ⟨1,1,oA⟩,
 ⟨1,3,rJ⟩,
 ⟨4,4,sD⟩,
 ⟨1,1,sN⟩,
 ⟨1,2,rW⟩,
 ⟨2,2,sK⟩,
 ⟨2,2,qRC⟩,
 ⟨3,3,rP⟩,
 ⟨2,2,sL⟩,
 ⟨3,3,qRD⟩,
 ⟨1,1,rV⟩,
 ⟨1,1,qRJ⟩,
 ⟨1,1,qRO⟩,
 ⟨1,1,qRL⟩,
 ⟨1,2,bZ⟩,
 ⟨1,5,sA⟩,
 ⟨2,4,gA⟩,
 ⟨3,3,sB⟩,
 ⟨2,7,gB⟩,
 ⟨1,1,sM⟩,
 ⟨2,3,cA⟩,
 ⟨2,4,qRI⟩,
 ⟨2,2,qRB⟩,
 ⟨2,3,sO⟩,
 ⟨2,2,oR⟩,
 ⟨2,3,oO⟩,
 ⟨2,2,uU⟩,
 ⟨4,9,bO⟩,
 ⟨3,9,oM⟩,
 ⟨1,15,pA⟩]
section
variable (B n:Nat)(a0 a1 a2 a3:D)(h:AH)
abbrev qLC:Nat:=1
theorem qOS:qA fns B (n+1) 1 [a0,a1,a2] h=fin (qB (qA fns B n) B pZ [some a0,some a1,some a2,none,none,none] h):=rfl
abbrev qLF:Nat:=2
theorem qOV:qA fns B (n+1) 2 [a0] h=fin (qB (qA fns B n) B rE [some a0] h):=rfl
abbrev qLD:Nat:=3
theorem qOT:qA fns B (n+1) 3 [a0,a1] h=fin (qB (qA fns B n) B rA [some a0,some a1] h):=rfl
abbrev qLB:Nat:=5
theorem qOR:qA fns B (n+1) 5 [a0,a1] h=fin (qB (qA fns B n) B pY [some a0,some a1,none] h):=rfl
abbrev qLA:Nat:=6
theorem qOO:qA fns B (n+1) 6 [a0,a1,a2] h=fin (qB (qA fns B n) B pU [some a0,some a1,some a2,none,none,none] h):=rfl
abbrev qLa:Nat:=7
theorem qOr:qA fns B (n+1) 7 [a0,a1] h=fin (qB (qA fns B n) B sY [some a0,some a1] h):=rfl
abbrev qLY:Nat:=8
theorem qOp:qA fns B (n+1) 8 [a0,a1] h=fin (qB (qA fns B n) B sP [some a0,some a1] h):=rfl
abbrev qLb:Nat:=9
theorem qOs:qA fns B (n+1) 9 [a0] h=fin (qB (qA fns B n) B sZ [some a0] h):=rfl
abbrev qLc:Nat:=10
theorem qOt:qA fns B (n+1) 10 [a0,a1,a2,a3] h=fin (qB (qA fns B n) B tE [some a0,some a1,some a2,some a3,none] h):=rfl
abbrev qLZ:Nat:=11
theorem qOq:qA fns B (n+1) 11 [a0,a1] h=fin (qB (qA fns B n) B sW [some a0,some a1,none,none,none,none] h):=rfl
abbrev aM:Nat:=12
theorem qDC:qA fns B (n+1) 12 [a0,a1] h=fin (qB (qA fns B n) B cJ [some a0,some a1,none,none] h):=rfl
abbrev yK:Nat:=13
theorem bH:qA fns B (n+1) 13 [a0] h=fin (qB (qA fns B n) B yT [some a0,none,none] h):=rfl
abbrev fV:Nat:=14
theorem qDD:qA fns B (n+1) 14 [a0,a1] h=fin (qB (qA fns B n) B cL [some a0,some a1] h):=rfl
theorem qDB:qA fns B (n+1) 15 [a0] h=fin (qB (qA fns B n) B cI [some a0,none] h):=rfl
abbrev qCS:Nat:=16
theorem qDA:qA fns B (n+1) 16 [a0] h=fin (qB (qA fns B n) B cH [some a0,none,none,none] h):=rfl
abbrev qLJ:Nat:=17
theorem qOa:qA fns B (n+1) 17 [a0,a1] h=fin (qB (qA fns B n) B rL [some a0,some a1] h):=rfl
abbrev qCQ:Nat:=18
theorem qC7:qA fns B (n+1) 18 [a0,a1] h=fin (qB (qA fns B n) B uY [some a0,some a1,none,none,none,none] h):=rfl
abbrev qLK:Nat:=19
theorem qOb:qA fns B (n+1) 19 [a0] h=fin (qB (qA fns B n) B rM [some a0] h):=rfl
abbrev qLI:Nat:=20
theorem qOZ:qA fns B (n+1) 20 [a0] h=fin (qB (qA fns B n) B rK [some a0] h):=rfl
abbrev qK3:Nat:=21
theorem qOD:qA fns B (n+1) 21 [a0] h=fin (qB (qA fns B n) B pD [some a0,none] h):=rfl
abbrev qK2:Nat:=22
theorem qOC:qA fns B (n+1) 22 [a0] h=fin (qB (qA fns B n) B pC [some a0] h):=rfl
abbrev qK6:Nat:=23
theorem qOG:qA fns B (n+1) 23 [a0,a1,a2] h=fin (qB (qA fns B n) B pG [some a0,some a1,some a2] h):=rfl
abbrev qLE:Nat:=24
theorem qOU:qA fns B (n+1) 24 [a0] h=fin (qB (qA fns B n) B rD [some a0,none,none] h):=rfl
abbrev qCP:Nat:=25
theorem qOQ:qA fns B (n+1) 25 [a0] h=fin (qB (qA fns B n) B pW [some a0] h):=rfl
abbrev qK8:Nat:=26
theorem qOJ:qA fns B (n+1) 26 [a0] h=fin (qB (qA fns B n) B pL [some a0] h):=rfl
abbrev qKu:Nat:=27
theorem qN4:qA fns B (n+1) 27 [a0] h=fin (qB (qA fns B n) B bL [some a0,none] h):=rfl
abbrev qK7:Nat:=28
theorem qOH:qA fns B (n+1) 28 [a0] h=fin (qB (qA fns B n) B pH [some a0] h):=rfl
abbrev qK4:Nat:=29
theorem qOE:qA fns B (n+1) 29 [a0] h=fin (qB (qA fns B n) B pE [some a0] h):=rfl
abbrev qKv:Nat:=30
theorem qN5:qA fns B (n+1) 30 [a0] h=fin (qB (qA fns B n) B oJ [some a0] h):=rfl
theorem qOI:qA fns B (n+1) 31 [a0] h=fin (qB (qA fns B n) B pI [some a0] h):=rfl
theorem qOL:qA fns B (n+1) 32 [a0] h=fin (qB (qA fns B n) B pN [some a0,none,none] h):=rfl
theorem qOK:qA fns B (n+1) 33 [a0] h=fin (qB (qA fns B n) B pM [some a0] h):=rfl
theorem qOX:qA fns B (n+1) 35 [a0,a1] h=fin (qB (qA fns B n) B rH [some a0,some a1,none] h):=rfl
theorem qOM:qA fns B (n+1) 36 [a0] h=fin (qB (qA fns B n) B pO [some a0] h):=rfl
abbrev qK5:Nat:=37
theorem qOF:qA fns B (n+1) 37 [a0] h=fin (qB (qA fns B n) B kY [some a0,none] h):=rfl
abbrev qKt:Nat:=38
theorem qN3:qA fns B (n+1) 38 [a0] h=fin (qB (qA fns B n) B oI [some a0] h):=rfl
abbrev qKq:Nat:=39
theorem qNz:qA fns B (n+1) 39 [a0] h=fin (qB (qA fns B n) B oB [some a0,none] h):=rfl
abbrev qLG:Nat:=41
theorem qOW:qA fns B (n+1) 41 [a0] h=fin (qB (qA fns B n) B kZ [some a0,none,none] h):=rfl
abbrev qCN:Nat:=42
theorem qNx:qA fns B (n+1) 42 [a0] h=fin (qB (qA fns B n) B nW [some a0,none,none] h):=rfl
abbrev qKs:Nat:=43
theorem qN2:qA fns B (n+1) 43 [a0] h=fin (qB (qA fns B n) B oH [some a0] h):=rfl
abbrev qKr:Nat:=45
theorem qN1:qA fns B (n+1) 45 [a0] h=fin (qB (qA fns B n) B bJ [some a0,none,none] h):=rfl
abbrev qCO:Nat:=46
theorem qN0:qA fns B (n+1) 46 [a0] h=fin (qB (qA fns B n) B oE [some a0,none] h):=rfl
abbrev qK9:Nat:=58
theorem qON:qA fns B (n+1) 58 [a0,a1] h=fin (qB (qA fns B n) B bT [some a0,some a1,none] h):=rfl
theorem qOP:qA fns B (n+1) 59 [a0,a1] h=fin (qB (qA fns B n) B pV [some a0,some a1] h):=rfl
theorem qNy:qA fns B (n+1) 60 [a0] h=fin (qB (qA fns B n) B oA [some a0] h):=rfl
abbrev qLH:Nat:=61
theorem qOY:qA fns B (n+1) 61 [a0] h=fin (qB (qA fns B n) B rJ [some a0,none,none] h):=rfl
abbrev qLT:Nat:=62
theorem qOj:qA fns B (n+1) 62 [a0,a1,a2,a3] h=fin (qB (qA fns B n) B sD [some a0,some a1,some a2,some a3] h):=rfl
abbrev qLX:Nat:=63
theorem qOn:qA fns B (n+1) 63 [a0] h=fin (qB (qA fns B n) B sN [some a0] h):=rfl
abbrev qLP:Nat:=64
theorem qOf:qA fns B (n+1) 64 [a0] h=fin (qB (qA fns B n) B rW [some a0,none] h):=rfl
abbrev qLU:Nat:=65
theorem qOk:qA fns B (n+1) 65 [a0,a1] h=fin (qB (qA fns B n) B sK [some a0,some a1] h):=rfl
abbrev qLL:Nat:=67
theorem qOc:qA fns B (n+1) 67 [a0,a1,a2] h=fin (qB (qA fns B n) B rP [some a0,some a1,some a2] h):=rfl
abbrev qLV:Nat:=68
theorem qOl:qA fns B (n+1) 68 [a0,a1] h=fin (qB (qA fns B n) B sL [some a0,some a1] h):=rfl
abbrev qLO:Nat:=70
theorem qOe:qA fns B (n+1) 70 [a0] h=fin (qB (qA fns B n) B rV [some a0] h):=rfl
abbrev qLM:Nat:=74
theorem qOd:qA fns B (n+1) 74 [a0] h=fin (qB (qA fns B n) B bZ [some a0,none] h):=rfl
abbrev qLQ:Nat:=75
theorem qOg:qA fns B (n+1) 75 [a0] h=fin (qB (qA fns B n) B sA [some a0,none,none,none,none] h):=rfl
abbrev qLS:Nat:=76
theorem qOi:qA fns B (n+1) 76 [a0,a1] h=fin (qB (qA fns B n) B gA [some a0,some a1,none,none] h):=rfl
abbrev qLR:Nat:=77
theorem qOh:qA fns B (n+1) 77 [a0,a1,a2] h=fin (qB (qA fns B n) B sB [some a0,some a1,some a2] h):=rfl
abbrev qCR:Nat:=78
theorem qC9:qA fns B (n+1) 78 [a0,a1] h=fin (qB (qA fns B n) B gB [some a0,some a1,none,none,none,none,none] h):=rfl
abbrev qLW:Nat:=79
theorem qOm:qA fns B (n+1) 79 [a0] h=fin (qB (qA fns B n) B sM [some a0] h):=rfl
abbrev qLN:Nat:=80
theorem qC8:qA fns B (n+1) 80 [a0,a1] h=fin (qB (qA fns B n) B cA [some a0,some a1,none] h):=rfl
theorem qOo:qA fns B (n+1) 83 [a0,a1] h=fin (qB (qA fns B n) B sO [some a0,some a1,none] h):=rfl
abbrev qK0:Nat:=84
theorem qOA:qA fns B (n+1) 84 [a0,a1] h=fin (qB (qA fns B n) B oR [some a0,some a1] h):=rfl
abbrev qKx:Nat:=85
theorem qN7:qA fns B (n+1) 85 [a0,a1] h=fin (qB (qA fns B n) B oO [some a0,some a1,none] h):=rfl
abbrev qKy:Nat:=86
theorem qN8:qA fns B (n+1) 86 [a0,a1] h=fin (qB (qA fns B n) B uU [some a0,some a1] h):=rfl
abbrev qKz:Nat:=87
theorem qN9:qA fns B (n+1) 87 [a0,a1,a2,a3] h=fin (qB (qA fns B n) B bO [some a0,some a1,some a2,some a3,none,none,none,none,none] h):=rfl
abbrev qKw:Nat:=88
theorem qN6:qA fns B (n+1) 88 [a0,a1,a2] h=fin (qB (qA fns B n) B oM [some a0,some a1,some a2,none,none,none,none,none,none] h):=rfl
abbrev qK1:Nat:=89
theorem qOB:qA fns B (n+1) 89 [a0] h=fin (qB (qA fns B n) B pA [some a0,none,none,none,none,none,none,none,none,none,none,none,none,none,none] h):=rfl
end
local macro_rules | `(tactic| simp! only [$ts,*] $[$l]?) => `(tactic| simp only [Int.reduceLT, Int.reduceLE, Int.reduceNeg, Int.reduceAdd, Int.reduceSub, Int.reduceEq, Int.reduceBEq, Nat.reduceLeDiff, Nat.reduceLT, Nat.reduceBEq, and_self, and_true, true_and, qMG, qMF, qB, den, qK, qT, zU, kJ, qKo, qRY, qRX, qRZ, qG8, tU, qE1, qNe, yO, qNf, qNg, M.ret_eq, M.bind_eq, R.bind_ok, jU, newL, jT, wY, qI5, qFw, qFv, qJ, qZ, tbN, Option.isNone_none, Option.isNone_some, qI9, uE, yX, qCh, gF, b2i, List.getElem?_cons_zero, List.getElem?_cons_succ, List.length_cons, List.length_nil, List.map_cons, List.map_nil, List.cons_append, List.nil_append, List.set_cons_zero, List.set_cons_succ, if_true, reduceIte, Nat.zero_add, Nat.reduceAdd, Bool.false_eq_true, if_false, Bool.not_true, Bool.not_false, Bool.or_true, Bool.or_false, Bool.true_or, Bool.false_or, decide_true, decide_false, reduceCtorEq, beq_self_eq_true, qEi, qEm, qEl, qEk, qEe, qEq, qEp, qEg, qEd, qEj, qEs, qEf, qEr, qEo, qEh, qEn, qHc, qHb, qHa, qHZ, qHC, qHH, qHD, qHE, qHT, qHW, qHV, qHI, qHX, qHG, qHL, qHM, qHS, qHU, qHR, qHF, qHQ, qHP, qHO, qHJ, qHK, qHB, qHN, qHY, qFB, qKZ, qKY, qKa, qF2, qF0, qF8, qI3, qIx, qI0, qI1, qI2, qET, qE8, qMD, qE7, qIy, qIz, isi_int, isi_str, isi_tup, qMO, qMN, $ts,*] $[$l]?)
theorem kG(h l:AH)(k:Nat):qC (h++l) (h.length+k)=qC l k:=by
 unfold qC;rw[List.getElem?_append_right (by omega),Nat.add_sub_cancel_left]
theorem zA(h l:AH):qC (h++l) h.length=qC l 0:=kG h l 0
theorem jO(h l:AH)(k:Nat):(h++l)[h.length+k]?=l[k]?:=by
 rw[List.getElem?_append_right (by omega),Nat.add_sub_cancel_left]
theorem qS(h l:AH):(h++l)[h.length]?=l[0]?:=jO h l 0
theorem qAU(h l:AH)(k:Nat)(o:O):(h++l).set (h.length+k) o=h++l.set k o:=by
 rw[List.set_append_right _ _ (by omega),Nat.add_sub_cancel_left]
theorem jW(h l:AH)(o:O):(h++l).set h.length o=h++l.set 0 o:=qAU h l 0 o
theorem zW(xs:List D)(l:AH):qC (.lst xs::l) 0=some xs:=rfl
theorem qB2{ds:List D}{k:Nat}{d:D}(h:ds[k]?=some d):((ixN ds.length (k:Int)).bind fun j=>ds[j]?)=some d:=by
 rw[qB6 (List.getElem?_eq_some_iff.mp h).1,Option.bind_some,h]
theorem nQ{α:Type}(x:List α)(k:Nat):qO x none (some (k:Int))=x.take k:=by
 unfold qO qU;simp only[if_neg (show ¬ (k:Int)<0 by omega),Int.toNat_natCast,List.drop_zero,Nat.sub_zero];rw[Nat.min_comm,<- List.take_take];exact List.take_of_length_le (by rw[List.length_take];omega)
theorem nR{α:Type}(x:List α)(k:Nat):qO x (some (k:Int)) none=x.drop k:=by
 unfold qO qU;simp only[if_neg (show ¬ (k:Int)<0 by omega),Int.toNat_natCast]
 by_cases hk:k<=x.length
 ·rw[Nat.min_eq_left hk];exact List.take_of_length_le (by simp)
 ·rw[Nat.min_eq_right (by omega),List.drop_length,List.drop_eq_nil_of_le (by omega),List.take_nil]
theorem aF(B n:Nat)(h:AH)(i:Nat)(xs:List Int)(k:Nat)(hx:qC h i=some (xs.map .int)):qA fns B (n+1) qK0 [.ref i,.int k] h=.ok (.int (xs.getD k 0)) h:=by
 rw[qOA];simp! only [oR,hx,List.length_map]
 by_cases hk:k<xs.length
 ·have e:decide ((k:Int)<(xs.length:Int))=true:=by simpa using hk
  have e2:xs[k]?=some xs[k]:=by simp[hk]
  simp! only [e,Option.bind_some,ixN,List.length_map,if_pos (show (0:Int)<=k by omega),if_pos (show (k:Int)<xs.length by omega),Int.toNat_natCast,e2,List.getElem?_map,Option.map_some,List.getD_eq_getElem?_getD,Option.getD_some]
 ·have e:decide ((k:Int)<(xs.length:Int))=false:=by simpa using hk
  have e2:xs[k]?=none:=by simp;omega
  simp! only [e,qDg,List.getD_eq_getElem?_getD,e2,Option.getD_none]
def okC(c:Nat):Bool:=decide (32<=c)&&decide (c<=126)&&!decide (c=37)
theorem qJW(B n:Nat)(c:Nat)(h:AH):qA fns B (n+1) qK3 [.str [c]] h=.ok (.bl (okC c)) h:=by
 rw[qOD];have e1:decide ((32:Int)<=(c:Int))=decide (32<=c):=yI 32 c;have e2:decide ((c:Int)<=(126:Int))=decide (c<=126):=yI c 126;have e3:((c:Int) == 37)=decide (c=37):=qKn c 37;simp! only [pD,e1];unfold okC
 by_cases h1:32<=c
 ·by_cases h2:c<=126
  ·simp! only [e2,e3,h1,h2,Bool.true_and]
  ·simp! only [e2,h1,h2,Bool.and_false,Bool.false_and]
 ·simp! only [h1,Bool.false_and]
theorem qBc(B n:Nat)(x:Tx)(h:AH)(hz:x.length<=1000):qA fns B (n+2) qK2 [.str x] h=.ok (.bl (x.all okC)) (h++[.lst (x.map fun c=>.bl (okC c))]):=by
 rw[qOC]
 have e:zC (zY (den (qA fns B (n+1)) pB) [some (D.str x)]) (x.map fun c=>D.str [c]) h=.ok (x.map fun c=>.bl (okC c)) h:=by
  rw[aC _ (fun d=>match d with | .str [c]=>.bl (okC c) | _=>.non)]
  ·rw[List.map_map];rfl
  ·intro y hy;obtain ⟨c,_,rfl⟩:=List.mem_map.mp hy;simp! only [vJ,pB,qJW]
 have hz':x.length<=16777216:=by omega
 have hz2:x.length<16777216:=by omega
 simp! only [pC,e,List.length_map,hz',hz2,fY,Option.bind_some,tH]
def chk(v:Int)(x:Tx):Int:=x.foldl (fun (v:Int) (c:Nat)=>(v*31+(c:Int)-32) % 9973) v
theorem qJo(B n:Nat)(x:Tx)(h:AH):qA fns B (n+1) qLE [.str x] h=.ok (.int (chk 7 x)) h:=by
 have step:∀ (c:Nat) (v:Int) (l:Option D),zR (TG.nm 2) (qB (qA fns B n) B bU) (.str [c]) [some (.str x),some (.int v),l] h=.nx [some (.str x),some (.int ((v*31+(c:Int)-32) % 9973)),some (.str [c])] h:=by
  intro c v l;simp! only [bU,if_pos (qIq (i:=v) (j:=31) (by omega)),show (0:Int)<9973 by omega]
 have L:∀ (z:Tx) (v:Int) (l:Option D),∃ l',zS (zR (TG.nm 2) (qB (qA fns B n) B bU)) (z.map fun c=>D.str [c]) [some (.str x),some (.int v),l] h=.nx [some (.str x),some (.int (chk v z)),l'] h:=by
  intro z
  induction z with
  |nil=>intro v l;exact⟨l,rfl⟩
  |cons c z ih=>intro v l;rw[List.map_cons,zS,step,tU];exact ih _ _
 rw[qOU];simp! only [rD];obtain ⟨l',L⟩:=L x 7 none;rw[L];simp! only [qDx]
def txN(m:Nat):Tx:=(Nat.toDigits 10 m).map Char.toNat
theorem qEw(m:Nat):txI (m:Int)=txN m:=by
 unfold txI txN;have e:(toString (m:Int):String)=String.ofList (Nat.toDigits 10 m):=rfl;rw[e,String.toList_ofList]
theorem dch:∀ d:Nat,d<10->(Nat.digitChar d).toNat=48+d:=by decide
theorem vY{m:Nat}(h:m<10):txN m=[48+m]:=by
 unfold txN;rw[Nat.toDigits_of_lt_base h,List.map_cons,List.map_nil,dch m h]
theorem yU{m:Nat}(h:10<=m):txN m=txN (m / 10)++[48+m % 10]:=by
 unfold txN;rw[Nat.toDigits_of_base_le (by omega) h,List.map_append,List.map_cons,List.map_nil,dch _ (Nat.mod_lt _ (by omega))]
theorem cS(m:Nat):jH (txN m)=true:=by
 induction m using Nat.strongRecOn with
 |_ m ih=>
  by_cases h:m<10
  ·rw[vY h];unfold jH;simp;omega
  ·rw[yU (by omega)];unfold jH;rw[List.all_append]
   have:=ih (m / 10) (by omega)
   unfold jH at this;rw[this]
   have:=Nat.mod_lt m (show 10 > 0 by omega)
   simp;omega
theorem qMj(x:Tx)(c:Nat):kD (x++[c])=kD x*10+(c-48):=by
 unfold kD;rw[List.foldl_append];rfl
theorem qEu(m:Nat):kD (txN m)=m:=by
 induction m using Nat.strongRecOn with
 |_ m ih=>
  by_cases h:m<10
  ·rw[vY h];unfold kD;simp
  ·rw[yU (by omega),qMj,ih (m / 10) (by omega)];omega
theorem tQ(m:Nat):txN m≠[]:=by
 by_cases h:m<10
 ·rw[vY h];simp
 ·rw[yU (by omega)];simp
theorem qEv{m:Nat}(h:0<m):(txN m)[0]?≠some 48:=by
 induction m using Nat.strongRecOn with
 |_ m ih=>
  by_cases h1:m<10
  ·rw[vY h1];simp;omega
  ·rw[yU (by omega)]
   have:=ih (m / 10) (by omega) (by omega)
   rw[List.getElem?_append_left (List.length_pos_iff.mpr (tQ _))];exact this
theorem cR{m:Nat}:∀ k:Nat,m<10 ^ (k+1)->(txN m).length<=k+1:=by
 intro k
 induction k generalizing m with
 |zero=>intro h;rw[vY (by simpa using h)];simp
 |succ k ih=>
  intro h
  by_cases h1:m<10
  ·rw[vY h1];simp
  ·rw[yU (by omega),List.length_append]
   have:=ih (m:=m / 10) (by rw[Nat.pow_succ] at h;omega)
   simp only[List.length_cons,List.length_nil];omega
def FIG:Tx:=[48,49,50,51,52,53,54,55,56,57]
def dgC(c:Nat):Bool:=decide (48<=c/\c<=57)
theorem qMH(c:Nat):FIG.contains c=dgC c:=by
 rw[Bool.eq_iff_iff,List.contains_iff_mem];unfold FIG dgC;simp only[List.mem_cons,List.not_mem_nil,or_false,decide_eq_true_eq];omega
theorem log2_lt{i:Int}(h0:0<=i)(h:i<10000000000000):i.natAbs.log2<1920:=by
 by_cases h1:i.natAbs=0
 ·rw[h1];decide
 ·refine Nat.lt_of_lt_of_le ((Nat.log2_lt h1).mpr (show i.natAbs<2 ^ 44 from ?_)) (by decide)
  have:(2:Nat) ^ 44=17592186044416:=by decide
  omega
theorem qJl(B n:Nat)(i:Int)(h0:0<=i)(h1:i<10000000000000)(h:AH):qA fns B (n+1) qCP [.int i] h=.ok (.str (txI i)) h:=by
 rw[qOQ];simp! only [pW,if_pos (log2_lt h0 h1)]
def wK(x:Tx):Bool:=decide (1<=x.length/\x.length<=13)&&!(decide (x[0]?=some 48)&&decide (1<x.length))&&x.all dgC
theorem qJX(B n:Nat)(x:Tx)(h:AH)(hz:x.length<=1000):∃ g,qA fns B (n+1) qK8 [.str x] h=.ok (.bl (wK x)) (h++g):=by
 rw[qOJ];have hz':x.length<=16777216:=by omega
 have hz2:x.length<16777216:=by omega
 have e1:decide ((1:Int)<=(x.length:Int))=decide (1<=x.length):=yI 1 x.length;have e2:decide ((x.length:Int)<=13)=decide (x.length<=13):=yI x.length 13;have e3:decide ((1:Int)<(x.length:Int))=decide (1<x.length):=qCK 1 x.length;unfold wK
 match x,hz,hz',hz2,e1,e2,e3 with
 | [],_,_,_,_,_,_=>exact⟨[],by rw[List.append_nil];rfl⟩
 |c::r,hz,hz',hz2,e1,e2,e3=>
  have f1:decide (1<=(c::r).length)=true:=by simp
  have ix0:(ixN (c::r).length 0).bind ((c::r)[·]?)=some c:=by
   rw[show (0:Int)=((0:Nat):Int) from rfl,qB6 (by simp)];rfl
  generalize hy:c::r=x at *;have hx0:x[0]?=some c:=by rw[<- hy];rfl
  simp! only [pL,hz',e1,f1,e2]
  by_cases h13:x.length<=13
  ·have q1:decide (1<=x.length/\x.length<=13)=true:=decide_eq_true ⟨of_decide_eq_true f1,h13⟩;rw[q1,hx0];simp! only [h13,qDk,hz',ix0,e3,Bool.true_and,Option.some.injEq]
   have e:zC (zY (den (qA fns B n) pK) [some (D.str x)]) (x.map fun c=>D.str [c]) h=.ok (x.map fun c=>.bl (dgC c)) h:=by
    rw[aC _ (fun d=>match d with | .str [c]=>.bl (dgC c) | _=>.non)]
    ·rw[List.map_map];rfl
    ·intro y hy;obtain ⟨c,_,rfl⟩:=List.mem_map.mp hy;have q:=qMH c;unfold FIG at q;simp! only [vJ,pK,q]
   by_cases h48:c=48
   ·subst h48;simp! only [BEq.rfl,Bool.true_and,hz',e3]
    by_cases hl:1<x.length
    ·simp! only [hl,Bool.false_and]
     exact⟨[],by rw[List.append_nil]⟩
    ·simp! only [hl,pJ,Bool.true_and,List.length_map,hz',hz2,e,fY,Option.bind_some,tH]
     exact⟨_,rfl⟩
   ·have q:(([c]:Tx) == [48])=false:=by simp[h48]
    simp! only [q,h48,Bool.false_and,pJ,Bool.true_and,List.length_map,hz',hz2,e,fY,Option.bind_some,tH]
    exact⟨_,rfl⟩
  ·have q1:decide (1<=x.length/\x.length<=13)=false:=decide_eq_false fun q=>h13 q.2;rw[q1];simp! only [h13,Bool.false_and]
   exact⟨[],by rw[List.append_nil]⟩
def zB(x:Tx):D:=if wK x=true then (if kD x<=1000000000000 then .int (kD x) else .non) else .non
theorem qRb{x:Tx}:x.all dgC=jH x:=rfl
theorem qJQ(B n:Nat)(x:Tx)(h:AH)(hz:x.length<=1000):∃ g,qA fns B (n+2) qKu [.str x] h=.ok (zB x) (h++g):=by
 rw[qN4];obtain ⟨g,e⟩:=qJX B n x h hz;refine⟨g,?_⟩;unfold zB;cases q:wK x with
 |false=>simp! only [bL,e,q]
 |true=>
  have q':=q;unfold wK at q';simp only[Bool.and_eq_true,decide_eq_true_eq] at q';obtain ⟨⟨⟨l1,l2⟩,_⟩,l3⟩:=q';have hc:x≠[]/\x.length<=640/\jH x=true:=⟨List.length_pos_iff.mp l1,by omega,l3⟩;have ed:decide ((kD x:Int)<=1000000000000)=decide (kD x<=1000000000000):=yI _ _;simp! only [bL,e,q,qDW,if_pos hc,ed]
  by_cases hd:kD x<=1000000000000 <;> simp! only [hd]
theorem qHd(m:Nat)(h:m<=1000000000000):zB (txN m)=.int m:=by
 unfold zB;have hl:(txN m).length<=13:=cR 12 (by have:(10:Nat) ^ (12+1)=10000000000000:=(by decide);omega)
 have:wK (txN m)=true:=by
  unfold wK;rw[qRb,cS,decide_eq_true (show 1<=(txN m).length/\(txN m).length<=13 from ⟨List.length_pos_iff.mpr (tQ m),hl⟩)]
  by_cases h0:0<m
  ·rw[decide_eq_false (qEv h0)];rfl
  ·have:m=0:=by omega
   subst this;rw[vY (by omega)];rfl
 rw[this,if_pos rfl,qEu,if_pos h]
theorem isi_int(h:AH)(t:Ty)(i:Int):kB h t (.int i)=some (t == .int):=rfl
theorem isi_str(h:AH)(t:Ty)(x:Tx):kB h t (.str x)=some (t == .str):=rfl
theorem isi_tup(h:AH)(t:Ty)(x:List D):kB h t (.tup x)=some (t == .tuple):=rfl
section
variable (B n:Nat)(h:AH)
theorem wZ{i lo hi:Int}(h1:lo<=i)(h2:i<=hi):qA fns B (n+1) qK6 [.int i,.int lo,.int hi] h=.ok (.bl true) h:=by
 rw[qOG];simp! only [pG,isi_int,show (Ty.bool == Ty.int)=false from rfl,show (Ty.int == Ty.int)=true from rfl,qDj,decide_eq_true h1,decide_eq_true h2]
theorem eR{i:Int}(h1:1<=i)(h2:i<=1000000000):qA fns B (n+2) qK7 [.int i] h=.ok (.bl true) h:=by
 rw[qOH];simp! only [pH,wZ B n h h1 h2]
theorem qBY{i:Int}(h1:0<=i)(h2:i<=1000000):qA fns B (n+2) qK4 [.int i] h=.ok (.bl true) h:=by
 rw[qOE];simp! only [pE,wZ B n h h1 h2]
theorem eQ(k:D)(a b c:Int)(r:List D)(ha:1<=a)(ha2:a<=1000000000)(hb:1<=b)(hb2:b<=1000000000)(hc:0<=c)(hc2:c<=999):qA fns B (n+3) qKv [.tup (k::.int a::.int b::.int c::r)] h=.ok (.bl true) h:=by
 rw[qN5]
 have i1:((ixN (r.length+4) 1).bind fun j=>(k::D.int a::.int b::.int c::r)[j]?)=some (.int a):=by
  rw[show ixN (r.length+4) 1=some 1 by unfold ixN;rw[if_pos (by omega),if_pos (by omega)];rfl];rfl
 have i2:((ixN (r.length+4) 2).bind fun j=>(k::D.int a::.int b::.int c::r)[j]?)=some (.int b):=by
  rw[show ixN (r.length+4) 2=some 2 by unfold ixN;rw[if_pos (by omega),if_pos (by omega)];rfl];rfl
 have i3:((ixN (r.length+4) 3).bind fun j=>(k::D.int a::.int b::.int c::r)[j]?)=some (.int c):=by
  rw[show ixN (r.length+4) 3=some 3 by unfold ixN;rw[if_pos (by omega),if_pos (by omega)];rfl];rfl
 simp! only [oJ,List.length_cons,i1,i2,i3,eR B n h ha ha2,eR B n h hb hb2,wZ B (n+1) h hc hc2]
end
def HELLO:Tx:=[104,101,108,108,111]
def DATA:Tx:=[100,97,116,97]
def ENDW:Tx:=[101,110,100]
def ANS:Tx:=[97,110,115,119,101,114]
inductive La where
 |no | sg (y:Tx) | sp
structure Pce where
 k:Tx
 ns:List Nat
 la:La
def nsD(ns:List Nat):List D:=ns.map fun n:Nat=>D.int n
def laD:La->List D
 | .no=>[]
 | .sg y=>[.str y]
 | .sp=>[.tup []]
def toD(p:Pce):D:=.tup (.str p.k::(nsD p.ns++laD p.la))
inductive Shp:Pce->Prop where
 |hello (a b:Nat):1<=a->Shp ⟨HELLO,[a,b],.no⟩
 |data (c:Nat) (y:Tx):c<50->y.all okC=true->y.length<=40->Shp ⟨DATA,[1,3,c,0],.sg y⟩
 |fin (c:Nat):c<50->Shp ⟨ENDW,[1,3,c,0],.no⟩
 |ans (c d:Nat):c<50->d<=1->Shp ⟨ANS,[3,1,c,d,1],.sp⟩
def okP(p:Pce):Prop:=Shp p/\∀ n∈p.ns,n<=1000000000
section
variable (B n:Nat)(h:AH)
theorem w1:(HELLO == [104,101,108,108,111])=true:=rfl
theorem w2:(DATA == [104,101,108,108,111])=false:=rfl
theorem w3:(DATA == [100,97,116,97])=true:=rfl
theorem w4:(ENDW == [104,101,108,108,111])=false:=rfl
theorem w5:(ENDW == [100,97,116,97])=false:=rfl
theorem w6:(ENDW == [101,110,100])=true:=rfl
theorem w7:(ANS == [104,101,108,108,111])=false:=rfl
theorem w8:(ANS == [100,97,116,97])=false:=rfl
theorem w9:(ANS == [101,110,100])=false:=rfl
theorem w10:(ANS == [97,110,115,119,101,114])=true:=rfl
theorem tyt:(Ty.tuple == Ty.tuple)=true:=rfl
theorem tys:(Ty.str == Ty.str)=true:=rfl
theorem qBd{p:Pce}(hp:okP p):∃ f,qA fns B (n+6) qK5 [toD p] h=.ok (.bl true) (h++f):=by
 rw[qOF];obtain ⟨sh,bd⟩:=hp;cases sh with
 |hello a b ha=>
  have b1:=bd a (by simp);have b2:=bd b (by simp)
  have s:qA fns B (n+5) 31 [.tup [.str HELLO,.int a,.int b]] h=.ok (.bl true) h:=by
   rw[qOI];simp! only [pI,show (((3:Nat):Int) == 3)=true from rfl,show ((ixN 3 1).bind fun j=>[D.str HELLO,.int a,.int b][j]?)=some (.int a) from rfl,show ((ixN 3 2).bind fun j=>[D.str HELLO,.int a,.int b][j]?)=some (.int b) from rfl,eR B (n+2) h (show (1:Int)<=a by omega) (show (a:Int)<=1000000000 by omega),wZ B (n+3) h (show (0:Int)<=b by omega) (show (b:Int)<=1000000000 by omega)]
  refine⟨[],?_⟩;rw[List.append_nil];show Fy.fin (qB (qA fns B (n+5)) B kY [some (.tup [.str HELLO,.int a,.int b]),none] h)=_;simp! only [kY,isi_tup,tyt,show (((3:Nat):Int) == 0)=false from rfl,uW,show ((ixN 3 0).bind fun j=>[D.str HELLO,.int a,.int b][j]?)=some (.str HELLO) from rfl,isi_str,tys,uX,w1,s]
 |data c y hc hy hl=>
  have s0:=qBc B (n+2) y h (by omega);rw[hy] at s0;have d1:decide ((y.length:Int)<=40)=true:=decide_eq_true (by omega);have d2:decide ((0:Int)+(y.length:Int)<=1000000)=true:=decide_eq_true (by omega);have s0:qA fns B (n+4) 22 [.str y] h=.ok (.bl true) (h++[.lst (y.map fun c=>.bl (okC c))]):=s0
  have s:qA fns B (n+5) 32 [.tup [.str DATA,.int 1,.int 3,.int c,.int 0,.str y]] h=.ok (.bl true) (h++[.lst (y.map fun c=>.bl (okC c))]):=by
   rw[qOL];simp! only [pN,show (((6:Nat):Int) == 6)=true from rfl,eQ B (n+1) h (.str DATA) 1 3 c [.int 0,.str y] (by omega) (by omega) (by omega) (by omega) (by omega) (by omega),qDl,show ((ixN 6 4).bind fun j=>[D.str DATA,.int 1,.int 3,.int c,.int 0,.str y][j]?)=some (.int 0) from rfl,show ((ixN 6 5).bind fun j=>[D.str DATA,.int 1,.int 3,.int c,.int 0,.str y][j]?)=some (.str y) from rfl,qBY B (n+2) h (show (0:Int)<=0 by omega) (show (0:Int)<=1000000 by omega),s0,qDm,if_pos (show y.length<=16777216 by omega),d1,d2]
  refine⟨[.lst (y.map fun c=>.bl (okC c))],?_⟩;show Fy.fin (qB (qA fns B (n+5)) B kY [some (.tup [.str DATA,.int 1,.int 3,.int c,.int 0,.str y]),none] h)=_;simp! only [kY,isi_tup,tyt,show (((6:Nat):Int) == 0)=false from rfl,uW,show ((ixN 6 0).bind fun j=>[D.str DATA,.int 1,.int 3,.int c,.int 0,.str y][j]?)=some (.str DATA) from rfl,isi_str,tys,uX,w2,bR,w3,s]
 |fin c hc=>
  have s:qA fns B (n+5) 33 [.tup [.str ENDW,.int 1,.int 3,.int c,.int 0]] h=.ok (.bl true) h:=by
   rw[qOK];simp! only [pM,show (((5:Nat):Int) == 5)=true from rfl,eQ B (n+1) h (.str ENDW) 1 3 c [.int 0] (by omega) (by omega) (by omega) (by omega) (by omega) (by omega),show ((ixN 5 4).bind fun j=>[D.str ENDW,.int 1,.int 3,.int c,.int 0][j]?)=some (.int 0) from rfl,qBY B (n+2) h (show (0:Int)<=0 by omega) (show (0:Int)<=1000000 by omega)]
  refine⟨[],?_⟩;rw[List.append_nil];show Fy.fin (qB (qA fns B (n+5)) B kY [some (.tup [.str ENDW,.int 1,.int 3,.int c,.int 0]),none] h)=_;simp! only [kY,isi_tup,tyt,show (((5:Nat):Int) == 0)=false from rfl,uW,show ((ixN 5 0).bind fun j=>[D.str ENDW,.int 1,.int 3,.int c,.int 0][j]?)=some (.str ENDW) from rfl,isi_str,tys,uX,w4,bR,w5,pF,w6,s]
 |ans c d hc hd=>
  have s0:qA fns B (n+4) 35 [.tup [],.int d] h=.ok (.bl true) h:=by
   rw[qOX];simp! only [rH,isi_tup,tyt,List.length_nil,show decide ((8:Int)<((0:Nat):Int))=false from rfl,qD0,zS,qD1]
  have s:qA fns B (n+5) 36 [.tup [.str ANS,.int 3,.int 1,.int c,.int d,.int 1,.tup []]] h=.ok (.bl true) h:=by
   rw[qOM];simp! only [pO,show (((7:Nat):Int) == 7)=true from rfl,eQ B (n+1) h (.str ANS) 3 1 c [.int d,.int 1,.tup []] (by omega) (by omega) (by omega) (by omega) (by omega) (by omega),qDn,show ((ixN 7 4).bind fun j=>[D.str ANS,.int 3,.int 1,.int c,.int d,.int 1,.tup []][j]?)=some (.int d) from rfl,show ((ixN 7 5).bind fun j=>[D.str ANS,.int 3,.int 1,.int c,.int d,.int 1,.tup []][j]?)=some (.int 1) from rfl,show ((ixN 7 6).bind fun j=>[D.str ANS,.int 3,.int 1,.int c,.int d,.int 1,.tup []][j]?)=some (.tup []) from rfl,wZ B (n+3) h (show (0:Int)<=d by omega) (show (d:Int)<=1000001 by omega),wZ B (n+3) h (show (0:Int)<=1 by omega) (show (1:Int)<=1000200 by omega),qDo,s0]
  refine⟨[],?_⟩;rw[List.append_nil];show Fy.fin (qB (qA fns B (n+5)) B kY [some (.tup [.str ANS,.int 3,.int 1,.int c,.int d,.int 1,.tup []]),none] h)=_;simp! only [kY,isi_tup,tyt,show (((7:Nat):Int) == 0)=false from rfl,uW,show ((ixN 7 0).bind fun j=>[D.str ANS,.int 3,.int 1,.int c,.int d,.int 1,.tup []][j]?)=some (.str ANS) from rfl,isi_str,tys,uX,w7,bR,w8,pF,w9,qDi,w10,s]
end
def laW:La->List Tx
 | .no=>[]
 | .sg y=>[txN y.length++[58]++y]
 | .sp=>[[45]]
def wds(p:Pce):List Tx:=p.k::(p.ns.map txN++laW p.la)
def bod(p:Pce):Tx:=zF [32] (wds p)
def vH(v:Int):Tx:=List.replicate (4-(txN v.toNat).length) 48++txN v.toNat
def wr(p:Pce):Tx:=bod p++[32]++vH (chk 7 (bod p))
theorem qC1(x:Tx):∀ v:Int,0<=v->v<9973->0<=chk v x/\chk v x<9973:=by
 induction x with
 |nil=>intro v h1 h2;exact⟨h1,h2⟩
 |cons c x ih=>intro v _ _;exact ih _ (Int.emod_nonneg _ (by omega)) (Int.emod_lt_of_pos _ (by omega))
theorem qB1(c:Nat):∀ ws:List Tx,(zF [c] ws).length<=(ws.map fun w=>w.length+1).sum
 | []=>Nat.le_refl _
 | [x]=>by show x.length<=x.length+1+0;omega
 |x::y::r=>by
  have:=qB1 c (y::r)
  show (x++[c]++zF [c] (y::r)).length<=x.length+1+((y::r).map fun w=>w.length+1).sum;rw[List.length_append,List.length_append];simp only[List.length_cons,List.length_nil] at *;omega
theorem yV{m:Nat}(h:m<=1000000000):(txN m).length<=10:=cR 9 (by have:(10:Nat) ^ (9+1)=10000000000:=(by decide);omega)
theorem gI{α:Type}(f:α->Nat)(b:Nat):∀ l:List α,(∀ x∈l,f x<=b)->(l.map f).sum<=b*l.length
 | [],_=>by simp
 |x::l,h=>by
  have h1:=h x (List.mem_cons_self ..);have h2:=gI f b l fun y hy=>h y (List.mem_cons_of_mem _ hy);rw[List.map_cons,List.sum_cons,List.length_cons,Nat.mul_succ];omega
theorem qBt{p:Pce}(h:okP p):∀ w∈laW p.la,w.length<=200:=by
 intro w hw;cases h.1 with
 |hello a b _=>cases hw
 |fin c _=>cases hw
 |data c y _ h1 h2=>
  have hw:w∈[txN y.length++[58]++y]:=hw;rw[List.mem_singleton.mp hw,List.length_append,List.length_append]
  have:=yV (m:=y.length) (by omega)
  simp only[List.length_cons,List.length_nil];omega
 |ans c d _ _=>have hw:w∈[[45]]:=hw;rw[List.mem_singleton.mp hw];show 1<=200;omega
theorem kl{p:Pce}(h:Shp p):p.k.length<=6:=by
 cases h with
 |hello=>exact (by decide:HELLO.length<=6)
 |data=>exact (by decide:DATA.length<=6)
 |fin=>exact (by decide:ENDW.length<=6)
 |ans=>exact (by decide:ANS.length<=6)
theorem qDH{p:Pce}(h:okP p):(bod p).length<=400:=by
 have h1:=qB1 32 (wds p);have h2:=qBt h;unfold bod
 have h3:((wds p).map fun w=>w.length+1).sum=p.k.length+1+(((p.ns.map txN).map fun w=>w.length+1).sum+((laW p.la).map fun w=>w.length+1).sum):=by
  unfold wds;rw[List.map_cons,List.sum_cons,List.map_append,List.sum_append]
 have h4:((p.ns.map txN).map fun w=>w.length+1).sum<=11*p.ns.length:=by
  rw[List.map_map];exact gI _ 11 p.ns fun x hx=>by have:=yV (h.2 x hx);show (txN x).length+1<=11;omega
 have h5:((laW p.la).map fun w=>w.length+1).sum<=201*(laW p.la).length:=gI _ 201 _ fun x hx=>by have:=h2 x hx;omega
 have h6:p.k.length<=6/\p.ns.length<=5/\(laW p.la).length<=1:=by
  refine⟨kl h.1,?_⟩;cases h.1 <;> exact⟨by simp,by simp[laW]⟩
 omega
theorem qBR(f:D->M (Option D))(r:D->D)(i:Nat)(xs:List D)(H:∀ x∈xs,∀ h,qC h i=some xs->∃ g,f x h=.ok (some (r x)) (h++g)):∀ (n k:Nat) (h:AH),qC h i=some xs->n+k=xs.length+1->k<=xs.length->∃ g,zO f i n k h=.ok ((xs.drop k).map r) (h++g)
 |0,k,h,hg,hn,hk=>by omega
 |n+1,k,h,hg,hn,hkl=>by
  unfold zO;rw[hg];simp only
  by_cases hk:k<xs.length
  ·have e:xs[k]?=some xs[k]:=by simp[hk]
   rw[e];obtain ⟨g1,e1⟩:=H _ (List.getElem_mem hk) h hg;obtain ⟨g2,e2⟩:=qBR f r i xs H n (k+1) (h++g1) (jQ g1 hg) (by omega) hk;refine⟨g1++g2,?_⟩;simp only[M.bind_eq,e1,R.bind_ok,e2,M.ret_eq];rw[List.drop_eq_getElem_cons hk,List.append_assoc];rfl
  ·have e:xs[k]?=none:=by simp;omega
   rw[e,List.drop_eq_nil_of_le (by omega)]
   exact⟨[],by rw[List.append_nil];rfl⟩
theorem eN(f:D->M (Option D))(r:D->D)(i:Nat)(xs:List D)(h:AH)(hg:qC h i=some xs)(hl:xs.length<=1000000)(H:∀ x∈xs,∀ h,qC h i=some xs->∃ g,f x h=.ok (some (r x)) (h++g)):∃ g,zO f i (zP h i) 0 h=.ok (xs.map r) (h++g)/\zP h i<16777216:=by
 have e:zP h i=xs.length+1:=by unfold zP;rw[hg];rfl
 obtain ⟨g,q⟩:=qBR f r i xs H (xs.length+1) 0 h hg rfl (Nat.zero_le _);rw[List.drop_zero] at q
 exact⟨g,by rw[e];exact q,by omega⟩
theorem qAE:∀ ws:List Tx,jC (ws.map D.str)=some ws
 | []=>rfl
 |w::ws=>by
  show (jC (ws.map D.str)).map (w::·)=_;rw[qAE ws];rfl
theorem qKQ(c b:Nat)(ws:List Tx)(h:∀ w∈ws,w.length<=b):kA [c] ws<=(b+1)*ws.length:=by
 unfold kA
 have:=gI List.length b ws h
 rw[Nat.add_mul];simp only[List.length_cons,List.length_nil];omega
theorem hV(B n m:Nat)(hm:m<=1000000000000)(h:AH):qA fns B (n+1) qCP [.int (m:Int)] h=.ok (.str (txN m)) h:=by
 have:=qJl B n (m:Int) (by omega) (by omega) h
 rw[qEw] at this;exact this
theorem aD(B n:Nat)(ns:List Nat)(hn:∀ x∈ns,x<=1000000000)(hl:ns.length<=10)(h:AH):qA fns B (n+2) qKt [.tup (nsD ns)] h=.ok (.ref h.length) (h++[.lst ((ns.map txN).map D.str)]):=by
 rw[qN3]
 have hm:zC (zY (den (qA fns B (n+1)) bK) [some (.tup (nsD ns))]) (nsD ns) h=.ok ((ns.map txN).map D.str) h:=by
  have:=aC (zY (den (qA fns B (n+1)) bK) [some (.tup (nsD ns))]) (fun d=>match d with | .int i=>.str (txN i.toNat) | _=>.non) h (nsD ns) (fun x hx=>by
   obtain ⟨m,hm,rfl⟩:=List.mem_map.mp hx
   have:=hV B n m (by have:=hn m hm;omega) h
   simp! only [vJ,bK,this]
   rfl)
  rw[this];unfold nsD;rw[List.map_map,List.map_map];rfl
 have l1:(nsD ns).length<16777216:=by unfold nsD;rw[List.length_map];omega
 have l2:((ns.map txN).map D.str).length<=16777216:=by rw[List.length_map,List.length_map];omega
 simp! only [oI,if_pos l1,hm,if_pos l2]
theorem qJF(B n:Nat)(y:Tx)(hy:y.length<=40)(h:AH):qA fns B (n+2) qKq [.str y] h=.ok (.str (txN y.length++[58]++y)) h:=by
 rw[qNz];have e:=hV B n y.length (by omega) h;have a:=yV (m:=y.length) (by omega);have e:qA fns B (n+1) 25 [.int (y.length:Int)] h=.ok (.str (txN y.length)) h:=e;simp! only [oB,if_pos (show y.length<=16777216 by omega),e,if_pos (show (txN y.length).length+1<=16777216 by omega),List.length_append,if_pos (show (txN y.length).length+1+y.length<=16777216 by omega),show (txN y.length).length<=16777215 by omega]
theorem bI(B n:Nat)(k:Tx)(ws:List Tx)(x0:D)(h:AH)(g:AH)(i:Nat)(hg:(h++g)[i]?=some (.lst (ws.map D.str)))(hk:k.length<=10)(hl:ws.length<=20)(hb:∀ w∈ws,w.length<=300):∃ g',qB (qA fns B n) B rF [some x0,some (.str k),some (.ref i)] (h++g)=.rt (.str (zF [32] (k::ws))) (h++g'):=by
 have hg1:=List.getElem?_append_left (l₂:=[O.lst [D.str k]]) (List.getElem?_eq_some_iff.mp hg).1;rw[hg] at hg1;have lb:(h++g++[O.lst [D.str k]])[(h++g).length]?=some (O.lst [D.str k]):=by rw[qS];rfl
 have gl:qC (h++g++[O.lst [D.str k]]++[O.lst (D.str k::ws.map D.str)]) (h++g++[O.lst [D.str k]]).length=some (D.str k::ws.map D.str):=by rw[zA];rfl
 have st:jC (D.str k::ws.map D.str)=some (k::ws):=qAE (k::ws)
 have j1:kA [32] (k::ws)<=16777216:=by
  have:=qKQ 32 300 (k::ws) (fun w hw=>by
   rcases List.mem_cons.mp hw with rfl | hw
   ·omega
   ·exact hb w hw)
  rw[List.length_cons] at this;omega
 refine⟨g++[O.lst [D.str k]]++[O.lst (D.str k::ws.map D.str)],?_⟩;rw[<- List.append_assoc,<- List.append_assoc];generalize h++g=G at *;simp! only [rF,i13,lb,hg1,List.length_map,if_pos (show ws.length+1<=16777216 by omega),show ws.length<=16777215 by omega,gl,Option.bind_some,st,if_pos j1]
theorem qJs(B n:Nat){p:Pce}(hp:okP p)(h:AH):∃ g,qA fns B (n+4) qLG [toD p] h=.ok (.str (bod p)) (h++g):=by
 rw[qOW];obtain ⟨sh,bd⟩:=hp;have hp:okP p:=⟨sh,bd⟩
 have tx:∀ w∈p.ns.map txN,w.length<=300:=fun w hw=>by
  obtain ⟨z,hz,rfl⟩:=List.mem_map.mp hw
  have:=yV (bd z hz)
  omega
 have lw:=qBt hp;cases sh with
 |hello a b _=>have e:=aD B (n+1) [a,b] bd (by simp) h;have e:qA fns B (n+3) 38 [.tup [.int a,.int b]] h=.ok (.ref h.length) (h++[.lst (([a,b].map txN).map D.str)]):=e;have cx:qO [D.str HELLO,.int a,.int b] (some 1) none=[.int a,.int b]:=rfl;have ix:((ixN 3 0).bind fun j=>[D.str HELLO,.int a,.int b][j]?)=some (.str HELLO):=rfl;obtain ⟨g',e2⟩:=bI B (n+3) HELLO ([a,b].map txN) (.tup [.str HELLO,.int a,.int b]) h [.lst (([a,b].map txN).map D.str)] h.length (by rw[qS];rfl) (by decide) (by simp) tx;refine⟨g',?_⟩;show _=R.ok (D.str (zF [32] (HELLO::[a,b].map txN))) _;show Fy.fin (qB (qA fns B (n+3)) B kZ [some (.tup [.str HELLO,.int a,.int b]),none,none] h)=_;generalize [a,b].map txN=ws at *;simp! only [kZ,ix,show (HELLO == [100,97,116,97])=false from rfl,show (HELLO == [97,110,115,119,101,114])=false from rfl,bV,rG,cx,e,e2]
 |fin c _=>have e:=aD B (n+1) [1,3,c,0] bd (by simp) h;have e:qA fns B (n+3) 38 [.tup [.int 1,.int 3,.int c,.int 0]] h=.ok (.ref h.length) (h++[.lst (([1,3,c,0].map txN).map D.str)]):=e;have cx:qO [D.str ENDW,.int 1,.int 3,.int c,.int 0] (some 1) none=[.int 1,.int 3,.int c,.int 0]:=rfl;have ix:((ixN 5 0).bind fun j=>[D.str ENDW,.int 1,.int 3,.int c,.int 0][j]?)=some (.str ENDW):=rfl;obtain ⟨g',e2⟩:=bI B (n+3) ENDW ([1,3,c,0].map txN) (.tup [.str ENDW,.int 1,.int 3,.int c,.int 0]) h [.lst (([1,3,c,0].map txN).map D.str)] h.length (by rw[qS];rfl) (by decide) (by simp) tx;refine⟨g',?_⟩;show _=R.ok (D.str (zF [32] (ENDW::[1,3,c,0].map txN))) _;show Fy.fin (qB (qA fns B (n+3)) B kZ [some (.tup [.str ENDW,.int 1,.int 3,.int c,.int 0]),none,none] h)=_;generalize [1,3,c,0].map txN=ws at *;simp! only [kZ,ix,show (ENDW == [100,97,116,97])=false from rfl,show (ENDW == [97,110,115,119,101,114])=false from rfl,bV,rG,cx,e,e2]
 |data c y _ h1 h2=>
  have e:=aD B (n+1) [1,3,c,0] bd (by simp) h;have e:qA fns B (n+3) 38 [.tup [.int 1,.int 3,.int c,.int 0]] h=.ok (.ref h.length) (h++[.lst (([1,3,c,0].map txN).map D.str)]):=e;have e3:=qJF B (n+1) y h2 (h++[.lst (([1,3,c,0].map txN).map D.str)]);have e3:qA fns B (n+3) 39 [.str y] (h++[.lst (([1,3,c,0].map txN).map D.str)])=.ok (.str (txN y.length++[58]++y)) (h++[.lst (([1,3,c,0].map txN).map D.str)]):=e3;have cx:qO [D.str DATA,.int 1,.int 3,.int c,.int 0,.str y] (some 1) (some 5)=[.int 1,.int 3,.int c,.int 0]:=rfl;have ix:((ixN 6 0).bind fun j=>[D.str DATA,.int 1,.int 3,.int c,.int 0,.str y][j]?)=some (.str DATA):=rfl;have ix5:((ixN 6 5).bind fun j=>[D.str DATA,.int 1,.int 3,.int c,.int 0,.str y][j]?)=some (.str y):=rfl;have g1:∀ l:AH,(h++O.lst (([1,3,c,0].map txN).map D.str)::l)[h.length]?=some (O.lst (([1,3,c,0].map txN).map D.str)):=fun l=>by rw[qS];rfl
  have g2:(h++[O.lst (([1,3,c,0].map txN).map D.str),O.lst [D.str (txN y.length++[58]++y)]])[h.length+1]?=some (O.lst [D.str (txN y.length++[58]++y)]):=by rw[jO];rfl
  have ws:([1,3,c,0].map txN).map D.str++[D.str (txN y.length++[58]++y)]=([1,3,c,0].map txN++[txN y.length++[58]++y]).map D.str:=rfl;have lw':=lw (txN y.length++[58]++y) (List.mem_singleton.mpr rfl)
  obtain ⟨g',e2⟩:=bI B (n+3) DATA ([1,3,c,0].map txN++[txN y.length++[58]++y]) (.tup [.str DATA,.int 1,.int 3,.int c,.int 0,.str y]) h [O.lst (([1,3,c,0].map txN).map D.str),O.lst [D.str (txN y.length++[58]++y)],O.lst (([1,3,c,0].map txN++[txN y.length++[58]++y]).map D.str)] (h.length+2) (by rw[jO];rfl) (by decide) (by simp) (fun w hw=>by
   rcases List.mem_append.mp hw with hw | hw
   ·exact tx w hw
   ·rw[List.mem_singleton.mp hw];omega)
  refine⟨g',?_⟩;show Fy.fin (qB (qA fns B (n+3)) B kZ [some (.tup [.str DATA,.int 1,.int 3,.int c,.int 0,.str y]),none,none] h)=_
  have l2:(([1,3,c,0].map txN++[txN y.length++[58]++y]).map D.str).length<=16777216:=by
   have:(([1,3,c,0].map txN++[txN y.length++[58]++y]).map D.str).length=5:=rfl
   omega
  show _=R.ok (D.str (zF [32] (DATA::([1,3,c,0].map txN++[txN y.length++[58]++y])))) _;generalize [1,3,c,0].map txN++[txN y.length++[58]++y]=vs at *;generalize ([1,3,c,0].map txN).map D.str=us at *;generalize txN y.length++[58]++y=w at *;simp! only [kZ,ix,show (DATA == [100,97,116,97])=true from rfl,qDz,cx,e,ix5,e3,i13,List.append_assoc,List.length_append,g1,g2,ws,if_pos l2,e2]
 |ans c d _ _=>
  have e:=aD B (n+1) [3,1,c,d,1] bd (by simp) h;have e:qA fns B (n+3) 38 [.tup [.int 3,.int 1,.int c,.int d,.int 1]] h=.ok (.ref h.length) (h++[.lst (([3,1,c,d,1].map txN).map D.str)]):=e;have e3:qA fns B (n+3) 40 [.tup []] (h++[.lst (([3,1,c,d,1].map txN).map D.str)])=.ok (.str [45]) (h++[.lst (([3,1,c,d,1].map txN).map D.str)]):=rfl;have cx:qO [D.str ANS,.int 3,.int 1,.int c,.int d,.int 1,.tup []] (some 1) (some 6)=[.int 3,.int 1,.int c,.int d,.int 1]:=rfl;have ix:((ixN 7 0).bind fun j=>[D.str ANS,.int 3,.int 1,.int c,.int d,.int 1,.tup []][j]?)=some (.str ANS):=rfl;have ix5:((ixN 7 6).bind fun j=>[D.str ANS,.int 3,.int 1,.int c,.int d,.int 1,.tup []][j]?)=some (.tup []):=rfl;have g1:∀ l:AH,(h++O.lst (([3,1,c,d,1].map txN).map D.str)::l)[h.length]?=some (O.lst (([3,1,c,d,1].map txN).map D.str)):=fun l=>by rw[qS];rfl
  have g2:(h++[O.lst (([3,1,c,d,1].map txN).map D.str),O.lst [D.str [45]]])[h.length+1]?=some (O.lst [D.str [45]]):=by rw[jO];rfl
  have ws:([3,1,c,d,1].map txN).map D.str++[D.str [45]]=([3,1,c,d,1].map txN++[[45]]).map D.str:=rfl
  obtain ⟨g',e2⟩:=bI B (n+3) ANS ([3,1,c,d,1].map txN++[[45]]) (.tup [.str ANS,.int 3,.int 1,.int c,.int d,.int 1,.tup []]) h [O.lst (([3,1,c,d,1].map txN).map D.str),O.lst [D.str [45]],O.lst (([3,1,c,d,1].map txN++[[45]]).map D.str)] (h.length+2) (by rw[jO];rfl) (by decide) (by simp) (fun w hw=>by
   rcases List.mem_append.mp hw with hw | hw
   ·exact tx w hw
   ·rw[List.mem_singleton.mp hw];simp)
  refine⟨g',?_⟩;show Fy.fin (qB (qA fns B (n+3)) B kZ [some (.tup [.str ANS,.int 3,.int 1,.int c,.int d,.int 1,.tup []]),none,none] h)=_
  have l2:(([3,1,c,d,1].map txN++[[45]]).map D.str).length<=16777216:=by
   have:(([3,1,c,d,1].map txN++[[45]]).map D.str).length=6:=rfl
   omega
  show _=R.ok (D.str (zF [32] (ANS::([3,1,c,d,1].map txN++[[45]])))) _;generalize [3,1,c,d,1].map txN++[[45]]=vs at *;generalize ([3,1,c,d,1].map txN).map D.str=us at *;simp! only [kZ,ix,w8,w10,bV,qDy,cx,e,ix5,e3,i13,List.append_assoc,List.length_append,g1,g2,ws,if_pos l2,e2]
theorem qCf(v:Int)(h0:0<=v)(h1:v<9973):(vH v).length=4:=by
 have:=cR (m:=v.toNat) 3 (by have:(10:Nat) ^ (3+1)=10000:=(by decide);omega)
 unfold vH;rw[List.length_append,List.length_replicate];omega
theorem qBU(B n:Nat){p:Pce}(hp:okP p)(h:AH):∃ g,qA fns B (n+7) qCN [toD p] h=.ok (.str (wr p)) (h++g):=by
 rw[qNx];obtain ⟨g1,e1⟩:=qBd B n h hp;have e1:qA fns B (n+6) 37 [toD p] h=.ok (.bl true) (h++g1):=e1;obtain ⟨g2,e2⟩:=qJs B (n+2) hp (h++g1);have e2:qA fns B (n+6) 41 [toD p] (h++g1)=.ok (.str (bod p)) (h++g1++g2):=e2;have e3:=qJo B (n+5) (bod p) (h++g1++g2);have e3:qA fns B (n+6) 24 [.str (bod p)] (h++g1++g2)=.ok (.int (chk 7 (bod p))) (h++g1++g2):=e3;obtain ⟨c0,c1⟩:=qC1 (bod p) 7 (by omega) (by omega);have e4:=hV B (n+5) (chk 7 (bod p)).toNat (by omega) (h++g1++g2);rw[show (((chk 7 (bod p)).toNat:Nat):Int)=chk 7 (bod p) by omega] at e4;have e4:qA fns B (n+6) 25 [.int (chk 7 (bod p))] (h++g1++g2)=.ok (.str (txN (chk 7 (bod p)).toNat)) (h++g1++g2):=e4;have tl:(txN (chk 7 (bod p)).toNat).length<=10:=yV (by omega);have z:(0:Int)<=4/\(4:Int)<=1000/\jH (txN (chk 7 (bod p)).toNat)=true/\(txN (chk 7 (bod p)).toNat).length<=1000:=⟨by omega,by omega,cS _,by omega⟩;have bl:=qDH hp;have f4:List.replicate ((4:Int).toNat-(txN (chk 7 (bod p)).toNat).length) 48++txN (chk 7 (bod p)).toNat=vH (chk 7 (bod p)):=rfl;have fl:=qCf (chk 7 (bod p)) c0 c1;refine⟨g1++g2,?_⟩;rw[<- List.append_assoc];unfold wr;generalize vH (chk 7 (bod p))=q at *;generalize chk 7 (bod p)=v at *;generalize txN v.toNat=t at *;simp! only [nW,e1,qDS,e2,e3,e4,if_pos z.2.2,f4,if_pos (show (bod p).length+1<=16777216 by omega),List.length_append,fl,if_pos (show (bod p).length+1+4<=16777216 by omega),show (bod p).length<=16777215 by omega,show (bod p).length<=16777211 by omega]
def spl(c:Nat):Tx->Nat->Tx->List Tx
 | [],_,cur=>[cur]
 |x::r,0,cur=>[cur++x::r]
 |x::r,n+1,cur=>if x=c then cur::spl c r n [] else spl c r (n+1) (cur++[x])
def qA1(a:Tx)(s:Nat)(cuts:List Nat):List Tx:=((s::cuts.map (·+1)).zip (cuts++[a.length])).map fun p=>(a.drop p.1).take (p.2-p.1)
theorem dW(a:Tx)(c:Nat):∀ (r:Tx) (k s n:Nat),a.drop k=r->s<=k->k<=a.length->qA1 a s ((zM c k r).take n)=spl c r n ((a.drop s).take (k-s))
 | [],k,s,n,hr,hs,hk=>by
  have e:k=a.length:=by
   have:=congrArg List.length hr
   rw[List.length_drop] at this;simp at this;omega
  subst e;show qA1 a s (List.take n [])=_;rw[List.take_nil];rfl
 |x::r,k,s,0,hr,hs,hk=>by
  show [(a.drop s).take (a.length-s)]=[(a.drop s).take (k-s)++x::r];rw[<- hr,List.take_of_length_le (show (a.drop s).length<=a.length-s by rw[List.length_drop];omega)];congr 1
  have:=List.take_append_drop (k-s) (a.drop s)
  rw[List.drop_drop,show s+(k-s)=k by omega] at this;exact this.symm
 |x::r,k,s,n+1,hr,hs,hk=>by
  have hkl:k<a.length:=by
   have:=congrArg List.length hr
   rw[List.length_drop,List.length_cons] at this;omega
  have hr':a.drop (k+1)=r:=by rw[<- List.drop_drop,hr];rfl
  unfold zM spl
  by_cases e:x=c
  ·rw[if_pos e,if_pos e,List.take_succ_cons];have ih:=dW a c r (k+1) (k+1) n hr' (Nat.le_refl _) hkl;rw[Nat.sub_self,List.take_zero] at ih;rw[<- ih];rfl
  ·rw[if_neg e,if_neg e,dW a c r (k+1) s (n+1) hr' (by omega) hkl];congr 1
   have hx:a[k]?=some x:=by
    have:=List.getElem?_drop (xs:=a) (i:=k) (j:=0)
    rw[hr] at this;simpa using this.symm
   rw[show k+1-s=(k-s)+1 by omega,List.take_succ,List.getElem?_drop,show s+(k-s)=k by omega,hx];rfl
theorem qGp(a:Tx)(c n:Nat):jX a ((zM c 0 a).take n)=spl c a n []:=by
 have:=dW a c a 0 0 n rfl (Nat.le_refl _) (Nat.zero_le _)
 rw[Nat.sub_zero,List.take_zero] at this;exact this
theorem qAx(c:Nat):∀ (k:Nat) (a:Tx),(zM c k a).length<=a.length
 |_,[]=>Nat.le_refl _
 |k,x::r=>by
  have:=qAx c (k+1) r
  unfold zM;split
  ·simp only[List.length_cons];omega
  ·simp only[List.length_cons];omega
def kN(c:Nat)(a:Tx):List Tx:=spl c a a.length []
theorem qGr(a:Tx)(c:Nat):jX a (zM c 0 a)=kN c a:=by
 have:=qGp a c a.length
 rw[List.take_of_length_le (qAx c 0 a)] at this;exact this
theorem qAK(c:Nat):∀ (r:Tx) (n:Nat) (cur:Tx),spl c r n cur≠[]
 | [],_,_=>by simp[spl]
 |x::r,0,cur=>by simp[spl]
 |x::r,n+1,cur=>by
  unfold spl;split
  ·simp
  ·exact qAK c r _ _
theorem dB(c:Nat):∀ (r:Tx) (n:Nat) (cur:Tx),∀ w∈spl c r n cur,w.length<=cur.length+r.length
 | [],_,cur,w,hw=>by
  have hw:w∈[cur]:=hw;rw[List.mem_singleton.mp hw];simp
 |x::r,0,cur,w,hw=>by
  have hw:w∈[cur++x::r]:=hw;rw[List.mem_singleton.mp hw,List.length_append];exact Nat.le_refl _
 |x::r,n+1,cur,w,hw=>by
  unfold spl at hw;rw[List.length_cons];split at hw
  ·rcases List.mem_cons.mp hw with rfl | hw
   ·omega
   ·have:=dB c r n [] w hw
    simp only[List.length_nil] at this;omega
  ·have:=dB c r (n+1) (cur++[x]) w hw
   rw[List.length_append] at this;simp only[List.length_cons,List.length_nil] at this;omega
theorem dD(c:Nat):∀ (r:Tx) (n:Nat) (cur:Tx),(spl c r n cur).length<=r.length+1
 | [],_,_=>by simp[spl]
 |x::r,0,cur=>by simp[spl]
 |x::r,n+1,cur=>by
  unfold spl;split
  ·have:=dD c r n []
   simp only[List.length_cons];omega
  ·have:=dD c r (n+1) (cur++[x])
   simp only[List.length_cons];omega
theorem qBZ(B n:Nat)(ws:List Tx)(i:Nat)(h:AH)(hg:qC h i=some (ws.map D.str))(hw:∀ w∈ws,w.length<=1000)(hl:ws.length<=2000):∃ g,qA fns B (n+3) qKs [.ref i] h=.ok (.tup (ws.map zB)) (h++g):=by
 rw[qN2]
 obtain ⟨g,e1,e2⟩:=eN (zY (den (qA fns B (n+2)) oG) [some (.ref i)]) (fun d=>match d with | .str w=>zB w | _=>.non) i (ws.map D.str) h hg (by rw[List.length_map];omega) (fun x hx h hg=>by
  obtain ⟨w,hw',rfl⟩:=List.mem_map.mp hx;obtain ⟨g,e⟩:=qJQ B n w h (hw w hw');have e:qA fns B (n+2) 27 [.str w] h=.ok (zB w) (h++g):=e
  exact⟨g,by simp! only [vJ,oG,e]⟩)
 have e3:(ws.map D.str).map (fun d=>match d with | .str w=>zB w | _=>.non)=ws.map zB:=by rw[List.map_map];rfl
 rw[e3] at e1;have l2:(ws.map zB).length<=16777216:=by rw[List.length_map];omega
 have gl:qC (h++g++[O.lst (ws.map zB)]) (h++g).length=some (ws.map zB):=by rw[zA];rfl
 refine⟨g++[.lst (ws.map zB)],?_⟩;rw[<- List.append_assoc];simp! only [oH,hg,if_pos e2,e1,if_pos l2,gl]
def uG(ws:List Tx):Tx:=ws.getLastD []
theorem qNQ{α:Type}(k:α)(r:List α):qO (k::r) (some 1) (some (-1))=r.dropLast:=by
 unfold qO qU;simp only[show ¬ (1:Int)<0 by omega,if_false,show (-1:Int)<0 by omega,if_true,List.length_cons];rw[List.dropLast_eq_take];have h1:min (1:Int).toNat (r.length+1)=1:=by show min 1 (r.length+1)=1;omega
 have h2:(-1+((r.length+1:Nat):Int)).toNat=r.length:=by omega
 rw[h1,h2];rfl
theorem qNP{α:Type}(k:α)(r:List α):qO (k::r) (some 1) none=r:=by
 have:=nR (k::r) 1
 exact this
theorem qKT(k:Tx)(r:List Tx):((ixN ((k::r).map D.str).length (-1)).bind fun j=>((k::r).map D.str)[j]?)=some (.str (uG (k::r))):=by
 have e:ixN ((k::r).map D.str).length (-1)=some r.length:=by
  rw[List.length_map,List.length_cons];unfold ixN;rw[if_neg (by omega),if_pos (by omega)];congr 1;omega
 rw[e,Option.bind_some,List.getElem?_map]
 have:(k::r)[r.length]?=some (uG (k::r)):=by
  unfold uG;rw[List.getLastD_eq_getLast?,List.getLast?_eq_getElem?,List.length_cons,Nat.add_sub_cancel,List.getElem?_eq_getElem (by simp),Option.getD_some]
 rw[this];rfl
def dX:List Tx->D
 | []=>.non
 |k::r=>if k=ANS then .tup (.str k::(r.dropLast.map zB++[.tup []])) else .tup (.str k::r.map zB)
theorem qJP(B n:Nat)(b:Tx)(hb:b.length<=900)(h:AH)(hk:∀ k r,kN 32 b=k::r->k≠DATA/\(k=ANS->uG (k::r)=[45])):∃ g,qA fns B (n+5) qKr [.str b] h=.ok (dX (kN 32 b)) (h++g):=by
 rw[qN1];have pa:=qGr b 32;have hl:=dD 32 b b.length [];have hm:=dB 32 b b.length [];unfold dX;cases q:kN 32 b with
 |nil=>exact absurd q (qAK 32 b b.length [])
 |cons k r=>
  have hl:(k::r).length<=901:=by rw[<- q];unfold kN;omega
  have hm:∀ w∈k::r,w.length<=900:=fun w hw=>by
   have:=hm w (by unfold kN at q;rw[q];exact hw)
   simp only[List.length_nil] at this;omega
  rw[q] at pa;have pa:(jX b (zM 32 0 b)).map D.str=(k::r).map D.str:=by rw[pa]
  have l0:((k::r).map D.str).length<=16777216:=by rw[List.length_map];omega
  have gl0:∀ m:AH,qC (h++O.lst ((k::r).map D.str)::m) h.length=some ((k::r).map D.str):=fun m=>by rw[zA];rfl
  have ix0:((ixN ((k::r).map D.str).length 0).bind fun j=>((k::r).map D.str)[j]?)=some (.str k):=by
   have:=qB2 (ds:=(k::r).map D.str) (k:=0) (d:=.str k) rfl
   exact this
  have ixl:=qKT k r;have s256:32<256/\b.length<=1000000:=by omega
  have cm:qO ((k::r).map D.str) (some 1) (some (-1))=r.dropLast.map D.str:=by
   rw[List.map_cons,qNQ,List.map_dropLast]
  have ct:qO ((k::r).map D.str) (some 1) none=r.map D.str:=by rw[List.map_cons,qNP]
  have dl:r.dropLast.length<=900:=by rw[List.length_dropLast];simp only[List.length_cons] at hl;omega
  have rl:r.length<=900:=by simp only[List.length_cons] at hl;omega
  obtain ⟨e1,el⟩:=hk k r q;have eb:(k == ([100,97,116,97]:Tx))=false:=beq_eq_false_iff_ne.mpr e1
  by_cases e2:k=ANS
  ·simp only[if_pos e2];have eb2:(k == ([97,110,115,119,101,114]:Tx))=true:=by rw[e2];rfl
   have l6:(r.dropLast.map D.str).length<=16777216:=by rw[List.length_map];omega
   generalize hG:h++[O.lst ((k::r).map D.str),O.lst (r.dropLast.map D.str)]=G;have gG:qC G (h.length+1)=some (r.dropLast.map D.str):=by rw[<- hG,kG];rfl
   obtain ⟨g,e⟩:=qBZ B (n+1) r.dropLast (h.length+1) G gG (fun w hw=>by
    have:=hm w (List.mem_cons_of_mem _ (List.dropLast_subset _ hw))
    omega) (by omega)
   have e:qA fns B (n+4) 43 [.ref (h.length+1)] G=.ok (.tup (r.dropLast.map zB)) (G++g):=e;rw[el e2] at ixl;have e3:qA fns B (n+4) 44 [.str [45]] (G++g)=.ok (.tup []) (G++g):=rfl;have g5:qC (G++g) h.length=some ((k::r).map D.str):=jQ g (by rw[<- hG,zA];rfl);refine⟨[O.lst ((k::r).map D.str),O.lst (r.dropLast.map D.str)]++g,?_⟩;rw[<- List.append_assoc,hG];have n1:(r.dropLast.map zB).length<=900:=by rw[List.length_map];exact dl
   generalize r.dropLast.map zB=ds at *;generalize (k::r).map D.str=W at *;generalize r.dropLast.map D.str=W6 at *;simp! only [bJ,if_pos s256,s256.2,pa,if_pos l0,gl0,Option.bind_some,ix0,eb,oF,eb2,List.append_assoc,List.length_append,i13,cm,if_pos l6,hG,e,g5,ixl,e3,if_pos (show 1+ds.length<=16777216 by omega),if_pos (show ds.length+1+1<=16777216 by omega),show ds.length<=16777214 by omega]
  ·simp only[if_neg e2];have eb2:(k == ([97,110,115,119,101,114]:Tx))=false:=beq_eq_false_iff_ne.mpr e2;have l6:(r.map D.str).length<=16777216:=by rw[List.length_map];omega
   generalize hG:h++[O.lst ((k::r).map D.str),O.lst (r.map D.str)]=G;have gG:qC G (h.length+1)=some (r.map D.str):=by rw[<- hG,kG];rfl
   obtain ⟨g,e⟩:=qBZ B (n+1) r (h.length+1) G gG (fun w hw=>by
    have:=hm w (List.mem_cons_of_mem _ hw)
    omega) (by omega)
   have e:qA fns B (n+4) 43 [.ref (h.length+1)] G=.ok (.tup (r.map zB)) (G++g):=e;refine⟨[O.lst ((k::r).map D.str),O.lst (r.map D.str)]++g,?_⟩;rw[<- List.append_assoc,hG];have n1:(r.map zB).length<=900:=by rw[List.length_map];exact rl
   generalize r.map zB=ds at *;generalize (k::r).map D.str=W at *;generalize r.map D.str=W6 at *;simp! only [bJ,if_pos s256,s256.2,pa,if_pos l0,gl0,Option.bind_some,ix0,eb,oF,eb2,qDV,List.append_assoc,List.length_append,i13,ct,if_pos l6,hG,e,if_pos (show 1+ds.length<=16777216 by omega),show ds.length<=16777215 by omega]
def rb(x:Tx):Tx:=match zV 32 0 x with
 |some i=>x.take i
 |none=>[]
theorem qKR(x:Tx):((ixN ((jM x 32).map D.str).length 0).bind fun j=>((jM x 32).map D.str)[j]?)=some (.str (rb x)):=by
 unfold jM rb;cases zV 32 0 x <;> rfl
theorem qGT(x:Tx):(rb x).length<=x.length:=by
 unfold rb;split
 ·rw[List.length_take];omega
 ·simp
theorem qAJ{c:Nat}{r:Tx}{n:Nat}:∀ (w cur:Tx),c∉w->spl c (w++c::r) (n+1) cur=(cur++w)::spl c r n []
 | [],cur,_=>by
  show spl c (c::r) (n+1) cur=_;rw[spl,if_pos rfl,List.append_nil]
 |x::w,cur,h=>by
  have h1:x≠c:=fun e=>h (by rw[e];exact List.mem_cons_self ..);have ih:=qAJ (r:=r) (n:=n) w (cur++[x]) (fun z=>h (List.mem_cons_of_mem _ z));show spl c (x::(w++c::r)) (n+1) cur=_;rw[spl,if_neg h1,ih];simp
theorem qAM{c:Nat}:∀ (w:Tx) (n:Nat) (cur:Tx),c∉w->spl c w n cur=[cur++w]
 | [],n,cur,_=>by show [cur]=_;rw[List.append_nil]
 |x::w,0,cur,_=>rfl
 |x::w,n+1,cur,h=>by
  have h1:x≠c:=fun e=>h (by rw[e];exact List.mem_cons_self ..);rw[spl,if_neg h1,qAM w (n+1) (cur++[x]) (fun z=>h (List.mem_cons_of_mem _ z))];simp
theorem fM(c:Nat)(w:Tx):∀ ws:List Tx,ws≠[]->zF [c] (w::ws)=w++c::zF [c] ws
 | [],h=>absurd rfl h
 |v::r,_=>by
  show w++[c]++zF [c] (v::r)=_;rw[List.append_assoc];rfl
theorem qAL{c:Nat}:∀ (ws:List Tx) (w:Tx) (n:Nat),(∀ v∈w::ws,c∉v)->ws.length<=n->spl c (zF [c] (w::ws)) n []=w::ws
 | [],w,n,h,_=>by
  show spl c w n []=_;rw[qAM w n [] (h w (List.mem_cons_self ..))];rfl
 |v::r,w,0,h,hn=>by simp at hn
 |v::r,w,n+1,h,hn=>by
  rw[fM c w (v::r) (by simp),qAJ w [] (h w (List.mem_cons_self ..)),qAL r v n (fun u hu=>h u (List.mem_cons_of_mem _ hu)) (by simpa using hn)];rfl
theorem qB0(c:Nat):∀ (ws:List Tx) (w:Tx),ws.length+w.length<=(zF [c] (w::ws)).length
 | [],w=>by show 0+w.length<=w.length;omega
 |v::r,w=>by
  have:=qB0 c r v
  rw[fM c w (v::r) (by simp),List.length_append,List.length_cons,List.length_cons];omega
theorem qAN{c:Nat}(w:Tx)(ws:List Tx)(h:∀ v∈w::ws,c∉v):kN c (zF [c] (w::ws))=w::ws:=qAL ws w _ h (by have:=qB0 c ws w;omega)
theorem qBO{c x:Nat}:∀ ws:List Tx,x∈zF [c] ws->x=c\/∃ w∈ws,x∈w
 | [],h=>by cases h
 | [w],h=>.inr ⟨w,List.mem_cons_self ..,h⟩
 |w::v::r,h=>by
  rw[fM c w (v::r) (by simp),List.mem_append,List.mem_cons] at h;rcases h with h | h | h
  ·exact .inr ⟨w,List.mem_cons_self ..,h⟩
  ·exact .inl h
  ·rcases qBO (v::r) h with h | ⟨u,hu,h⟩
   ·exact .inl h
   ·exact .inr ⟨u,List.mem_cons_of_mem _ hu,h⟩
theorem gE{m x:Nat}(h:x∈txN m):48<=x/\x<=57:=by
 have:=cS m
 unfold jH at this;rw[List.all_eq_true] at this;exact of_decide_eq_true (this x h)
theorem qBr{c:Nat}:∀ (r:Tx) (k:Nat),c∉r->zV c k r=none
 | [],_,_=>rfl
 |x::r,k,h=>by
  have h1:x≠c:=fun e=>h (by rw[e];exact List.mem_cons_self ..);rw[zV,qBr r (k+1) (fun z=>h (List.mem_cons_of_mem _ z))];simp only;rw[if_neg h1]
theorem qBs{c:Nat}{r:Tx}(hr:c∉r):∀ (w:Tx) (k:Nat),zV c k (w++c::r)=some (k+w.length)
 | [],k=>by
  show zV c k (c::r)=_;rw[zV,qBr r (k+1) hr];simp
 |x::w,k=>by
  show zV c k (x::(w++c::r))=_;rw[zV,qBs hr w (k+1)];simp only[List.length_cons];congr 1;omega
theorem qCe{v:Int}{x:Nat}(h:x∈vH v):48<=x/\x<=57:=by
 unfold vH at h;rcases List.mem_append.mp h with h | h
 ·rw[(List.mem_replicate.mp h).2];omega
 ·exact gE h
theorem dN(p:Pce):rb (wr p)=bod p:=by
 unfold rb wr;rw[List.append_assoc];show (match zV 32 0 (bod p++32::vH (chk 7 (bod p))) with | some i=>(bod p++32::vH (chk 7 (bod p))).take i | none=>[])=bod p;rw[qBs (fun z=>by have:=qCe z;omega)];simp only;rw[Nat.zero_add,List.take_left]
theorem qBB(ns:List Nat):∀ w∈ns.map txN,(32:Nat)∉w:=fun w hw=>by
 obtain ⟨z,_,rfl⟩:=List.mem_map.mp hw;exact fun z=>by have:=gE z;omega
theorem dY{x:Nat}(h:48<=x/\x<=57):okC x=true:=by
 unfold okC;simp only[Bool.and_eq_true,decide_eq_true_eq,Bool.not_eq_true',decide_eq_false_iff_not];omega
theorem qES{p:Pce}(hp:okP p):(wr p).length=(bod p).length+5/\(wr p).length<=405:=by
 obtain ⟨c0,c1⟩:=qC1 (bod p) 7 (by omega) (by omega)
 have:=qCf _ c0 c1
 have:=qDH hp
 unfold wr;rw[List.length_append,List.length_append];simp only[List.length_cons,List.length_nil];omega
inductive Hrd:Pce->Prop where
 |hello (a b:Nat):Hrd ⟨HELLO,[a,b],.no⟩
 |ans (c d:Nat):Hrd ⟨ANS,[3,1,c,d,1],.sp⟩
theorem qLr{p:Pce}(hp:okP p)(hh:Hrd p):∃ r,kN 32 (bod p)=p.k::r/\p.k≠DATA/\(p.k=ANS->uG (p.k::r)=[45])/\dX (p.k::r)=toD p:=by
 obtain ⟨_,bd⟩:=hp
 have nsm:(p.ns.map txN).map zB=nsD p.ns:=by
  unfold nsD;rw[List.map_map];apply List.map_congr_left;intro n hn;exact qHd n (by have:=bd n hn;omega)
 cases hh with
 |hello a b=>
  have e:kN 32 (bod ⟨HELLO,[a,b],.no⟩)=HELLO::[a,b].map txN:=qAN HELLO ([a,b].map txN) fun v hv=>by
   rcases List.mem_cons.mp hv with rfl | hv
   ·decide
   ·exact qBB _ v hv
  refine⟨_,e,(by decide:HELLO≠DATA),fun z=>absurd z (by decide:HELLO≠ANS),?_⟩;show (if HELLO=ANS then D.tup (D.str HELLO::(([a,b].map txN).dropLast.map zB++[.tup []])) else D.tup (D.str HELLO::([a,b].map txN).map zB))=_;rw[if_neg (by decide)];show D.tup (D.str HELLO::([a,b].map txN).map zB)=D.tup (D.str HELLO::(nsD [a,b]++[]));rw[List.append_nil,<- nsm]
 |ans c d=>
  have e:kN 32 (bod ⟨ANS,[3,1,c,d,1],.sp⟩)=ANS::([3,1,c,d,1].map txN++[[45]]):=qAN ANS ([3,1,c,d,1].map txN++[[45]]) fun v hv=>by
   rcases List.mem_cons.mp hv with rfl | hv
   ·decide
   ·rcases List.mem_append.mp hv with hv | hv
    ·exact qBB _ v hv
    ·rw[List.mem_singleton.mp hv];decide
  refine⟨_,e,(by decide:ANS≠DATA),fun _=>rfl,?_⟩;have d1:([3,1,c,d,1].map txN++[[45]]).dropLast=[3,1,c,d,1].map txN:=List.dropLast_concat;show (if ANS=ANS then D.tup (D.str ANS::(([3,1,c,d,1].map txN++[[45]]).dropLast.map zB++[.tup []])) else D.tup (D.str ANS::([3,1,c,d,1].map txN++[[45]]).map zB))=D.tup (D.str ANS::(nsD [3,1,c,d,1]++[.tup []]));rw[if_pos rfl,d1,<- nsm]
theorem qOw{p:Pce}(hh:Hrd p):∀ x∈bod p,okC x=true:=by
 intro x hx;rcases qBO _ hx with rfl | ⟨w,hw,hx2⟩
 ·decide
 ·unfold wds at hw;cases hh with
  |hello a b=>
   rcases List.mem_cons.mp hw with rfl | hw
   ·exact (by decide:∀ z∈HELLO,okC z=true) x hx2
   ·rcases List.mem_append.mp hw with hw | hw
    ·obtain ⟨z,_,rfl⟩:=List.mem_map.mp hw;exact dY (gE hx2)
    ·cases hw
  |ans c d=>
   rcases List.mem_cons.mp hw with rfl | hw
   ·exact (by decide:∀ z∈ANS,okC z=true) x hx2
   ·rcases List.mem_append.mp hw with hw | hw
    ·obtain ⟨z,_,rfl⟩:=List.mem_map.mp hw;exact dY (gE hx2)
    ·have hw:w∈[[45]]:=hw;rw[List.mem_singleton.mp hw] at hx2;rw[List.mem_singleton.mp hx2];decide
theorem qER{p:Pce}(hh:Hrd p):(wr p).all okC=true:=by
 rw[List.all_eq_true];intro x hx;unfold wr at hx;rw[List.mem_append,List.mem_append] at hx;rcases hx with (hx | hx) | hx
 ·exact qOw hh x hx
 ·rw[List.mem_singleton.mp hx];decide
 ·exact dY (qCe hx)
theorem qJK(B n:Nat){p:Pce}(hp:okP p)(hh:Hrd p)(h:AH):∃ g,qA fns B (n+8) qCO [.str (wr p)] h=.ok (toD p) (h++g):=by
 rw[qN0];have hl:=(qES hp).2;have e1:=qBc B (n+5) (wr p) h (by omega);rw[qER hh] at e1;generalize hH:h++[.lst ((wr p).map fun c=>.bl (okC c))]=H at e1;have e1:qA fns B (n+7) 22 [.str (wr p)] h=.ok (.bl true) H:=e1;have ir:=qKR (wr p);have rl:=qGT (wr p);obtain ⟨r,q1,q2,q3,q4⟩:=qLr hp hh
 obtain ⟨g2,e2⟩:=qJP B (n+2) (rb (wr p)) (by omega) H (fun k r' z=>by
  rw[dN,q1] at z;cases z
  exact⟨q2,q3⟩)
 rw[dN,q1,q4,<- dN] at e2;have e2:qA fns B (n+7) 45 [.str (rb (wr p))] H=.ok (toD p) (H++g2):=e2;obtain ⟨g3,e3⟩:=qBd B (n+1) (H++g2) hp;have e3:qA fns B (n+7) 37 [toD p] (H++g2)=.ok (.bl true) (H++g2++g3):=e3;obtain ⟨g4,e4⟩:=qBU B n hp (H++g2++g3);have e4:qA fns B (n+7) 42 [toD p] (H++g2++g3)=.ok (.str (wr p)) (H++g2++g3++g4):=e4;refine⟨[.lst ((wr p).map fun c=>.bl (okC c))]++g2++g3++g4,?_⟩;rw[<- List.append_assoc,<- List.append_assoc,<- List.append_assoc,hH];generalize wr p=wp at *;generalize toD p=d at *;generalize rb wp=r at *;simp! only [oE,e1,qDT,if_pos (show wp.length<=1000000 by omega),ir,e2,e3,e4,qDU]
def KL(h h':AH):Prop:=h.length<=h'.length/\∀ i xs,qC h i=some xs->h'[i]?=h[i]?
theorem KL.refl(h:AH):KL h h:=⟨Nat.le_refl _,fun _ _ _=>rfl⟩
theorem aP{h h':AH}{i:Nat}(e:h'[i]?=h[i]?):qC h' i=qC h i:=by
 unfold qC;rw[e]
theorem KL.gl{h h':AH}(k:KL h h'){i:Nat}{xs:List D}(e:qC h i=some xs):qC h' i=some xs:=by
 rw[aP (k.2 i xs e)];exact e
theorem KL.trans{h h' h'':AH}(a:KL h h')(b:KL h' h''):KL h h'':=⟨Nat.le_trans a.1 b.1,fun i xs e=>by rw[b.2 i xs (a.gl e),a.2 i xs e]⟩
theorem jK{h:AH}{i:Nat}{xs:List D}(e:qC h i=some xs):i<h.length:=by
 unfold qC at e;cases q:h[i]? with
 |none=>rw[q] at e;cases e
 |some o=>exact (List.getElem?_eq_some_iff.mp q).1
theorem KL.app(h g:AH):KL h (h++g):=⟨by simp,fun i xs e=>List.getElem?_append_left (jK e)⟩
theorem KL.set{h:AH}{i:Nat}(o:O)(hi:qC h i=none):KL h (h.set i o):=⟨by simp,fun j xs e=>List.getElem?_set_ne (fun z=>by subst z;rw[e] at hi;cases hi)⟩
theorem jP{h:AH}{i c:Nat}{fs:List (Nat × D)}(e:h[i]?=some (.ins c fs)):qC h i=none:=by unfold qC;rw[e]
theorem vS{h:AH}{i:Nat}{kvs:List (Ky × D)}(e:h[i]?=some (.dct kvs)):qC h i=none:=by unfold qC;rw[e]
theorem qY{h:AH}{i:Nat}{xs:List D}(e:h[i]?=some (.lst xs)):qC h i=some xs:=by unfold qC;rw[e]
theorem zD{h:AH}{i:Nat}{o:O}(g:AH)(e:h[i]?=some o):(h++g)[i]?=some o:=by
 rw[List.getElem?_append_left (List.getElem?_eq_some_iff.mp e).1];exact e
theorem zH{h:AH}{i:Nat}{o:O}(e:h[i]?=some o)(o':O):(h.set i o')[i]?=some o':=by
 rw[List.getElem?_set,if_pos rfl,if_pos (List.getElem?_eq_some_iff.mp e).1]
theorem qAT{h:AH}{i:Nat}{o:O}(g:AH)(e:h[i]?=some o)(o':O):(h++g).set i o'=h.set i o'++g:=List.set_append_left _ _ (List.getElem?_eq_some_iff.mp e).1
theorem gM{h:AH}{i:Nat}{o:O}(hi:h[i]?=some o):h.set i o=h:=by
 obtain ⟨hl,rfl⟩:=List.getElem?_eq_some_iff.mp hi;exact List.set_getElem_self hl
def giv(m:Int)(t:Tx)(s c:Int)(e es ih:Bool):List (Nat × D):=
 [(kF,.int m),(fA,.str t),(fE,.int s),(fL,.int c),(fF,.int 1),(fB,.tup []),(fI,.bl e),(fJ,.bl es),(fH,.bl ih),(fK,.bl false)]
section
variable (m:Int)(t:Tx)(s c:Int)(e es ih:Bool)
theorem uK:qJ kF (giv m t s c e es ih)=some (.int m):=rfl
theorem kH:qJ fA (giv m t s c e es ih)=some (.str t):=rfl
theorem kR:qJ fE (giv m t s c e es ih)=some (.int s):=rfl
theorem aR:qJ fL (giv m t s c e es ih)=some (.int c):=rfl
theorem uL:qJ fF (giv m t s c e es ih)=some (.int 1):=rfl
theorem fZ:qJ fB (giv m t s c e es ih)=some (.tup []):=rfl
theorem yL:qJ fI (giv m t s c e es ih)=some (.bl e):=rfl
theorem wI:qJ fJ (giv m t s c e es ih)=some (.bl es):=rfl
theorem qCb:qJ fH (giv m t s c e es ih)=some (.bl ih):=rfl
theorem qCc:qJ fK (giv m t s c e es ih)=some (.bl false):=rfl
theorem uM:(giv m t s c e es ih).length=10:=rfl
theorem qLy(t':Tx):qZ fA (.str t') (giv m t s c e es ih)=giv m t' s c e es ih:=rfl
theorem qL0(v:Int):qZ fE (.int v) (giv m t s c e es ih)=giv m t v c e es ih:=rfl
theorem qL6(v:Int):qZ fL (.int v) (giv m t s c e es ih)=giv m t s v e es ih:=rfl
theorem qL1:qZ fF (.int 1) (giv m t s c e es ih)=giv m t s c e es ih:=rfl
theorem qLz:qZ fB (.tup []) (giv m t s c e es ih)=giv m t s c e es ih:=rfl
theorem qL4(b:Bool):qZ fI (.bl b) (giv m t s c e es ih)=giv m t s c b es ih:=rfl
theorem qL3(b:Bool):qZ fJ (.bl b) (giv m t s c e es ih)=giv m t s c e b ih:=rfl
theorem qL2(b:Bool):qZ fH (.bl b) (giv m t s c e es ih)=giv m t s c e es b:=rfl
theorem qL5:qZ fK (.bl false) (giv m t s c e es ih)=giv m t s c e es ih:=rfl
theorem qIm:qJ 513020621925 (giv m t s c e es ih)=none:=rfl
theorem qIo:qJ 112603010003816 (giv m t s c e es ih)=none:=rfl
theorem qIp:qJ 7020675825757480292 (giv m t s c e es ih)=none:=rfl
theorem qIn:qJ 507330387524976831460456 (giv m t s c e es ih)=none:=rfl
theorem eI:qJ 521332113934423763874931 (giv m t s c e es ih)=none:=rfl
theorem qBJ:qJ 2036453570056342827636 (giv m t s c e es ih)=none:=rfl
theorem qBM:qJ 418346264942 (giv m t s c e es ih)=none:=rfl
theorem qBK:qJ 135859872665656628713974126 (giv m t s c e es ih)=none:=rfl
theorem qBL:qJ 2279350429444218050288784390251891 (giv m t s c e es ih)=none:=rfl
end
theorem qNY:([306712044914,1215263604]:List Nat).contains qH=true:=by decide
theorem bF:([306712044914,358300611685,362411681138]:List Nat).contains qH=true:=by decide
theorem uR:([306712044914]:List Nat).contains qH=true:=by decide
theorem qCz:([306712044914,362411681138]:List Nat).contains qH=true:=by decide
theorem qCy:([306712044914,358300611685]:List Nat).contains qH=true:=by decide
theorem qJi(B n:Nat)(h:AH)(m:Int):qA fns B (n+1) qLa [.ref h.length,.int m] (h++[.ins qH []])=.ok .non (h++[.ins qH (giv m [] 0 0 false false false)]):=by
 rw[qOr];simp! only [sY,qS,qNY,bF,uR,qCz,qCy,jW,List.length_nil,List.length_cons,show 0<1000 by omega,i12];rfl
section
variable {B n:Nat}{h:AH}{i:Nat}{m:Int}{t y:Tx}{s c:Int}{e es ih:Bool}
theorem qJh(hi:h[i]?=some (.ins qH (giv m [] s c false es ih)))(hy:1<=y.length)(hy2:y.length<=200):qA fns B (n+1) qLY [.ref i,.str y] h=.ok .non (h.set i (.ins qH (giv m y s c false es ih))):=by
 rw[qOp];have hz:y.length<=16777216:=by omega
 have d1:decide ((1:Int)<=(y.length:Int))=true:=decide_eq_true (by omega);have d2:decide ((y.length:Int)<=200)=true:=decide_eq_true (by omega);have d3:decide ((2000:Int)<((0:Nat):Int)+(y.length:Int))=false:=decide_eq_false (by omega);simp! only [sP,hi,yL,qEA,if_pos hz,d1,d2,qEB,kH,List.length_nil,i12,d3,qEC,Nat.zero_add,List.nil_append,bF,uM,show 10<1000 by omega,qLy]
theorem qJj(hi:h[i]?=some (.ins qH (giv m t s c false es ih))):qA fns B (n+1) qLb [.ref i] h=.ok .non (h.set i (.ins qH (giv m t s c true es ih))):=by
 rw[qOs];simp! only [sZ,hi,yL,qEK,uR,uM,show 10<1000 by omega,qL4]
end
section
variable {B n:Nat}{h:AH}{i:Nat}{m:Int}{t:Tx}{s c:Int}{e es ih:Bool}
theorem qJp(hB:1<=B)(v w:Int):qA fns B (n+1) qLC [.tup [],.int v,.int w] h=.ok (.int 0) h:=by
 obtain ⟨k,rfl⟩:∃ k,B=k+1:=⟨B-1,by omega⟩;rw[qOS];simp! only [pZ,qDv,vL,List.length_nil,qDw,i19]
theorem qBg{v:Int}(hv:0<=v):qA fns B (n+1) qLF [.int v] h=.ok .non h:=by
 rw[qOV];simp! only [rE,show decide (v<0)=false from decide_eq_false (by omega)]
theorem qJn{v w:Int}(hv:0<=v)(hw:v<=w):qA fns B (n+2) qLD [.int v,.int w] h=.ok .non h:=by
 rw[qOT];simp! only [rA,qBg hv,show decide (w<v)=false from decide_eq_false (by omega)]
theorem qBf(hB:1<=B){v:Int}(hv:0<=v):qA fns B (n+2) qLB [.tup [],.int v] h=.ok (.tup []) h:=by
 rw[qOR];have e0:qO ([]:List D) (some 0) none=[]:=rfl;simp! only [pY,qBg hv,qJp hB,e0,List.length_nil,i19,qDu]
theorem qBe(hB:1<=B){v w:Int}(hv:0<=v)(hw:v<=w):qA fns B (n+3) qLA [.tup [],.int v,.int w] h=.ok (.tup (if v<w then [.tup [.int v,.int w]] else [])) (h++[.lst (if v<w then [.tup [.int v,.int w]] else [])]):=by
 rw[qOO];simp! only [pU,qJn hv hw,qBf hB hv,zS,qDq]
 by_cases q:v<w
 ·simp! only [q,qDr,zA,zW,qS,List.getElem?_cons_zero,List.length_nil,i14,jW,List.set_cons_zero,List.nil_append,pT,i11,List.length_cons,if_true,show 0+1+1<=16777216 by omega]
 ·simp! only [q,pT,zA,zW,if_false]
theorem qCs(x:Tx)(hx:1<=x.length):qO x (some 0) (some 1)=x.take 1:=by
 unfold qO qU;simp only[if_neg (show ¬ (1:Int)<0 by omega),if_neg (show ¬ (0:Int)<0 by omega),show (1:Int).toNat=1 from rfl,show (0:Int).toNat=0 from rfl,Nat.zero_min,Nat.min_eq_left hx,List.drop_zero,Nat.sub_zero]
def jL(y:Tx):D:=.tup [.str [100,97,116,97],.int 0,.str y]
def uN:D:=.tup [.str [101,110,100],.int 0]
theorem qBb(hi:h[i]?=some (.ins qH (giv m t 0 c e es ih)))(ht:1<=t.length)(ht2:t.length<=200)(hm:1<=m) :
  qA fns B (n+1) yK [.ref i] h=.ok (jL (t.take 1)) (h.set i (.ins qH (giv m t 1 c e es ih))):=by
 rw[bH];have hz:t.length<=16777216:=by omega
 have e1:(if (1:Int)<0+m then (1:Int) else 0+m)=1:=by split <;> omega
 have e2:(if (t.length:Int)<1 then (t.length:Int) else 1)=1:=by split <;> omega
 simp! only [yT,hi,kR,uK,uL,kH,if_pos hz,e1,e2,show decide ((0:Int)<1)=true from rfl,qEI,uR,uM,show 10<1000 by omega,qL0,zH hi,i10,qCs t ht];rfl
theorem eP(hi:h[i]?=some (.ins qH (giv m t 1 c e es ih)))(ht:1<=t.length)(ht2:t.length<=200)(hm:1<=m)(he:e=true->t.length≠1) :
  qA fns B (n+1) yK [.ref i] h=.ok .non h:=by
 rw[bH];have hz:t.length<=16777216:=by omega
 have e1:(if (1:Int)<1+m then (1:Int) else 1+m)=1:=by split <;> omega
 have e2:(if (t.length:Int)<1 then (t.length:Int) else 1)=1:=by split <;> omega
 simp! only [yT,hi,kR,uK,uL,kH,if_pos hz,e1,e2,show decide ((1:Int)<1)=false from rfl,cK,yL];cases e with
 |false=>simp! only [gC]
 |true=>
  have d1:((1:Int) == (t.length:Int))=false:=by
   have:=he rfl
   rw[beq_eq_false_iff_ne];omega
  simp! only [hi,wI];cases es with
  |false=>simp! only [hi,kH,if_pos hz,d1,gC]
  |true=>simp! only [gC]
theorem qJR(hi:h[i]?=some (.ins qH (giv m [] 0 c true false ih)))(hm:1<=m) :
  qA fns B (n+1) yK [.ref i] h=.ok uN (h.set i (.ins qH (giv m [] 0 c true true ih))):=by
 rw[bH];have e1:(if (1:Int)<0+m then (1:Int) else 0+m)=1:=by split <;> omega
 simp! only [yT,hi,kR,uK,uL,kH,List.length_nil,i12,e1,show (if ((0:Nat):Int)<1 then ((0:Nat):Int) else 1)=0 from rfl,show decide ((0:Int)<0)=false from rfl,cK,yL,wI,show ((0:Int) == ((0:Nat):Int))=true from rfl,qEH,uR,uM,show 10<1000 by omega,qL3,i11];rfl
theorem qBa(hi:h[i]?=some (.ins qH (giv m [] 0 c e e ih)))(hm:1<=m) :
  qA fns B (n+1) yK [.ref i] h=.ok .non h:=by
 rw[bH];have e1:(if (1:Int)<0+m then (1:Int) else 0+m)=1:=by split <;> omega
 simp! only [yT,hi,kR,uK,uL,kH,List.length_nil,i12,e1,show (if ((0:Nat):Int)<1 then ((0:Nat):Int) else 1)=0 from rfl,show decide ((0:Int)<0)=false from rfl,cK,yL,wI];cases e <;> simp! only [hi,wI,gC]
theorem tbg(k:Nat):tbN [(306712044914,k)] qH=some k:=rfl
theorem eO(hB:2<=B)(hi:h[i]?=some (.ins qH (giv m t s c e es ih))){fs:List (Nat × D)}{ds:List D}
  (en:qA fns B (n+1) yK [.ref i] (h++[.lst []])=.ok (.tup ds) ((h++[O.lst []]).set i (.ins qH fs))) :
  qA fns B (n+2) aM [.ref i,.int 1] h=.ok (.ref h.length) (h.set i (.ins qH fs)++[.lst [.tup ds]]):=by
 obtain ⟨k,rfl⟩:∃ k,B=k+2:=⟨B-2,by omega⟩;rw[qDC];have hj:=zD [.lst []] hi;have hl:(h.set i (.ins qH fs)).length=h.length:=by simp
 rw[qAT _ hi] at en;have g1:qC (h.set i (.ins qH fs)++[.lst []]) h.length=some []:=by rw[<- hl,zA];rfl
 have g2:(h.set i (.ins qH fs)++[O.lst []])[h.length]?=some (.lst []):=by rw[<- hl,qS];rfl
 have g3:(h.set i (.ins qH fs)++[O.lst []]).set h.length (.lst [.tup ds])=h.set i (.ins qH fs)++[O.lst [.tup ds]]:=by rw[<- hl,jW];rfl
 have g4:qC (h.set i (.ins qH fs)++[.lst [.tup ds]]) h.length=some [.tup ds]:=by rw[<- hl,zA];rfl
 simp! only [cJ,vL,sS,zA,zW,List.length_nil,show decide (((0:Nat):Int)<1)=true from rfl,sV,hj,qBJ,tbg,en,qEG,g1,g2,i14,List.nil_append,g3,g4,List.length_cons,show decide (((0+1:Nat):Int)<1)=false from rfl,sU]
theorem uF(hB:2<=B)(hi:h[i]?=some (.ins qH (giv m t s c e es ih)))
  (en:qA fns B (n+1) yK [.ref i] (h++[.lst []])=.ok .non (h++[.lst []])) :
  qA fns B (n+2) aM [.ref i,.int 1] h=.ok (.ref h.length) (h++[.lst []]):=by
 obtain ⟨k,rfl⟩:∃ k,B=k+2:=⟨B-2,by omega⟩;rw[qDC];have hj:=zD [.lst []] hi;simp! only [cJ,vL,sS,zA,zW,List.length_nil,show decide (((0:Nat):Int)<1)=true from rfl,sV,hj,qBJ,tbg,en,sU]
end
section
variable {B n:Nat}{h:AH}{i:Nat}{m:Int}{t:Tx}{s c:Int}{e es ih:Bool}
theorem qJN(hB:1<=B)(hi:h[i]?=some (.ins qH (giv m t s c e es ih)))(hc:0<=c)(hs:s<=c):qA fns B (n+4) qCS [.ref i] h=.ok (.ref h.length) (h++[.lst [],.lst []]):=by
 rw[qDA];have e1:(if s > c then s else c)=c:=by split <;> omega
 have hj:=zD [.lst []] hi;have hh:=qBe (B:=B) (n:=n) (h:=h++[.lst []]) hB hc (Int.le_refl c);rw[if_neg (show ¬ c<c by omega),List.append_assoc] at hh;simp! only [cH,hj,fZ,aR,kR,e1,hh,zS,sQ]
theorem qJM(hB:1<=B)(hi:h[i]?=some (.ins qH (giv m t 1 0 e es ih)))(ht:1<=t.length)(ht2:t.length<=200)(hm:1<=m)(hm2:m<=40):qA fns B (n+4) qCS [.ref i] h=.ok (.ref h.length) (h++[.lst [jL (t.take 1)],.lst [.tup [.int 0,.int 1]]]):=by
 rw[qDA];have hj:=zD [.lst []] hi;have hk:=zD [.lst [],.lst [.tup [.int 0,.int 1]]] hi;have hz:t.length<=16777216:=by omega
 have hh:=qBe (B:=B) (n:=n) (h:=h++[.lst []]) (v:=0) (w:=1) hB (by omega) (by omega);rw[if_pos (show (0:Int)<1 by omega),List.append_assoc] at hh;have hh:qA fns B (n+3) 6 [D.tup [],D.int 0,D.int 1] (h++[O.lst []])=R.ok (D.tup [D.tup [D.int 0,D.int 1]]) (h++[.lst [],.lst [.tup [.int 0,.int 1]]]):=hh;have e1:(if (1:Int) > 0 then (1:Int) else 0)=1:=rfl
 have e2:nS 0 1 m=1:=by
  unfold nS;rw[if_pos (by omega),show (1:Int)-0-1=0 by omega,Int.zero_ediv];rfl
 have e3:(if (1:Int)<0+m then (1:Int) else 0+m)=1:=by split <;> omega
 have i0:((ixN 2 0).bind fun j=>[D.int 0,.int 1][j]?)=some (.int 0):=rfl;have i1:((ixN 2 1).bind fun j=>[D.int 0,.int 1][j]?)=some (.int 1):=rfl
 have r1:wS 0 m 1=[.int 0]:=by
  show [D.int (0+((0:Nat):Int)*m)]=_;rw[show (0:Int)+((0:Nat):Int)*m=0 by simp]
 have c1:(zI 0/\zI 1)/\0<m/\m<1073741824:=⟨⟨by decide,by decide⟩,by omega,by omega⟩;simp! only [cH,hj,fZ,aR,kR,e1,hh,zS,gF,qED,hk,uK,i0,i1,if_pos c1,e2,r1,qEE,zA,zW,kH,e3,if_pos hz,qCs t ht,i10,qS,List.getElem?_cons_zero,List.length_nil,i14,List.nil_append,jW,List.set_cons_zero,sQ];rfl
theorem qNR(d:D):qO [d] none (some 1)=[d]:=rfl
theorem qBi(hB:1<=B)(hi:h[i]?=some (.ins qH (giv m t 1 0 e es ih)))(ht:1<=t.length)(ht2:t.length<=200)(hm:1<=m)(hm2:m<=40):qA fns B (n+6) fV [.ref i,.int 1] h=.ok (.ref (h.length+2)) (h++[.lst [jL (t.take 1)],.lst [.tup [.int 0,.int 1]],.lst [jL (t.take 1)]]):=by
 rw[qDD];have hp:=qJM (B:=B) (n:=n) hB hi ht ht2 hm hm2
 have e2:qA fns B (n+5) 15 [.ref i] h=.ok (.ref h.length) (h++[.lst [jL (t.take 1)],.lst [.tup [.int 0,.int 1]]]):=by
  rw[qDB];simp! only [cI,hi,qBL,tbg,hp,zA,zW,List.length_cons,List.length_nil,show decide ((0:Int)<((0+1:Nat):Int))=true from rfl]
 simp! only [cL,hi,qBK,tbg,e2,zA,zW,qNR,newL,jU,jT,List.length_cons,List.length_nil,i15,List.append_assoc,List.length_append]
theorem eT(hB:1<=B)(hi:h[i]?=some (.ins qH (giv m t s c e es ih)))(hc:0<=c)(hs:s<=c)(ht2:t.length<=200){ds:List D}(hd:ds.length<=1)
  (ea:∀ H:AH,H[i]?=some (.ins qH (giv m t s c e es ih))->qB (qA fns B (n+4)) B vW [some (.ref i),some (.ref h.length)] H=.rt (.ref H.length) (H++[.lst ds])):qA fns B (n+6) fV [.ref i,.int 1] h=.ok (.ref (h.length+3)) (h++[.lst [],.lst [],.lst ds,.lst ds]):=by
 rw[qDD];have hp:=qJN (B:=B) (n:=n) hB hi hc hs
 have e2:qA fns B (n+5) 15 [.ref i] h=.ok (.ref (h.length+2)) (h++[.lst [],.lst [],.lst ds]):=by
  rw[qDB];have ea:=ea (h++[.lst [],.lst []]) (zD _ hi);rw[List.append_assoc,List.length_append] at ea;simp! only [cI,hi,qBL,tbg,hp,zA,zW,List.length_nil,i19,ea]
 have gl:qC (h++[.lst [],.lst [],.lst ds]) (h.length+2)=some ds:=by rw[kG];rfl
 have ec:qO ds none (some 1)=ds:=by
  match ds,hd with
  | [],_=>rfl
  | [d],_=>rfl
 simp! only [cL,hi,qBK,tbg,e2,gl,ec,newL,jU,jT,if_pos (show ds.length<=16777216 by omega),List.append_assoc,List.length_append]
theorem qRg(F:Nat->List D->M D)(x1:Option D)(hi:h[i]?=some (.ins qH (giv m t 1 c e false true)))(ht:t.length=1):qB F B vW [some (.ref i),x1] h=.rt (.ref h.length) (h++[.lst []]):=by
 simp! only [vW,hi,wI,sR,kR,kH,ht,i13,show decide ((1:Int)<((1:Nat):Int))=false from rfl,qCb,qEF]
theorem qRh(F:Nat->List D->M D)(x1:Option D)(hi:h[i]?=some (.ins qH (giv m [] s c e true ih))):qB F B vW [some (.ref i),x1] h=.rt (.ref h.length) (h++[.lst [uN]]):=by
 simp! only [vW,hi,wI,qCc,kH,List.length_nil,i12,i11,newL,jU,jT,List.length_cons,i15];rfl
theorem qRf(F:Nat->List D->M D)(x1:Option D)(hi:h[i]?=some (.ins qH (giv m [] 0 c e false false))):qB F B vW [some (.ref i),x1] h=.rt (.ref h.length) (h++[.lst [jL []]]):=by
 simp! only [vW,hi,wI,sR,kR,kH,List.length_nil,i12,i19,qCb,i10,newL,jU,jT,List.length_cons,i15];rfl
end
inductive Gq:Bool->Tx->Int->Int->Bool->Bool->Bool->D->Prop where
 |long (x y:Nat) (r:Tx) (s:Int) (e:Bool):okC x=true->(s=0\/s=1)->Gq false (x::y::r) s 0 e false false (jL [x])
 |short (x:Nat) (s:Int) (ih:Bool):okC x=true->(s=0\/s=1)->Gq true [x] s 0 false false ih (jL [x])
 |idle (x:Nat):okC x=true->Gq true [x] 1 1 false false true .non
 |fin (es:Bool):Gq false [] 0 0 true es false uN
 |new:Gq false [] 0 0 false false false (jL [])
def hst(m b:Int)(q gd td:Nat)(sl:D):List (Nat × D):=
 [(vD,.int 9),(kF,.int m),(vQ,.int b),(wG,.int 1),(yD,.ref q),(yE,.ref gd),(uH,.ref td),(aH,sl)]
section
variable (m b:Int)(q gd td:Nat)(sl:D)
theorem qLw:qJ kF (hst m b q gd td sl)=some (.int m):=rfl
theorem fX:qJ vQ (hst m b q gd td sl)=some (.int b):=rfl
theorem wH:qJ yD (hst m b q gd td sl)=some (.ref q):=rfl
theorem vG:qJ yE (hst m b q gd td sl)=some (.ref gd):=rfl
theorem qLu:qJ uH (hst m b q gd td sl)=some (.ref td):=rfl
theorem qLx:qJ aH (hst m b q gd td sl)=some sl:=rfl
theorem qCa:(hst m b q gd td sl).length=8:=rfl
theorem qLi(g:Nat):qZ yE (.ref g) (hst m b q gd td sl)=hst m b q g td sl:=rfl
theorem qLg(g:Nat):qZ uH (.ref g) (hst m b q gd td sl)=hst m b q gd g sl:=rfl
theorem qLh(d:D):qZ aH d (hst m b q gd td sl)=hst m b q gd td d:=rfl
theorem aO:qJ 444150998386 (hst m b q gd td sl)=none:=rfl
theorem qLk:qJ 513020621925 (hst m b q gd td sl)=none:=rfl
theorem qLn:qJ 112603010003816 (hst m b q gd td sl)=none:=rfl
theorem qCW:qJ 32497656997703027 (hst m b q gd td sl)=none:=rfl
theorem qCU:qJ 1953063787 (hst m b q gd td sl)=none:=rfl
theorem qLl:qJ 583674933970360372264291001892499059 (hst m b q gd td sl)=none:=rfl
theorem qCY:qJ 34780127400972871403634519652 (hst m b q gd td sl)=none:=rfl
theorem qLm:qJ 8100116882379468646 (hst m b q gd td sl)=none:=rfl
theorem aN:qJ 1751474546 (hst m b q gd td sl)=none:=rfl
theorem qCZ:qJ 7799763779075547922881686105459 (hst m b q gd td sl)=none:=rfl
theorem qCV:qJ 8386102064528189806 (hst m b q gd td sl)=none:=rfl
theorem qLo:qJ 117787394794711584694431077 (hst m b q gd td sl)=none:=rfl
theorem qCX:qJ 495873782388 (hst m b q gd td sl)=none:=rfl
end
theorem tbh(k:Nat):tbN [(1215263604,k)] qW=some k:=rfl
theorem tY(j k:Nat):tbN [(306712044914,j),(1215263604,k)] qH=some j:=rfl
theorem clh:([1215263604]:List Nat).contains qW=true:=by decide
def Fr(a:Nat)(h h':AH):Prop:=h.length<=h'.length/\∀ i,i<h.length->i≠a->h'[i]?=h[i]?
theorem Fr.app(a:Nat)(h g:AH):Fr a h (h++g):=⟨by simp,fun i hi _=>List.getElem?_append_left hi⟩
theorem Fr.set(a:Nat)(h:AH)(o:O):Fr a h (h.set a o):=⟨by simp,fun i _ hn=>List.getElem?_set_ne (Ne.symm hn)⟩
theorem Fr.trans{a:Nat}{h h' h'':AH}(x:Fr a h h')(y:Fr a h' h''):Fr a h h'':=⟨Nat.le_trans x.1 y.1,fun i hi hn=>by rw[y.2 i (Nat.lt_of_lt_of_le hi x.1) hn,x.2 i hi hn]⟩
theorem Fr.get{a:Nat}{h h':AH}(x:Fr a h h'){i:Nat}{o:O}(e:h[i]?=some o)(hn:i≠a):h'[i]?=some o:=by
 rw[x.2 i (List.getElem?_eq_some_iff.mp e).1 hn];exact e
theorem Fr.kl{a:Nat}{h h':AH}(x:Fr a h h')(ha:qC h a=none):KL h h':=⟨x.1,fun i xs e=>x.2 i (jK e) fun z=>by subst z;rw[e] at ha;cases ha⟩
def Gv(m:Int)(h:AH)(a:Nat)(sh:Bool)(d:D):Prop:=∃ t s c e es ih,h[a]?=some (.ins qH (giv m t s c e es ih))/\t.length<=200/\Gq sh t s c e es ih d
section
variable {B n:Nat}{h:AH}{a:Nat}{m:Int}{sh:Bool}{d:D}
theorem qJI(hB:2<=B)(hm:1<=m)(hm2:m<=40)(g:Gv m h a sh d) :
  (∃ ds fs,d=.tup ds/\qA fns B (n+6) aM [.ref a,.int 1] h=.ok (.ref h.length) (h.set a (.ins qH fs)++[.lst [d]])/\∀ H:AH,H[a]?=some (.ins qH fs)->Gv m H a sh d) \/
  (qA fns B (n+6) aM [.ref a,.int 1] h=.ok (.ref h.length) (h++[.lst []])/\∃ j w ds,qA fns B (n+6) fV [.ref a,.int 1] (h++[.lst []])=.ok (.ref j) (h++[.lst []]++w)/\qC (h++[.lst []]++w) j=some ds/\((d=.non/\ds=[])\/ds=[d])):=by
 obtain ⟨t,s,c,e,es,ih,hi,hl,q⟩:=g;have hj:(h++[O.lst []])[a]?=_:=zD [.lst []] hi;cases q with
 |long x y r s _ ok hs=>
  rcases hs with rfl | rfl
  ·left
   exact⟨_,_,rfl,eO (n:=n+4) hB hi (qBb hj (by simp) hl hm),fun H hH=>⟨_,_,_,_,_,_,hH,hl,.long x y r 1 _ ok (.inr rfl)⟩⟩
  ·right;refine⟨uF (n:=n+4) hB hi (eP hj (by simp) hl hm (fun _=>by simp)),_,_,_,qBi (n:=n) (by omega) hj (by simp) hl hm hm2,?_,.inr rfl⟩;rw[kG];rfl
 |short x s _ ok hs=>
  rcases hs with rfl | rfl
  ·left
   exact⟨_,_,rfl,eO (n:=n+4) hB hi (qBb hj (by simp) hl hm),fun H hH=>⟨_,_,_,_,_,_,hH,hl,.short x 1 _ ok (.inr rfl)⟩⟩
  ·right;refine⟨uF (n:=n+4) hB hi (eP hj (by simp) hl hm (fun z=>by cases z)),_,_,_,qBi (n:=n) (by omega) hj (by simp) hl hm hm2,?_,.inr rfl⟩;rw[kG];rfl
 |idle x ok=>right;refine⟨uF (n:=n+4) hB hi (eP hj (by simp) hl hm (fun z=>by cases z)),_,_,_,eT (n:=n) (ds:=[]) (by omega) hj (by omega) (by omega) hl (by simp) (fun H hH=>qRg _ _ hH rfl),?_,.inl ⟨rfl,rfl⟩⟩;rw[kG];rfl
 |fin es=>
  cases es with
  |false=>
   left
   exact⟨_,_,rfl,eO (n:=n+4) hB hi (qJR hj hm),fun H hH=>⟨_,_,_,_,_,_,hH,hl,.fin true⟩⟩
  |true=>right;refine⟨uF (n:=n+4) hB hi (qBa hj hm),_,_,_,eT (n:=n) (ds:=[uN]) (by omega) hj (by omega) (by omega) hl (by simp) (fun H hH=>qRh _ _ hH),?_,.inr rfl⟩;rw[kG];rfl
 |new=>right;refine⟨uF (n:=n+4) hB hi (qBa hj hm),_,_,_,eT (n:=n) (ds:=[jL []]) (by omega) hj (by omega) (by omega) hl (by simp) (fun H hH=>qRf _ _ hH),?_,.inr rfl⟩;rw[kG];rfl
theorem qJL(hB:2<=B)(hm:1<=m)(hm2:m<=40)(g:Gv m h a sh d){p q gd td:Nat}{b:Int}{sl:D}{kvs:List (Ky × D)}{k:Int}(hp:h[p]?=some (.ins qW (hst m b q gd td sl)))(hg:h[gd]?=some (.dct kvs))(hv:zE kvs (.int k)=some (.ref a)) :
  ∃ h',qA fns B (n+7) qLS [.ref p,.int k] h=.ok d h'/\Fr a h h'/\Gv m h' a sh d:=by
 rw[qOi];have gn:=vS hg;have gi:ixK gd (.int k) h=.ok (.ref a) h:=by unfold ixK;rw[hg];simp only[hv]
 obtain ⟨t,s,c,e,es,ih,hi,hl,q0⟩:=g;rcases qJI (n:=n) hB hm hm2 ⟨t,s,c,e,es,ih,hi,hl,q0⟩ with⟨ds,fs,e1,e2,e3⟩ | ⟨e1,j,w,ds,e2,e3,e4⟩
 ·have hl:(h.set a (.ins qH fs)).length=h.length:=by simp
  have g1:qC (h.set a (.ins qH fs)++[.lst [d]]) h.length=some [d]:=by rw[<- hl,zA];rfl
  refine⟨h.set a (.ins qH fs)++[.lst [d]],?_,(Fr.set _ _ _).trans (Fr.app _ _ _),e3 _ (zD _ (zH hi _))⟩;simp! only [gA,hp,vG,gn,gi,Option.bind_none,hi,eI,tbg,e2,g1,List.length_cons,List.length_nil,show (((0+1:Nat):Int) == 0)=false from rfl,cB,show decide ((0:Int)<((0+1:Nat):Int))=true from rfl,Option.bind_some,show ((ixN (0+1) 0).bind fun j=>[d][j]?)=some d from rfl]
 ·have hj:(h++[O.lst []])[a]?=_:=zD [.lst []] hi;have z0:(((0:Nat):Int) == 0)=true:=rfl;refine⟨h++[.lst []]++w,?_,(Fr.app _ _ _).trans (Fr.app _ _ _),⟨t,s,c,e,es,ih,zD _ hj,hl,q0⟩⟩;rcases e4 with⟨rfl,rfl⟩ | rfl
  ·simp! only [gA,hp,vG,gn,gi,Option.bind_none,hi,eI,tbg,e1,zA,zW,List.length_cons,List.length_nil,z0,sC,hj,qBM,e2,cB,e3,i19]
  ·simp! only [gA,hp,vG,gn,gi,Option.bind_none,hi,eI,tbg,e1,zA,zW,List.length_cons,List.length_nil,z0,sC,hj,qBM,e2,cB,e3,show decide ((0:Int)<((0+1:Nat):Int))=true from rfl,Option.bind_some,show ((ixN (0+1) 0).bind fun j=>[d][j]?)=some d from rfl]
end
theorem qBS(f:D->M (Option D))(r:D->Option D)(i:Nat)(xs:List D)(h:AH)(hg:qC h i=some xs)(H:∀ x∈xs,f x h=.ok (r x) h):∀ (n k:Nat),n+k=xs.length+1->k<=xs.length->zO f i n k h=.ok ((xs.drop k).filterMap r) h
 |0,k,hn,hk=>by omega
 |n+1,k,hn,hkl=>by
  unfold zO;rw[hg];simp only
  by_cases hk:k<xs.length
  ·have e:xs[k]?=some xs[k]:=by simp[hk]
   rw[e];simp only[M.bind_eq,H _ (List.getElem_mem hk),R.bind_ok,qBS f r i xs h hg H n (k+1) (by omega) hk,M.ret_eq];rw[List.drop_eq_getElem_cons hk];cases q:r xs[k] with
   |none=>rw[List.filterMap_cons_none q]
   |some y=>rw[List.filterMap_cons_some q]
  ·have e:xs[k]?=none:=by simp;omega
   rw[e,List.drop_eq_nil_of_le (by omega)];rfl
theorem aB(f:D->M (Option D))(r:D->Option D)(i:Nat)(xs:List D)(h:AH)(hg:qC h i=some xs)(hl:xs.length<=1000000)(H:∀ x∈xs,f x h=.ok (r x) h):wW f (.live i) h=.ok (xs.filterMap r) h:=by
 have e:zP h i=xs.length+1:=by unfold zP;rw[hg];rfl
 rw[uE,e,if_pos (by omega),qBS f r i xs h hg H _ 0 rfl (Nat.zero_le _),List.drop_zero]
def iD(xs:List Nat):List D:=xs.map fun k:Nat=>.int (k:Int)
theorem jI(xs:List Nat):(iD xs).length=xs.length:=by unfold iD;simp
theorem qKm(xs:List Nat):jB (iD xs)=some (xs.map fun k:Nat=>(k:Int)):=by
 unfold iD
 induction xs with
 |nil=>rfl
 |cons x xs ih=>simp only[List.map_cons,jB,ih,Option.map_some]
theorem qCT(r:D->Option D)(p:Nat->Bool)(H:∀ k:Nat,r (.int k)=if p k=true then some (.int k) else none)(xs:List Nat):(iD xs).filterMap r=iD (xs.filter p):=by
 unfold iD
 induction xs with
 |nil=>rfl
 |cons x xs ih=>
  rw[List.map_cons];cases q:p x with
  |false=>rw[List.filterMap_cons_none (by rw[H,q];rfl),ih,List.filter_cons_of_neg (by rw[q];simp)]
  |true=>rw[List.filterMap_cons_some (show r (.int x)=some (.int x) by rw[H,q];rfl),ih,List.filter_cons_of_pos q,List.map_cons]
def kE(xs:List Nat):Option Nat->List Nat
 |none=>xs
 |some l=>xs.filter (fun k=>decide (l<k))++xs.filter (fun k=>decide (k<=l))
def zQ:Option Nat->D
 |none=>.non
 |some l=>.int (l:Int)
theorem qJY(B n:Nat)(h:AH)(i:Nat)(xs:List Nat)(la:Option Nat)(hl:xs.length<=1000)(hi:h[i]?=some (.lst (iD xs))) :
  ∃ (g:AH) (k:Nat),qA fns B (n+1) qK9 [.ref i,zQ la] h=.ok (.ref (h.length+k)) (h++g)/\(h++g)[h.length+k]?=some (.lst (iD (kE xs la))):=by
 rw[qON];have hg:qC h i=some (iD xs):=by unfold qC;rw[hi]
 cases la with
 |none=>
  simp! only [zQ,bT,hg,jI,show xs.length<=16777216 by omega]
  exact⟨_,0,rfl,by rw[jO];rfl⟩
 |some l=>
  have hgt:∀ k:Nat,decide ((l:Int)<(k:Int))=decide (l<k):=fun k=>qCK _ _;have hle:∀ k:Nat,decide ((k:Int)<=(l:Int))=decide (k<=l):=fun k=>yI _ _
  have m1:=aB (jJ (den (qA fns B n) pS) (qK (qA fns B n) pR) [some (.ref i),some (.int l),none]) (fun d=>match d with | .int v=>if decide ((l:Int)<v)=true then some (.int v) else none | _=>none) i (iD xs) h hg (by rw[jI];omega) (fun x hx=>by
   unfold iD at hx;obtain ⟨k,_,rfl⟩:=List.mem_map.mp hx;unfold jJ;simp! only [pS,pR]
   by_cases c:(l:Int)<(k:Int)
   ·simp! only [c]
   ·simp! only [c])
  rw[qCT _ (fun k=>decide (l<k)) (fun k=>by simp only[hgt])] at m1;have hg2:=jQ [O.lst (iD (xs.filter fun k=>decide (l<k)))] hg
  have m2:=aB (jJ (den (qA fns B n) pQ) (qK (qA fns B n) pP) [some (.ref i),some (.int l),some (.ref h.length)]) (fun d=>match d with | .int v=>if decide (v<=(l:Int))=true then some (.int v) else none | _=>none) i (iD xs) (h++[O.lst (iD (xs.filter fun k=>decide (l<k)))]) hg2 (by rw[jI];omega) (fun x hx=>by
   unfold iD at hx;obtain ⟨k,_,rfl⟩:=List.mem_map.mp hx;unfold jJ;simp! only [pQ,pP]
   by_cases c:(k:Int)<=(l:Int)
   ·simp! only [c]
   ·simp! only [c])
  rw[qCT _ (fun k=>decide (k<=l)) (fun k=>by simp only[hle])] at m2;rw[uE] at m1 m2;have l1:(xs.filter fun k=>decide (l<k)).length<=xs.length:=List.length_filter_le _ _;have l2:(xs.filter fun k=>decide (k<=l)).length<=xs.length:=List.length_filter_le _ _;simp! only [zQ,bT,qDp,hg,m1,jI,if_pos (show (xs.filter fun k=>decide (l<k)).length<=16777216 by omega),hg2,m2,if_pos (show (xs.filter fun k=>decide (k<=l)).length<=16777216 by omega),List.append_assoc,List.length_append,jO,qS,if_pos (show (xs.filter fun k=>decide (l<k)).length+(xs.filter fun k=>decide (k<=l)).length<=16777216 by omega)];refine⟨_,2,rfl,?_⟩;simp only[jO,List.getElem?_cons_succ,List.getElem?_cons_zero];unfold kE iD;rw[List.map_append]
theorem tW(N:List Nat)(la:Option Nat):(kE N la).length=N.length:=by
 cases la with
 |none=>rfl
 |some l=>
  show (N.filter (fun k=>decide (l<k))++N.filter (fun k=>decide (k<=l))).length=_;rw[List.length_append]
  induction N with
  |nil=>rfl
  |cons x N ih=>
   by_cases c:l<x
   ·rw[List.filter_cons_of_pos (by simpa using c),List.filter_cons_of_neg (by simp;omega)];simp only[List.length_cons];omega
   ·rw[List.filter_cons_of_neg (by simpa using c),List.filter_cons_of_pos (by simp;omega)];simp only[List.length_cons];omega
theorem qMK(h:AH)(n:Nat)(xs:List Nat):eqW (eqD h (n+1)) (iD xs) (iD xs)=some true:=by
 unfold iD
 induction xs with
 |nil=>rfl
 |cons x xs ih=>
  rw[List.map_cons];show (match eqD h (n+1) (.int x) (.int x),eqW (eqD h (n+1)) _ _ with | some a,some b=>some (a&&b) | _,_=>none)=some true;rw[ih]
  have:eqD h (n+1) (.int x) (.int x)=some true:=by show some ((x:Int) == x)=_;rw[BEq.rfl]
  rw[this];rfl
theorem uJ(n:Nat):vM 0 n=iD (List.range n):=by
 unfold vM iD;congr 1;funext k;rw[Int.zero_add]
theorem eM(f:D->M (Option D)):∀ (xs:List D) (h:AH),(∀ x∈xs,f x h=.ok (some x) h)->zC f xs h=.ok xs h
 | [],h,_=>rfl
 |x::xs,h,H=>by
  unfold zC;simp! only [H x (List.mem_cons_self ..),eM f xs h fun y hy=>H y (List.mem_cons_of_mem _ hy)]
theorem qEY{x:Ky × D}{r:List (Ky × D)}{k:Ky}(e:x.1=k):zE (x::r) k=some x.2:=by
 unfold zE;rw[List.find?_cons_of_pos (by simpa using e)];rfl
theorem qEZ{x:Ky × D}{r:List (Ky × D)}{k:Ky}(e:¬ x.1=k):zE (x::r) k=zE r k:=by
 unfold zE;rw[List.find?_cons_of_neg (by simpa using e)]
def kvA:Nat->List Nat->List (Ky × D)
 |_,[]=>[]
 |k,a::r=>(.int k,.ref a)::kvA (k+1) r
theorem aG:∀ (as:List Nat) (k:Nat),(kvA k as).length=as.length
 | [],_=>rfl
 |a::r,k=>by rw[kvA,List.length_cons,List.length_cons,aG r]
theorem qBu:∀ (as:List Nat) (k:Nat),jG (kvA k as)=iD ((List.range as.length).map (k+·))
 | [],_=>rfl
 |a::r,k=>by
  have ih:=qBu r (k+1);unfold jG iD at ih ⊢;rw[kvA,List.map_cons,ih,List.length_cons,List.range_succ_eq_map,List.map_cons,List.map_cons,List.map_map];congr 1;rw[List.map_map,List.map_map];congr 1;funext j;show D.int ((k+1+j:Nat):Int)=D.int ((k+(j+1):Nat):Int);rw[show k+1+j=k+(j+1) by omega]
theorem qJ7(as:List Nat):jG (kvA 0 as)=iD (List.range as.length):=by
 rw[qBu];congr 1;rw[show (fun x=>0+x)=(fun x:Nat=>x) from funext fun x=>Nat.zero_add x,List.map_id']
theorem eW:∀ (as:List Nat) (k j:Nat),zE (kvA k as) (.int ((k+j:Nat):Int))=(as[j]?).map .ref
 | [],_,_=>rfl
 |a::r,k,0=>qEY (x:=(.int k,.ref a)) rfl
 |a::r,k,j+1=>by
  have ih:=eW r (k+1) j;rw[show k+1+j=k+(j+1) by omega] at ih;rw[kvA,List.getElem?_cons_succ,<- ih]
  exact qEZ (x:=(.int k,.ref a)) fun z=>by
   injection z with z;have z:(k:Int)=((k+(j+1):Nat):Int):=z;omega
theorem yC{as:List Nat}{k a:Nat}(h:as[k]?=some a):zE (kvA 0 as) (.int (k:Int))=some (.ref a):=by
 have:=eW as 0 k
 rw[Nat.zero_add,h] at this;exact this
theorem qBv(a:Nat):∀ (as:List Nat) (k:Nat),kvA k (as++[a])=kvA k as++[(.int ((k+as.length:Nat):Int),.ref a)]
 | [],k=>rfl
 |x::r,k=>by
  rw[List.cons_append,kvA,kvA,qBv a r,List.cons_append,List.length_cons,show k+1+r.length=k+(r.length+1) by omega]
theorem qJ6(as:List Nat)(a:Nat):vB (kvA 0 as) (.int (as.length:Int)) (.ref a)=kvA 0 (as++[a]):=by
 have e:zE (kvA 0 as) (.int (as.length:Int))=none:=by
  have:=eW as 0 as.length
  rw[Nat.zero_add] at this;rw[this];simp
 have e2:¬ ((kvA 0 as).any fun kv=>decide (kv.1=.int (as.length:Int)))=true:=by
  unfold zE at e;rw[Option.map_eq_none_iff,List.find?_eq_none] at e;rw[List.any_eq_true]
  rintro ⟨x,hx,hx2⟩
  exact e x hx hx2
 unfold vB;rw[if_neg e2,qBv,Nat.zero_add]
def mtg(y:Int)(met:Bool):List (Nat × D):=[(qBx,.int 1),(eZ,.int y),(fG,.bl met)]
section
variable (y:Int)(met:Bool)
theorem wU:qJ qBx (mtg y met)=some (.int 1):=rfl
theorem wT:qJ eZ (mtg y met)=some (.int y):=rfl
theorem qAu:qJ fG (mtg y met)=some (.bl met):=rfl
theorem dQ:(mtg y met).length=3:=rfl
theorem qAs(v:Int):qZ eZ (.int v) (mtg y met)=mtg v met:=rfl
theorem dO(b:Bool):qZ fG (.bl b) (mtg y met)=mtg y b:=rfl
theorem qGe:qJ 448378203247 (mtg y met)=none:=rfl
theorem dP:qJ 448377483876 (mtg y met)=none:=rfl
theorem qAt:qJ 491328138361 (mtg y met)=none:=rfl
end
theorem tbq(k:Nat):tbN [(21785059625889383,k)] zG=some k:=rfl
theorem clq:([21785059625889383]:List Nat).contains zG=true:=by decide
structure Ho (p q gd td:Nat) (m b:Int) (h:AH) (sl:D) (y:Int) (met:Bool) (as:List Nat) (rs:List (Bool × D)):Prop where
 hp:h[p]?=some (.ins qW (hst m b q gd td sl))
 hq:h[q]?=some (.ins zG (mtg y met))
 hg:h[gd]?=some (.dct (kvA 0 as))
 ht:h[td]?=some (.dct [])
 gt:gd≠td
 la:as.length=rs.length
 lz:as.length<=50
 gv:∀ (k a:Nat) (r:Bool × D),as[k]?=some a->rs[k]?=some r->Gv m h a r.1 r.2
 nd:∀ (i j a:Nat),as[i]?=some a->as[j]?=some a->i=j
def KO(h h':AH):Prop:=∀ i o,h[i]?=some o->qC h i=none->h'[i]?=some o
theorem KO.app(h g:AH):KO h (h++g):=fun i o e _=>zD g e
theorem KO.set{h:AH}{i:Nat}{xs:List D}(o:O)(e:qC h i=some xs):KO h (h.set i o):=fun j o' e' n=>by
 rw[List.getElem?_set_ne (fun z=>by subst z;rw[e] at n;cases n)];exact e'
section
variable {p q gd td:Nat}{m b:Int}{h h':AH}{sl:D}{y:Int}{met:Bool}{as:List Nat}{rs:List (Bool × D)}
theorem Ho.mono(H:Ho p q gd td m b h sl y met as rs)(k:KO h h'):Ho p q gd td m b h' sl y met as rs:=
 ⟨k _ _ H.hp (jP H.hp),k _ _ H.hq (jP H.hq),k _ _ H.hg (vS H.hg),k _ _ H.ht (vS H.ht),H.gt,H.la,H.lz,fun i a r h1 h2=>by
  obtain ⟨t,s,c,e0,es,ih,h3,h4⟩:=H.gv i a r h1 h2
  exact⟨t,s,c,e0,es,ih,k _ _ h3 (jP h3),h4⟩,H.nd⟩
theorem Ho.app(H:Ho p q gd td m b h sl y met as rs)(g:AH):Ho p q gd td m b (h++g) sl y met as rs:=H.mono (KO.app h g)
theorem Ho.giv(H:Ho p q gd td m b h sl y met as rs){k a:Nat}{r:Bool × D}(ha:as[k]?=some a)(hk:k<rs.length)(f:Fr a h h')(g:Gv m h' a r.1 r.2):Ho p q gd td m b h' sl y met as (rs.set k r):=by
 have hr:rs[k]?=some rs[k]:=by simp[hk]
 obtain ⟨t,s,c,e0,es,ih,h3,h4⟩:=H.gv k a _ ha hr
 have np:∀ i o,h[i]?=some o->(∀ fs,o≠.ins qH fs)->i≠a:=fun i o e ne z=>by
  subst z;rw[h3] at e;cases e;exact ne _ rfl
 refine⟨f.get H.hp (np _ _ H.hp fun fs z=>by injection z with z1 z2;exact absurd z1 (by decide)),f.get H.hq (np _ _ H.hq fun fs z=>by injection z with z1 z2;exact absurd z1 (by decide)),f.get H.hg (np _ _ H.hg fun fs z=>by cases z),f.get H.ht (np _ _ H.ht fun fs z=>by cases z),H.gt,by rw[List.length_set];exact H.la,H.lz,fun i a' r' h1 h2=>?_,H.nd⟩
 by_cases q:i=k
 ·subst q;rw[ha] at h1;cases h1;rw[List.getElem?_set,if_pos rfl,if_pos hk] at h2;cases h2;exact g
 ·rw[List.getElem?_set_ne (Ne.symm q)] at h2;have g':=H.gv i a' r' h1 h2;obtain ⟨t,s,c,e0,es,ih,h5,h6⟩:=g'
  exact⟨t,s,c,e0,es,ih,f.get h5 (fun z=>by subst z;exact q (H.nd i k a' h1 ha)),h6⟩
theorem qGM{r:Bool × D}{k:Nat}(e:rs[k]?=some r):rs.set k r=rs:=by
 obtain ⟨hl,rfl⟩:=List.getElem?_eq_some_iff.mp e;exact List.set_getElem_self hl
theorem Ho.get(H:Ho p q gd td m b h sl y met as rs){k:Nat}(hk:k<as.length):∃ a r,as[k]?=some a/\rs[k]?=some r/\Gv m h a r.1 r.2:=by
 have ha:as[k]?=some as[k]:=by simp[hk]
 have hr:rs[k]?=some (rs[k]'(by rw[<- H.la];exact hk)):=by simp[<- H.la,hk]
 exact⟨_,_,ha,hr,H.gv k _ _ ha hr⟩
theorem qFk:∀ n,n<=50->jV ((List.range n).map fun k:Nat=>(k:Int))=(List.range n).map fun k:Nat=>(k:Int):=by decide +kernel
theorem qBW(B n:Nat)(H:Ho p q gd td m b h sl y met as rs):qA fns B (n+2) qLO [.ref p] h=.ok (.ref (h.length+1)) (h++[.lst (iD (List.range as.length)),.lst (iD (List.range as.length))]):=by
 rw[qOe];have lz:=H.lz;have hs:=zH H.hg (.rod (kvA 0 as))
 have e1:zC (jJ (den (qA fns B n) nZ) (qK (qA fns B n) nY) [some (.ref gd)]) (iD (List.range as.length)) (h.set gd (.rod (kvA 0 as)))=.ok (iD (List.range as.length)) (h.set gd (.rod (kvA 0 as))):=by
  refine eM _ _ _ fun x hx=>?_;unfold iD at hx;obtain ⟨k,hk,rfl⟩:=List.mem_map.mp hx;obtain ⟨a,r,ha,_,_⟩:=H.get (List.mem_range.mp hk);have gn:qC (h.set gd (.rod (kvA 0 as))) gd=none:=by unfold qC;rw[hs]
  have gi:ixK gd (.int k) (h.set gd (.rod (kvA 0 as)))=.ok (.ref a) (h.set gd (.rod (kvA 0 as))):=by unfold ixK;rw[hs];simp only[yC ha]
  unfold jJ;simp! only [nZ,nY,gn,Option.bind_none,gi]
 have e2:qA fns B (n+1) 60 [.ref gd] h=.ok (.ref (h.length+1)) (h++[.lst (iD (List.range as.length)),.lst (iD (List.range as.length))]):=by
  rw[qNy];have sl:(h.set gd (.rod (kvA 0 as))).length=h.length:=by simp
  have g1:(h.set gd (.rod (kvA 0 as))++[.lst (iD (List.range as.length))])[gd]?=some (.rod (kvA 0 as)):=zD _ hs
  have g2:(h.set gd (.rod (kvA 0 as))++[O.lst (iD (List.range as.length))]).set gd (.dct (kvA 0 as))=h++[.lst (iD (List.range as.length))]:=by
   rw[qAT _ hs,List.set_set,gM H.hg]
  simp! only [oA,H.hg,aG,if_pos (show as.length<16777216 by omega),qJ7,e1,newL,jU,jT,jI,List.length_range,if_pos (show as.length<=16777216 by omega),g1,g2,sl,zA,zW,qKm,List.length_map,if_pos (show as.length<64 by omega),qFk _ lz,List.length_append,List.length_cons,List.length_nil,List.append_assoc,Option.bind_some,List.map_map];rfl
 simp! only [rV,H.hp,vG,e2]
end
def KP(j:Nat)(h h':AH):Prop:=h.length<=h'.length/\∀ i xs,i≠j->qC h i=some xs->h'[i]?=h[i]?
theorem KP.gl{j:Nat}{h h':AH}(k:KP j h h'){i:Nat}{xs:List D}(n:i≠j)(e:qC h i=some xs):qC h' i=some xs:=by
 rw[aP (k.2 i xs n e)];exact e
theorem KP.trans{j:Nat}{h h' h'':AH}(a:KP j h h')(b:KP j h' h''):KP j h h'':=⟨Nat.le_trans a.1 b.1,fun i xs n e=>by rw[b.2 i xs n (a.gl n e),a.2 i xs n e]⟩
theorem KL.kp{h h':AH}(j:Nat)(k:KL h h'):KP j h h':=⟨k.1,fun i xs _ e=>k.2 i xs e⟩
theorem KP.set(j:Nat)(h:AH)(o:O):KP j h (h.set j o):=⟨by simp,fun i _ n _=>List.getElem?_set_ne (Ne.symm n)⟩
theorem KP.kl{h h0 h':AH}{j:Nat}(a:KL h h0)(k:KP j h0 h')(hj:h.length<=j):KL h h':=⟨Nat.le_trans a.1 k.1,fun i xs e=>by
 have hi:=jK e
 rw[k.2 i xs (by omega) (a.gl e),a.2 i xs e]⟩
def yF:D->Bool
 | .non=>true
 |_=>false
def srv(f:Nat->D):Nat->List Nat->List Nat
 |_,[]=>[]
 |0,_::_=>[]
 |b+1,k::r=>if yF (f k)=true then srv f (b+1) r else k::srv f b r
theorem gK(f:Nat->D)(r:List Nat):srv f 0 r=[]:=by cases r <;> rfl
def pcD(y:Int)(k:Nat):D->D
 | .tup (x::r)=>.tup (x::.int 1::.int y::.int k::r)
 |d=>d
def kP(sl:D):List Nat->D
 | []=>sl
 |k::r=>kP (.int k) r
def fD(rs:List (Bool × D))(k:Nat):D:=((rs[k]?).map (·.2)).getD .non
theorem aT{rs:List (Bool × D)}{k:Nat}{r:Bool × D}(e:rs[k]?=some r):fD rs k=r.2:=by unfold fD;rw[e];rfl
theorem Gq.tup{sh:Bool}{t:Tx}{s c:Int}{e es ih:Bool}{d:D}(g:Gq sh t s c e es ih d):d=.non\/∃ x r,d=.tup (x::r)/\r.length<=2:=by
 cases g
 ·exact .inr ⟨_,_,rfl,by simp⟩
 ·exact .inr ⟨_,_,rfl,by simp⟩
 ·exact .inl rfl
 ·exact .inr ⟨_,_,rfl,by simp⟩
 ·exact .inr ⟨_,_,rfl,by simp⟩
section
variable {p q gd td:Nat}{m b:Int}{h h':AH}{sl:D}{y:Int}{met:Bool}{as:List Nat}{rs:List (Bool × D)}
theorem Ho.last(H:Ho p q gd td m b h sl y met as rs)(sl':D):Ho p q gd td m b (h.set p (.ins qW (hst m b q gd td sl'))) sl' y met as rs:=by
 have np:∀ i o,h[i]?=some o->(∀ fs,o≠O.ins qW fs)->(h.set p (.ins qW (hst m b q gd td sl')))[i]?=some o:=fun i o e ne=>by
  rw[List.getElem?_set_ne (fun z=>by subst z;rw[H.hp] at e;cases e;exact ne _ rfl)];exact e
 refine⟨zH H.hp _,np _ _ H.hq (fun fs z=>by injection z with z1 z2;exact absurd z1 (by decide)),np _ _ H.hg (fun fs z=>by cases z),np _ _ H.ht (fun fs z=>by cases z),H.gt,H.la,H.lz,fun i a r h1 h2=>?_,H.nd⟩;obtain ⟨t,s,c,e0,es,ih,h5,h6⟩:=H.gv i a r h1 h2
 exact⟨t,s,c,e0,es,ih,np _ _ h5 (fun fs z=>by injection z with z1 z2;exact absurd z1 (by decide)),h6⟩
theorem qJO(B n:Nat)(H:Ho p q gd td m b h sl y met as rs)(k:Nat)(x:D)(r:List D)(hr:r.length<=2):qA fns B (n+1) qLR [.ref p,.int k,.tup (x::r)] h=.ok (pcD y k (.tup (x::r))) h:=by
 rw[qOh];have e1:qO (x::r) none (some 1)=[x]:=nQ (x::r) 1;have e2:qO (x::r) (some 1) none=r:=nR (x::r) 1;simp! only [sB,H.hp,wH,H.hq,wU,wT,e1,e2,List.length_cons,List.length_nil,List.length_append,if_pos (show 0+1+1+1<=16777216 by omega),if_pos (show 0+1+(0+1+1+1)<=16777216 by omega),if_pos (show 0+1+(0+1+1+1)+r.length<=16777216 by omega),i10];rfl
theorem cT(B n:Nat)(hB:2<=B)(hm:1<=m)(hm2:m<=40)(i pi:Nat)(hne:i≠pi)(xs:List Nat)(hx:∀ k∈xs,k<as.length)(w:Option D) :
  ∀ (r:List Nat) (k f:Nat) (ps:List D) (b':Nat) (h:AH) (sl:D) (s3 s4:Option D),f+k=xs.length+1->k<=xs.length->xs.drop k=r->ps.length<=100->b=((ps.length+b':Nat):Int)->qC h i=some (iD xs)->h[pi]?=some (.lst ps)->Ho p q gd td m b h sl y met as rs->ps.length+r.length<=100 ->
  ∃ s3' s4' h',kI (zR (.nm 3) (qB (qA fns B (n+7)) B uZ)) i f k [some (.ref p),some (.ref pi),w,s3,s4] h=.nx [some (.ref p),some (.ref pi),w,s3',s4'] h'/\h'[pi]?=some (.lst (ps++(srv (fD rs) b' r).map fun k=>pcD y k (fD rs k)))/\Ho p q gd td m b h' (kP sl (srv (fD rs) b' r)) y met as rs/\KP pi h h'
 | [],k,f,ps,b',h,sl,s3,s4,hf,hkl,hd,_,hb,hg,hpi,H,hl=>by
  have hk:xs.length<=k:=by
   rw[List.drop_eq_nil_iff] at hd;exact hd
  match f,hf with
  |f+1,hf=>
   have e:(iD xs)[k]?=none:=by rw[List.getElem?_eq_none_iff,jI];exact hk
   refine⟨s3,s4,h,?_,?_,H,(KL.refl h).kp pi⟩
   ·unfold kI;rw[hg];simp only[e]
   ·rw[show srv (fD rs) b' []=[] by cases b' <;> rfl,List.map_nil,List.append_nil];exact hpi
  |0,hf=>omega
 |x::r,k,f,ps,b',h,sl,s3,s4,hf,hkl,hd,hp1,hb,hg,hpi,H,hl=>by
  have hk:k<xs.length:=by
   by_cases z:k<xs.length
   ·exact z
   ·rw[List.drop_eq_nil_of_le (by omega)] at hd;cases hd
  rw[List.drop_eq_getElem_cons hk] at hd;injection hd with hd1 hd2
  have e:(iD xs)[k]?=some (.int (x:Int)):=by
   unfold iD;rw[List.getElem?_map,List.getElem?_eq_getElem hk,hd1];rfl
  match f,hf with
  |0,hf=>omega
  |f+1,hf=>
   unfold kI;rw[hg];simp only[e];rw[gF];have gpi:=qY hpi;cases b' with
   |zero=>
    have d1:decide (b<=(ps.length:Int))=true:=decide_eq_true (by omega);refine⟨some (.int x),s4,h,?_,?_,H,(KL.refl h).kp pi⟩
    ·simp! only [uZ,gpi,H.hp,fX,d1]
    ·rw[gK,List.map_nil,List.append_nil];exact hpi
   |succ b'=>
    have d1:decide (b<=(ps.length:Int))=false:=decide_eq_false (by omega);obtain ⟨a,rr,ha,hr,g⟩:=H.get (hx x (by rw[<- hd1];exact List.getElem_mem hk));obtain ⟨h1,e1,f1,g1⟩:=qJL (B:=B) (n:=n) hB hm hm2 g H.hp H.hg (yC ha)
    have gn:qC h a=none:=by
     obtain ⟨t,s,c,e0,es,ih,h5,h6⟩:=g;exact jP h5
    have kl1:=f1.kl gn
    have H1:Ho p q gd td m b h1 sl y met as rs:=by
     have:=H.giv ha (by rw[<- H.la];exact hx x (by rw[<- hd1];exact List.getElem_mem hk)) f1 g1
     rw[qGM hr] at this;exact this
    have hpi1:h1[pi]?=some (.lst ps):=by rw[kl1.2 _ _ gpi];exact hpi
    have gpi1:=qY hpi1;have hf2:=aT hr;obtain ⟨t,s,c,e0,es,ih,h5,h6,h7⟩:=g;rcases h7.tup with z | ⟨z,zs,z1,z2⟩
    ·rw[z] at e1;obtain ⟨s3',s4',h',e2,p2,H2,k2⟩:=cT B n hB hm hm2 i pi hne xs hx w r (k+1) f ps (b'+1) h1 sl (some (.int x)) (some .non) (by omega) hk hd2 hp1 hb (kl1.gl hg) hpi1 H1 (by simp only[List.length_cons] at hl;omega)
     have es:srv (fD rs) (b'+1) (x::r)=srv (fD rs) (b'+1) r:=by
      rw[srv,if_pos (by rw[hf2,z];rfl)]
     refine⟨s3',s4',h',?_,by rw[es];exact p2,by rw[es];exact H2,(kl1.kp pi).trans k2⟩;rw[<- e2];simp! only [uZ,gpi,H.hp,fX,d1,rX,qCY,tbh,e1]
    ·rw[z1] at e1;have ep:=qJO B (n+6) H1 x z zs z2;have hs1:(h1.set pi (.lst (ps++[pcD y x (.tup (z::zs))])))[p]?=some (.ins qW (hst m b q gd td sl)):=(KO.set _ gpi1) p _ H1.hp (jP H1.hp);have H2:=(H1.mono (KO.set (.lst (ps++[pcD y x (.tup (z::zs))])) gpi1)).last (.int x);have hne2:p≠pi:=fun z=>by subst z;rw[H1.hp] at hpi1;cases hpi1
     have hpi2:((h1.set pi (.lst (ps++[pcD y x (.tup (z::zs))]))).set p (.ins qW (hst m b q gd td (.int x))))[pi]?=some (.lst (ps++[pcD y x (.tup (z::zs))])):=by
      rw[List.getElem?_set_ne hne2];exact zH hpi1 _
     have k12:KP pi h1 ((h1.set pi (.lst (ps++[pcD y x (.tup (z::zs))]))).set p (.ins qW (hst m b q gd td (.int x)))):=(KP.set pi h1 _).trans ((KL.set _ (jP hs1)).kp pi);obtain ⟨s3',s4',h',e2,p2,H3,k2⟩:=cT B n hB hm hm2 i pi hne xs hx w r (k+1) f (ps++[pcD y x (.tup (z::zs))]) b' _ (.int x) (some (.int x)) (some (.tup (z::zs))) (by omega) hk hd2 (by simp only[List.length_append,List.length_cons,List.length_nil] at hl ⊢;omega) (by rw[hb,List.length_append];simp only[List.length_cons,List.length_nil];omega) (k12.gl hne (kl1.gl hg)) hpi2 H2 (by simp only[List.length_append,List.length_cons,List.length_nil] at hl ⊢;omega)
     have es:srv (fD rs) (b'+1) (x::r)=x::srv (fD rs) b' r:=by
      rw[srv,if_neg (by rw[hf2,z1];simp[yF])]
     refine⟨s3',s4',h',?_,?_,?_,((kl1.kp pi).trans k12).trans k2⟩
     ·rw[<- e2];simp! only [uZ,gpi,H.hp,fX,d1,rX,qCY,tbh,e1,qD8,gpi1,H1.hp,qLm,ep,hpi1,if_pos (show ps.length<16777216 by omega),hs1,clh,qCa,show 8<1000 by omega,qLh]
     ·rw[es,List.map_cons,hf2,z1,p2,List.append_assoc];rfl
     ·rw[es];exact H3
end
def pc(d:D):Prop:=∃ P,toD P=d/\okP P
open Classical in
def wrT(d:D):Tx:=if h:pc d then wr h.choose else []
def wrD(d:D):D:=.str (wrT d)
theorem tK{d:D}(h:pc d):wrD d=.str (wr h.choose):=by unfold wrD wrT;rw[dif_pos h]
theorem wE(B n:Nat){d:D}(hd:pc d)(h:AH):∃ g,qA fns B (n+7) qCN [d] h=.ok (wrD d) (h++g):=by
 have s:=hd.choose_spec
 have:=qBU B n s.2 h
 rw[s.1] at this;rw[tK hd];exact this
theorem qBX(B n:Nat){k:Tx}{r:List D}(hd:pc (.tup (.str k::r)))(hk:k=HELLO\/k=ANS)(h:AH):∃ g,qA fns B (n+8) qCO [wrD (.tup (.str k::r))] h=.ok (.tup (.str k::r)) (h++g):=by
 have s:=hd.choose_spec;rw[tK hd];generalize hd.choose=P at s;obtain ⟨s1,s2⟩:=s
 have hh:Hrd P:=by
  have sh:=s2.1;cases sh with
  |hello a b _=>exact .hello a b
  |ans c d _ _=>exact .ans c d
  |data c y _ _ _=>injection s1 with s1;injection s1 with s1 _;injection s1 with s1;have s1:DATA=k:=s1;subst s1;rcases hk with z | z <;> exact absurd z (by decide)
  |fin c _=>injection s1 with s1;injection s1 with s1 _;injection s1 with s1;have s1:ENDW=k:=s1;subst s1;rcases hk with z | z <;> exact absurd z (by decide)
 have:=qJK B n s2 hh h
 rw[s1] at this;exact this
theorem wV(a b:Nat)(ha:1<=a)(ha2:a<=1000000000)(hb2:b<=1000000000):pc (.tup [.str HELLO,.int a,.int b]):=⟨⟨HELLO,[a,b],.no⟩,rfl,.hello a b ha,fun n hn=>by
 simp only[List.mem_cons,List.not_mem_nil,or_false] at hn
 rcases hn with rfl | rfl <;> omega⟩
theorem dU(k:Nat)(hk:k<50)(y:Tx)(hy:y.all okC=true)(hl:y.length<=40):pc (.tup [.str DATA,.int 1,.int 3,.int k,.int 0,.str y]):=⟨⟨DATA,[1,3,k,0],.sg y⟩,rfl,.data k y hk hy hl,fun n hn=>by
 simp only[List.mem_cons,List.not_mem_nil,or_false] at hn
 omega⟩
theorem qGl(k:Nat)(hk:k<50):pc (.tup [.str ENDW,.int 1,.int 3,.int k,.int 0]):=⟨⟨ENDW,[1,3,k,0],.no⟩,rfl,.fin k hk,fun n hn=>by
 simp only[List.mem_cons,List.not_mem_nil,or_false] at hn
 omega⟩
theorem qGm(k:Nat)(hk:k<50)(c:Nat)(hc2:c<=1):pc (.tup [.str ANS,.int 3,.int 1,.int k,.int c,.int 1,.tup []]):=⟨⟨ANS,[3,1,k,c,1],.sp⟩,rfl,.ans k c hk hc2,fun n hn=>by
 simp only[List.mem_cons,List.not_mem_nil,or_false] at hn
 omega⟩
theorem Gq.pc{sh:Bool}{t:Tx}{s c:Int}{e es ih:Bool}{d:D}(g:Gq sh t s c e es ih d)(k:Nat)(hk:k<50):yF d=true\/pc (pcD 3 k d):=by
 cases g with
 |long x y r s e ok _=>exact .inr (dU k hk [x] (by rw[List.all_cons,ok];rfl) (by simp))
 |short x s ih ok _=>exact .inr (dU k hk [x] (by rw[List.all_cons,ok];rfl) (by simp))
 |idle x ok=>exact .inl rfl
 |fin es=>exact .inr (qGl k hk)
 |new=>exact .inr (dU k hk [] rfl (by simp))
theorem cZ(f:Nat->D):∀ (b:Nat) (r:List Nat) (k:Nat),k∈srv f b r->k∈r/\yF (f k)=false
 |_,[],k,h=>by
  rename_i b;cases b <;> cases h
 |0,_::_,k,h=>by cases h
 |b+1,x::r,k,h=>by
  unfold srv at h;split at h
  ·obtain ⟨h1,h2⟩:=cZ f (b+1) r k h
   exact⟨List.mem_cons_of_mem _ h1,h2⟩
  ·rename_i z;rcases List.mem_cons.mp h with rfl | h
   ·exact⟨List.mem_cons_self ..,by simpa using z⟩
   ·obtain ⟨h1,h2⟩:=cZ f b r k h
    exact⟨List.mem_cons_of_mem _ h1,h2⟩
theorem dA(f:Nat->D):∀ (b:Nat) (r:List Nat),(srv f b r).length<=r.length
 |b,[]=>by cases b <;> exact Nat.le_refl _
 |0,_::_=>Nat.zero_le _
 |b+1,x::r=>by
  unfold srv;have h1:=dA f (b+1) r;have h2:=dA f b r
  split <;> simp only[List.length_cons] <;> omega
theorem tV(n:Nat)(la:Option Nat)(k:Nat)(h:k∈kE (List.range n) la):k<n:=by
 cases la with
 |none=>exact List.mem_range.mp h
 |some l=>
  unfold kE at h;rcases List.mem_append.mp h with h | h
  ·exact List.mem_range.mp (List.mem_filter.mp h).1
  ·exact List.mem_range.mp (List.mem_filter.mp h).1
def now(rs:List (Bool × D))(bn:Nat)(la:Option Nat):List Nat:=srv (fD rs) bn (kE (List.range rs.length) la)
section
variable {p q gd td:Nat}{m b:Int}{h h':AH}{sl:D}{y:Int}{met:Bool}{as:List Nat}{rs:List (Bool × D)}
theorem qJq(B n bn:Nat)(hB:2<=B)(hm:1<=m)(hm2:m<=40)(la:Option Nat)(H:Ho p q gd td m bn h (zQ la) y met as rs) :
  ∃ h' j,qA fns B (n+8) qLQ [.ref p] h=.ok (.ref j) h'/\h'[j]?=some (.lst ((now rs bn la).map fun k=>pcD y k (fD rs k)))/\Ho p q gd td m bn h' (kP (zQ la) (now rs bn la)) y met as rs/\KL h h':=by
 rw[qOg];have lz:=H.lz;have e1:=qBW B (n+5) (H.app [.lst []]);generalize hX:iD (List.range as.length)=X at e1;have hXl:X.length=as.length:=by rw[<- hX,jI,List.length_range]
 generalize hH1:h++[O.lst []]++[.lst X,.lst X]=H1 at e1;have H1o:Ho p q gd td m bn H1 (zQ la) y met as rs:=by rw[<- hH1];exact (H.app _).app _
 have g1:qC H1 ((h++[O.lst []]).length+1)=some X:=by rw[<- hH1,kG];rfl
 have e2:=aB (jJ (den (qA fns B (n+7)) rZ) (qK (qA fns B (n+7)) rY) [some (.ref p),some (.ref h.length),none,none,none]) (fun d=>some d) ((h++[O.lst []]).length+1) X H1 g1 (by omega) (fun x hx=>by
  rw[<- hX] at hx;unfold iD at hx;obtain ⟨k,hk,rfl⟩:=List.mem_map.mp hx;obtain ⟨a,r,ha,_,gv⟩:=H1o.get (List.mem_range.mp hk);obtain ⟨t,s,c,e0,es,ih,h5,h6⟩:=gv;have gn:=vS H1o.hg;have gi:ixK gd (.int k) H1=.ok (.ref a) H1:=by unfold ixK;rw[H1o.hg];simp only[yC ha]
  unfold jJ
  simp! only [rZ,rY,H1o.hp,vG,gn,Option.bind_none,gi,h5,qCc])
 rw[List.filterMap_some,uE] at e2;generalize hH2:H1++[O.lst X]=H2;have g2:H2[H1.length]?=some (.lst (iD (List.range as.length))):=by rw[<- hH2,qS,hX];rfl
 obtain ⟨g,k,e3,e4⟩:=qJY B (n+6) H2 H1.length (List.range as.length) la (by rw[List.length_range];omega) g2;generalize hT:kE (List.range as.length) la=T at e4;have hTl:T.length=as.length:=by rw[<- hT,tW,List.length_range]
 have hH2o:Ho p q gd td m bn (H2++g) (zQ la) y met as rs:=by rw[<- hH2];exact (H1o.app _).app _
 have hlen:H1.length=h.length+3:=by rw[<- hH1];simp
 have hlen2:H2.length=h.length+4:=by rw[<- hH2];simp[hlen]
 have hpi:(H2++g)[h.length]?=some (.lst []):=by
  rw[<- hH2,<- hH1,List.append_assoc,List.append_assoc,List.append_assoc,qS];rfl
 have gT:=qY e4;have hlive:zP (H2++g) (H2.length+k)=T.length+1:=by unfold zP;rw[gT,Option.getD_some,jI]
 obtain ⟨s3',s4',h',e5,p5,H5,k5⟩:=cT B n hB hm hm2 (H2.length+k) h.length (by omega) T (fun k hk=>by rw[<- hT] at hk;exact tV _ _ _ hk) (some (.ref H1.length)) T 0 (T.length+1) [] bn (H2++g) (zQ la) none none rfl (Nat.zero_le _) rfl (by simp) (by simp) gT hpi hH2o (by simp;omega);have hnow:now rs bn la=srv (fD rs) bn T:=by unfold now;rw[<- H.la,hT]
 refine⟨h',h.length,?_,by rw[hnow];exact p5,by rw[hnow];exact H5,?_⟩
 ·simp! only [sA,(H.app [.lst []]).hp,qCW,tbh,e1,hH1,g1,e2,newL,jU,jT,hXl,if_pos (show as.length<=16777216 by omega),hH2,hH2o.hp,(show H2[p]?=some (.ins qW (hst m bn q gd td (zQ la))) by rw[<- hH2];exact (H1o.app _).hp),qLx,e3,gT,hlive,e5,qD7]
 ·refine KP.kl (h0:=H2++g) ?_ k5 (Nat.le_refl _);rw[<- hH2,<- hH1,List.append_assoc,List.append_assoc,List.append_assoc];exact KL.app _ _
end
def qM(a b:Int):D:=.tup [.str HELLO,.int a,.int b]
def kL(y:Int)(met:Bool)(rs:List (Bool × D))(bn:Nat)(la:Option Nat):List D:=(if met=true then [] else [qM 1 0])++(now rs bn la).map fun k=>pcD y k (fD rs k)
section
variable {p q gd td:Nat}{m b:Int}{h h':AH}{sl:D}{y:Int}{met:Bool}{as:List Nat}{rs:List (Bool × D)}
theorem qJc(B n:Nat)(hq:h[q]?=some (.ins zG (mtg y met))):qA fns B (n+1) qLK [.ref q] h=.ok (qM 1 0) h:=by
 rw[qOb];simp! only [rM,hq,wU,i10];rfl
theorem qBC(bn:Nat)(la:Option Nat)(k:Nat)(hk:k∈now rs bn la):k<rs.length/\yF (fD rs k)=false:=by
 obtain ⟨h1,h2⟩:=cZ _ _ _ _ hk
 exact⟨tV _ _ _ h1,h2⟩
theorem qHe(bn:Nat)(la:Option Nat):(now rs bn la).length<=rs.length:=by
 have:=dA (fD rs) bn (kE (List.range rs.length) la)
 rw[tW,List.length_range] at this;exact this
theorem qE4(bn:Nat)(la:Option Nat)(H:Ho p q gd td m b h sl 3 met as rs):∀ d∈kL 3 met rs bn la,pc d:=by
 intro d hd;have lz:=H.lz;have la:=H.la;rcases List.mem_append.mp hd with z | z
 ·cases met with
  |true=>cases z
  |false=>
   rcases List.mem_cons.mp z with rfl | z
   ·exact wV 1 0 (by omega) (by omega) (by omega)
   ·cases z
 ·obtain ⟨k,hk,rfl⟩:=List.mem_map.mp z;obtain ⟨h1,h2⟩:=qBC _ _ _ hk;obtain ⟨a,r,_,hr,t,s,c,e0,es,ih,_,_,g⟩:=H.get (k:=k) (by omega);rw[aT hr] at h2 ⊢;rcases g.pc k (by omega) with z | z
  ·rw[z] at h2;cases h2
  ·exact z
theorem qBV(B n bn:Nat)(hB:2<=B)(hm:1<=m)(hm2:m<=40)(la:Option Nat)(H:Ho p q gd td m bn h (zQ la) y met as rs)(hpc:∀ d∈kL y met rs bn la,pc d) :
  ∃ h' j,qA fns B (n+9) qLM [.ref p] h=.ok (.ref j) h'/\h'[j]?=some (.lst ((kL y met rs bn la).map wrD))/\Ho p q gd td m bn h' (kP (zQ la) (now rs bn la)) y met as rs/\KL h h'/\h.length<=j:=by
 rw[qOd];have lz:=H.lz;have lal:=H.la;have nl:=qHe (rs:=rs) bn la;generalize hP:(if met=true then [] else [qM 1 0])=hs;have hsl:hs.length<=1:=by rw[<- hP];split <;> simp
 have H0:Ho p q gd td m bn (h++[.lst hs]) (zQ la) y met as rs:=H.app _;obtain ⟨h1,j1,e1,p1,H1,k1⟩:=qJq B n bn hB hm hm2 la H0;have gh:qC (h++[.lst hs]) h.length=some hs:=by rw[zA];rfl
 have gh1:h1[h.length]?=some (.lst hs):=by rw[k1.2 _ _ gh,qS];rfl
 generalize hN:((now rs bn la).map fun k=>pcD y k (fD rs k))=N at p1;have hNl:N.length<=50:=by rw[<- hN,List.length_map];omega
 have hT:kL y met rs bn la=hs++N:=by unfold kL;rw[hP,hN]
 have H2:=H1.mono (KO.set (.lst (hs++N)) (qY gh1));have g2:(h1.set h.length (.lst (hs++N)))[h.length]?=some (.lst (hs++N)):=zH gh1 _;have gl2:=qY g2
 obtain ⟨g,e3,lv⟩:=eN (zY (den (qA fns B (n+8)) rR) [some (.ref p),some (.ref h.length)]) wrD h.length (hs++N) (h1.set h.length (.lst (hs++N))) gl2 (by rw[List.length_append];omega) (fun x hx G _=>by
  obtain ⟨g,e⟩:=wE B (n+1) (hpc x (by rw[hT];exact hx)) G;refine⟨g,?_⟩;rw[vJ]
  simp! only [rR,e])
 have kl2:KL h (h1.set h.length (.lst (hs++N))):=KP.kl (h0:=h1) ((KL.app h _).trans k1) (KP.set _ _ _) (Nat.le_refl _);refine⟨h1.set h.length (.lst (hs++N))++g++[.lst ((hs++N).map wrD)],(h1.set h.length (.lst (hs++N))++g).length,?_,?_,(H2.app _).app _,(kl2.trans (KL.app _ _)).trans (KL.app _ _),(kl2.trans (KL.app _ _)).1⟩
 ·have fin:qB (qA fns B (n+8)) B rQ [some (.ref p),some (.ref h.length)] (h++[.lst hs])=.rt (.ref (h1.set h.length (.lst (hs++N))++g).length) (h1.set h.length (.lst (hs++N))++g++[.lst ((hs++N).map wrD)]):=by
   simp! only [rQ,gh,H0.hp,qLl,tbh,e1,gh1,p1,if_pos (show hs.length+N.length<=16777216 by omega),gl2,if_pos lv,e3,newL,jU,jT,List.length_map,List.length_append,if_pos (show hs.length+N.length<=16777216 by omega)]
  have H00:=H.app [.lst []];cases met with
  |true=>
   have hz:hs=[]:=by rw[<- hP];rfl
   subst hz;simp! only [bZ,H00.hp,wH,H00.hq,qAu,fin]
  |false=>
   have hz:hs=[qM 1 0]:=by rw[<- hP];rfl
   subst hz;simp! only [bZ,H00.hp,wH,H00.hq,qAu,qD3,zA,zW,qGe,tbq,qJc B (n+7) H00.hq,qS,List.getElem?_cons_zero,List.length_nil,i14,jW,List.set_cons_zero,List.nil_append,fin]
 ·rw[qS,hT];rfl
end
def cM(k:Nat)(d:D):Prop:=d=.non\/(∃ x r,d=.tup (x::r)/\r.length<=2/\pc (pcD 3 k d))
theorem Gq.part{sh:Bool}{t:Tx}{s c:Int}{e es ih:Bool}{d:D}(g:Gq sh t s c e es ih d)(k:Nat)(hk:k<50):cM k d:=by
 rcases g.tup with z | ⟨x,r,z,z2⟩
 ·exact .inl z
 ·refine .inr ⟨x,r,z,z2,?_⟩;rcases g.pc k hk with q | q
  ·rw[z] at q;cases q
  ·exact q
section
variable {h:AH}{rs:List (Bool × D)}
theorem qMI{k:Nat}(hk:k<rs.length):(rs.map (·.2))[k]?=some (fD rs k):=by
 have e:rs[k]?=some rs[k]:=by simp[hk]
 rw[List.getElem?_map,e,aT e];rfl
theorem aV(B n:Nat)(l pr t:Nat)(hne:pr≠t)(hrs:1<=rs.length)(hf:∀ k,k<rs.length->cM k (fD rs k))(x2 x3:Option D) :
  ∀ (ss:List Nat) (ts:List D) (b':Nat) (sv:D) (h:AH) (s7 s8:Option D),ts.length+ss.length<=1000->h[t]?=some (.lst ts)->qC h pr=some (rs.map (·.2)) ->
  ∃ (b'':Nat) (s7' s8':Option D) (h':AH),zS (zR (.nm 7) (qB (qA fns B (n+7)) B yR)) (iD ss) [some (.ref pr),some (.int l),x2,x3,some (.ref t),some (.int b'),some sv,s7,s8] h=.nx [some (.ref pr),some (.int l),x2,x3,some (.ref t),some (.int b''),some (kP sv (srv (fD rs) b' (ss.map fun s=>(l+1+s) % rs.length))),s7',s8'] h'/\h'[t]?=some (.lst (ts++(srv (fD rs) b' (ss.map fun s=>(l+1+s) % rs.length)).map fun k=>wrD (pcD 3 k (fD rs k))))/\Fr t h h'
 | [],ts,b',sv,h,s7,s8,_,ht,hg=>⟨b',s7,s8,h,by rw[List.map_nil,show srv (fD rs) b' []=[] by cases b' <;> rfl];rfl,by rw[List.map_nil,show srv (fD rs) b' []=[] by cases b' <;> rfl,List.map_nil,List.append_nil];exact ht,⟨Nat.le_refl _,fun _ _ _=>rfl⟩⟩
 |s::ss,ts,b',sv,h,s7,s8,hl,ht,hg=>by
  have hk:(l+1+s) % rs.length<rs.length:=Nat.mod_lt _ (by omega)
  have e0:((l:Int)+1+(s:Int)) % ((rs.length:Nat):Int)=(((l+1+s) % rs.length:Nat):Int):=by
   rw[Int.natCast_emod];congr 1
  simp only[List.length_cons] at hl;generalize hkk:(l+1+s) % rs.length=k at hk e0;have ek:=qMI hk;have ei:((ixN (rs.map (·.2)).length (k:Int)).bind fun j=>(rs.map (·.2))[j]?)=some (fD rs k):=qB2 ek;have hpos:(0:Int)<((rs.length:Nat):Int):=by omega
  show ∃ (b'':Nat) (s7' s8':Option D) (h':AH),SR.turn (zR (.nm 7) (qB (qA fns B (n+7)) B yR) (.int s) _ h) _=_/\_;rw[gF,List.map_cons,hkk];cases b' with
  |zero=>obtain ⟨b'',s7',s8',h',e1,p1,f1⟩:=aV B n l pr t hne hrs hf x2 x3 ss ts 0 sv h (some (.int s)) (some (.int k)) (by omega) ht hg;rw[gK] at e1 p1;refine⟨b'',s7',s8',h',?_,by rw[gK];exact p1,f1⟩;rw[gK,<- e1];simp! only [yR,hg,List.length_map,if_pos hpos,e0,i19];rfl
  |succ b'=>
   have d1:decide ((0:Int)<((b'+1:Nat):Int))=true:=decide_eq_true (by omega);rcases hf k hk with z | ⟨x,r,z,z2,z3⟩
   ·obtain ⟨b'',s7',s8',h',e1,p1,f1⟩:=aV B n l pr t hne hrs hf x2 x3 ss ts (b'+1) sv h (some (.int s)) (some (.int k)) (by omega) ht hg
    have es:srv (fD rs) (b'+1) (k::ss.map fun s=>(l+1+s) % rs.length)=srv (fD rs) (b'+1) (ss.map fun s=>(l+1+s) % rs.length):=by
     rw[srv,if_pos (by rw[z];rfl)]
    refine⟨b'',s7',s8',h',?_,by rw[es];exact p1,f1⟩;rw[es,<- e1];rw[z] at ei;simp! only [yR,hg,List.length_map,if_pos hpos,e0,d1,Option.bind_some];rw[List.length_map] at ei;simp! only [ei];rfl
   ·rw[List.length_map,z] at ei;obtain ⟨g,e2⟩:=wE B n z3 h;rw[z] at e2;have gt:=qY ht;have ht2:=zD g ht;have f2:Fr t h ((h++g).set t (.lst (ts++[wrD (pcD 3 k (fD rs k))]))):=(Fr.app t h g).trans (Fr.set t _ _)
    have hg2:qC ((h++g).set t (.lst (ts++[wrD (pcD 3 k (fD rs k))]))) pr=some (rs.map (·.2)):=by
     rw[aP (f2.2 pr (jK hg) hne)];exact hg
    obtain ⟨b'',s7',s8',h',e1,p1,f1⟩:=aV B n l pr t hne hrs hf x2 x3 ss (ts++[wrD (pcD 3 k (fD rs k))]) b' (.int k) _ (some (.int s)) (some (.int k)) (by simp only[List.length_append,List.length_cons,List.length_nil];omega) (zH ht2 _) hg2
    have es:srv (fD rs) (b'+1) (k::ss.map fun s=>(l+1+s) % rs.length)=k::srv (fD rs) b' (ss.map fun s=>(l+1+s) % rs.length):=by
     rw[srv,if_neg (by rw[z];simp[yF])]
    refine⟨b'',s7',s8',h',?_,?_,f2.trans f1⟩
    ·rw[es];show _=SR.nx [_,_,_,_,_,_,some (kP (.int k) _),_,_] _;rw[<- e1]
     have i0:((ixN (r.length+1) 0).bind fun j=>(x::r)[j]?)=some x:=by
      rw[show ixN (r.length+1) 0=some 0 by unfold ixN;rw[if_pos (by omega),if_pos (by omega)];rfl];rfl
     have c1:qO (x::r) (some 1) none=r:=nR (x::r) 1;have z4:pcD 3 k (fD rs k)=.tup (x::.int 1::.int 3::.int k::r):=by rw[z];rfl
     have e2:qA fns B (n+7) 42 [.tup (x::.int 1::.int 3::.int k::r)] h=.ok (wrD (pcD 3 k (.tup (x::r)))) (h++g):=e2;rw[z];simp! only [yR,hg,List.length_map,if_pos hpos,e0,d1,Option.bind_some,ei,qDe,gt,List.length_cons,i0,if_pos (show 4<=16777216 by omega),c1,List.length_nil,if_pos (show 0+1+1+1+1+r.length<=16777216 by omega),List.cons_append,List.nil_append,e2,ht2,if_pos (show ts.length<16777216 by omega),show ((b'+1:Nat):Int)-1=(b':Int) by omega];rfl
    ·rw[es,List.map_cons,p1,List.append_assoc];rfl
end
def Ex(h h':AH):Prop:=h.length<=h'.length/\∀ i,i<h.length->h'[i]?=h[i]?
theorem Ex.kl{h h':AH}(e:Ex h h'):KL h h':=⟨e.1,fun i xs g=>e.2 i (jK g)⟩
theorem Ex.ko{h h':AH}(e:Ex h h'):KO h h':=fun i o g _=>by rw[e.2 i (List.getElem?_eq_some_iff.mp g).1];exact g
theorem Ex.app(h g:AH):Ex h (h++g):=⟨by simp,fun i hi=>List.getElem?_append_left hi⟩
theorem Ex.of{h h0 h':AH}{t:Nat}(a:Ex h h0)(f:Fr t h0 h')(ht:h.length<=t):Ex h h':=⟨Nat.le_trans a.1 f.1,fun i hi=>by rw[f.2 i (Nat.lt_of_lt_of_le hi a.1) (by omega),a.2 i hi]⟩
def Rot(n l:Nat)(la:Option Nat):Prop:=(List.range n).map (fun s=>(l+1+s) % n)=kE (List.range n) la
theorem qGN:∀ n,n<=8\/n=50->∀ l,l<n->Rot n l (some l):=by
 have a:∀ n,n<=8->∀ l,l<n->(List.range n).map (fun s=>(l+1+s) % n)=(List.range n).filter (fun k=>decide (l<k))++(List.range n).filter (fun k=>decide (k<=l)):=by decide +kernel
 have b:∀ l,l<50->(List.range 50).map (fun s=>(l+1+s) % 50)=(List.range 50).filter (fun k=>decide (l<k))++(List.range 50).filter (fun k=>decide (k<=l)):=by decide +kernel
 intro n hn l hl;rcases hn with z | rfl
 ·exact a n z l hl
 ·exact b l hl
theorem qGO:∀ n,n<=8\/n=50->Rot n (n-1) none:=by
 have a:∀ n,n<=8->(List.range n).map (fun s=>(n-1+1+s) % n)=List.range n:=by decide +kernel
 have b:(List.range 50).map (fun s=>(50-1+1+s) % 50)=List.range 50:=by decide +kernel
 intro n hn;rcases hn with z | rfl
 ·exact a n z
 ·exact b
section
variable {h:AH}{rs:List (Bool × D)}
theorem qJm(B n bn l pr:Nat)(met:Bool)(la:Option Nat)(hr:Rot rs.length l la)(hrs:1<=rs.length)(hrs2:rs.length<=50)(hf:∀ k,k<rs.length->cM k (fD rs k))(hg:qC h pr=some (rs.map (·.2))) :
  ∃ t h',qA fns B (n+8) qKz [.ref pr,.int l,.int bn,.bl met] h=.ok (.tup [.ref t,kP (.int l) (now rs bn la)]) h'/\h'[t]?=some (.lst ((kL 3 met rs bn la).map wrD))/\Ex h h'/\h.length<=t:=by
 rw[qN9];unfold Rot at hr;have hne:pr≠h.length:=by have:=jK hg;omega
 have main:∀ (ts:List D) (h0:AH),Ex h h0->ts.length<=1->h0[h.length]?=some (.lst ts)->∃ h',qB (qA fns B (n+7)) B oQ [some (.ref pr),some (.int l),some (.int bn),some (.bl met),some (.ref h.length),none,none,none,none] h0=.rt (.tup [.ref h.length,kP (.int l) (now rs bn la)]) h'/\h'[h.length]?=some (.lst (ts++(now rs bn la).map fun k=>wrD (pcD 3 k (fD rs k))))/\Ex h h':=by
  intro ts h0 x0 tl ht;have hg0:=x0.kl.gl hg;obtain ⟨b'',s7',s8',h',e1,p1,f1⟩:=aV (rs:=rs) B n l pr h.length hne hrs hf (some (.int bn)) (some (.bl met)) (List.range rs.length) ts bn (.int l) h0 none none (by rw[List.length_range];omega) ht hg0;rw[hr] at e1 p1;refine⟨h',?_,p1,Ex.of x0 f1 (Nat.le_refl _)⟩;have hs:zI ((rs.length:Nat):Int):=by unfold zI;omega
  simp! only [oQ,hg0,List.length_map,if_pos hs,Int.toNat_natCast,uJ,e1,qDd,i11];rfl
 cases met with
 |true=>
  obtain ⟨h',e1,p1,x1⟩:=main [] (h++[.lst []]) (Ex.app h _) (by simp) (by rw[qS];rfl);refine⟨h.length,h',?_,?_,x1,Nat.le_refl _⟩
  ·simp! only [bO,e1]
  ·rw[p1,List.nil_append];unfold kL;rw[if_pos rfl,List.nil_append,List.map_map];rfl
 |false=>
  obtain ⟨g,e0⟩:=wE B n (wV 1 0 (by omega) (by omega) (by omega)) (h++[.lst []]);have e0:qA fns B (n+7) 42 [.tup [.str [104,101,108,108,111],.int 1,.int 0]] (h++[.lst []])=.ok (wrD (qM 1 0)) (h++[.lst []]++g):=e0;have hs:(h++[O.lst []]++g).set h.length (.lst [wrD (qM 1 0)])=h++(.lst [wrD (qM 1 0)]::g):=by rw[List.append_assoc,jW];rfl
  have hx:(h++[O.lst []]++g)[h.length]?=some (.lst []):=by rw[List.append_assoc,qS];rfl
  obtain ⟨h',e1,p1,x1⟩:=main [wrD (qM 1 0)] (h++(.lst [wrD (qM 1 0)]::g)) (Ex.app h _) (by simp) (by rw[qS];rfl);refine⟨h.length,h',?_,?_,x1,Nat.le_refl _⟩
  ·simp! only [bO,qDf,zA,zW,i10,e0,hx,List.length_nil,i14,List.nil_append,hs,e1]
  ·rw[p1];unfold kL;rw[if_neg (by simp),List.map_append,List.map_map];rfl
end
theorem qAz(v:Bool):pc (qM 3 (b2i v)):=by
 cases v with
 |false=>exact wV 3 0 (by omega) (by omega) (by omega)
 |true=>exact wV 3 1 (by omega) (by omega) (by omega)
theorem qA0(k:Nat)(hk:k<50)(u:Int)(h0:0<=u)(h1:u<=1):pc (.tup [.str ANS,.int 3,.int 1,.int k,.int u,.int 1,.tup []]):=by
 rw[show u=((u.toNat:Nat):Int) by omega];exact qGm k hk u.toNat (by omega)
section
variable {p q gd td:Nat}{m b:Int}{h h':AH}{sl:D}{y:Int}{met:Bool}{as:List Nat}{rs:List (Bool × D)}
theorem aE(B n:Nat)(H:Ho p q gd td m b h sl y met as rs){k a:Nat}(ha:as[k]?=some a):qA fns B (n+2) qLU [.ref p,.int k] h=.ok (.ref a) h:=by
 rw[qOk];have gn:=vS H.hg;have gi:ixK gd (.int k) h=.ok (.ref a) h:=by unfold ixK;rw[H.hg];simp only[yC ha]
 have gh:vF gd (.int k) h=.ok (.bl false) h:=by unfold vF;rw[H.hg];simp only[yC ha];rfl
 have e:qA fns B (n+1) 59 [.ref gd,.int k] h=.ok (.ref a) h:=by
  rw[qOP];simp! only [pV,gn,Option.bind_none,gh,qDs,gi,qDt]
 simp! only [sK,H.hp,vG,e]
theorem Ho.meet(H:Ho p q gd td m b h sl y met as rs)(y':Int)(met':Bool):Ho p q gd td m b (h.set q (.ins zG (mtg y' met'))) sl y' met' as rs:=by
 have np:∀ i o,h[i]?=some o->(∀ fs,o≠O.ins zG fs)->(h.set q (.ins zG (mtg y' met')))[i]?=some o:=fun i o e ne=>by
  rw[List.getElem?_set_ne (fun z=>by subst z;rw[H.hq] at e;cases e;exact ne _ rfl)];exact e
 refine⟨np _ _ H.hp (fun fs z=>by injection z with z1 z2;exact absurd z1 (by decide)),zH H.hq _,np _ _ H.hg (fun fs z=>by cases z),np _ _ H.ht (fun fs z=>by cases z),H.gt,H.la,H.lz,fun i a r h1 h2=>?_,H.nd⟩;obtain ⟨t,s,c,e0,es,ih,h5,h6⟩:=H.gv i a r h1 h2
 exact⟨t,s,c,e0,es,ih,np _ _ h5 (fun fs z=>by injection z with z1 z2;exact absurd z1 (by decide)),h6⟩
theorem qJe(B n:Nat)(v:Bool)(hq:h[q]?=some (.ins zG (mtg 0 false))):qA fns B (n+1) qCQ [.ref q,qM 3 (b2i v)] h=.ok (.tup [.bl true,.bl v]) (h.set q (.ins zG (mtg 3 v))):=by
 rw[qC7];have i1:∀ w:D,((ixN 3 1).bind fun j=>[D.str HELLO,.int 3,w][j]?)=some (.int 3):=fun _=>rfl;have i2:∀ w:D,((ixN 3 2).bind fun j=>[D.str HELLO,.int 3,w][j]?)=some w:=fun _=>rfl;have hs:=zH hq (.ins zG (mtg 3 false));cases v with
 |true=>simp! only [qM,uY,b2i,i1,i2,hq,wT,wU,show decide ((3:Int)<0)=false from rfl,show decide ((1:Int)<1)=false from rfl,bW,show decide ((0:Int)<3)=true from rfl,rO,clq,dQ,show 3<1000 by omega,qAs,zH hq,dO,List.set_set,bX,hs,show ((1:Int) == 1)=true from rfl,rN,bY,i11]
 |false=>simp! only [qM,uY,b2i,i1,i2,hq,wT,wU,show decide ((3:Int)<0)=false from rfl,show decide ((1:Int)<0)=false from rfl,bW,show decide ((0:Int)<3)=true from rfl,rO,clq,dQ,show 3<1000 by omega,qAs,zH hq,dO,List.set_set,bX,hs,show ((0:Int) == 1)=false from rfl,bY,i11]
def jS(k c:Int):D:=.tup [.str ANS,.int 3,.int 1,.int k,.int c,.int 1,.tup []]
theorem qJd(B n:Nat)(k c:Int)(hq:h[q]?=some (.ins zG (mtg 3 met))):qA fns B (n+1) qCQ [.ref q,jS k c] h=.ok (.tup [.bl false,.bl true]) (h.set q (.ins zG (mtg 3 true))):=by
 rw[qC7];have i1:((ixN 7 1).bind fun j=>[D.str ANS,.int 3,.int 1,.int k,.int c,.int 1,.tup []][j]?)=some (.int 3):=rfl;have i2:((ixN 7 2).bind fun j=>[D.str ANS,.int 3,.int 1,.int k,.int c,.int 1,.tup []][j]?)=some (.int 1):=rfl;simp! only [jS,uY,i1,i2,hq,wT,wU,show decide ((3:Int)<3)=false from rfl,show decide ((1:Int)<1)=false from rfl,bW,bX,show ((1:Int) == 1)=true from rfl,rN,clq,dQ,show 3<1000 by omega,dO,bY,i11]
theorem qBh(B n i:Nat)(hi:h[i]?=some (.dct [])):qA fns B (n+1) qLH [.ref i] h=.ok (.ref h.length) (h++[.dct []]):=by
 rw[qOY];have h1:(h++[.dct []])[i]?=some (.dct []):=zD _ hi;have h2:((h++[O.dct []]).set i (.rod []))[i]?=some (.rod []):=zH h1 _;have h3:((h++[O.dct []]).set i (.rod [])).set i (.dct [])=h++[.dct []]:=by rw[List.set_set,gM h1]
 simp! only [rJ,aW,qS,List.getElem?_cons_zero,List.length_nil,show jG []=[] from rfl,zS,h1,h2,h3,qD2,uD,List.zip_nil_left,List.foldl_nil,jW,List.set_cons_zero]
theorem qJr(B n:Nat)(H:Ho p q gd td m b h sl y met [] []):∃ gd' td' h',qA fns B (n+2) qLW [.ref p] h=.ok .non h'/\Ho p q gd' td' m b h' sl y met [] []/\KL h h':=by
 rw[qOm];have hg:h[gd]?=some (.dct []):=H.hg;have e1:=qBh B n gd hg;have hp1:=(H.app [.dct []]).hp;generalize hH:(h++[O.dct []]).set p (.ins qW (hst m b q h.length td sl))=H1;have hp2:H1[p]?=some (.ins qW (hst m b q h.length td sl)):=by rw[<- hH];exact zH hp1 _
 have keep:∀ i o,(h++[O.dct []])[i]?=some o->(∀ fs,o≠O.ins qW fs)->H1[i]?=some o:=fun i o e ne=>by
  rw[<- hH,List.getElem?_set_ne (fun z=>by subst z;rw[hp1] at e;cases e;exact ne _ rfl)];exact e
 have ht1:H1[td]?=some (.dct []):=keep _ _ (H.app [.dct []]).ht (fun fs z=>by cases z);have hq1:H1[q]?=some (.ins zG (mtg y met)):=keep _ _ (H.app [.dct []]).hq (fun fs z=>by injection z with z1 z2;exact absurd z1 (by decide));have hn1:H1[h.length]?=some (.dct []):=keep _ _ (by rw[qS];rfl) (fun fs z=>by cases z);have hl1:H1.length=h.length+1:=by rw[<- hH];simp
 have e2:=qBh B n td ht1;have hp3:=zD [O.dct []] hp2
 have keep2:∀ i o,(H1++[O.dct []])[i]?=some o->(∀ fs,o≠O.ins qW fs)->((H1++[O.dct []]).set p (.ins qW (hst m b q h.length H1.length sl)))[i]?=some o:=fun i o e ne=>by
  rw[List.getElem?_set_ne (fun z=>by subst z;rw[hp3] at e;cases e;exact ne _ rfl)];exact e
 refine⟨h.length,H1.length,(H1++[O.dct []]).set p (.ins qW (hst m b q h.length H1.length sl)),?_,⟨zH hp3 _,keep2 _ _ (zD _ hq1) (fun fs z=>by injection z with z1 z2;exact absurd z1 (by decide)),keep2 _ _ (zD _ hn1) (fun fs z=>by cases z),keep2 _ _ (by rw[qS];rfl) (fun fs z=>by cases z),by omega,rfl,by simp,(fun i a r h1 _=>by simp at h1),(fun i j a h1 _=>by simp at h1)⟩,?_⟩
 ·simp! only [sM,H.hp,vG,e1,hp1,clh,qCa,show 8<1000 by omega,qLi,hH,hp2,qLu,e2,hp3,qLg]
 ·refine (KL.app h [O.dct []]).trans (KL.trans (h':=H1) ?_ ((KL.app _ _).trans (KL.set _ (jP hp3))));rw[<- hH];exact KL.set _ (jP hp1)
end
section
variable {p q gd td:Nat}{m b:Int}{h h':AH}{sl:D}{y:Int}{met:Bool}{as:List Nat}{rs:List (Bool × D)}
theorem qJJ(B n:Nat)(hq:h[q]?=some (.ins zG (mtg y met))):qA fns B (n+1) qLI [.ref q] h=.ok (qM 1 y) h:=by
 rw[qOZ];simp! only [rK,hq,wU,wT,i10];rfl
theorem qJE(B n:Nat)(v:Int):qA fns B (n+1) qLN [.ref p,qM 3 v] h=.ok (.ref h.length) (h++[.lst []]):=by
 rw[qC8];have i0:((ixN 3 0).bind fun j=>[D.str HELLO,.int 3,.int v][j]?)=some (.str HELLO):=rfl;have w1:(HELLO == [100,97,116,97])=false:=by decide
 have w2:(HELLO == [101,110,100])=false:=by decide
 have w3:(HELLO == [97,110,115,119,101,114])=false:=by decide
 simp! only [qM,cA,i0,zX,eqD,w1,w2,rS,w3,rT]
theorem fW(B n:Nat)(j:Nat)(xs:List D)(hg:qC h j=some xs)(hl:xs.length<=10)(hpc:∀ d∈xs,pc d)(x0 x1 x2 x3 x4 x5:Option D) :
  ∃ g i,qB (qA fns B (n+8)) B sE [x0,x1,x2,x3,x4,x5,some (.ref j)] h=.rt (.ref i) (h++g):=by
 obtain ⟨g,e3,lv⟩:=eN (zY (den (qA fns B (n+8)) sF) [x0,x1,x2,x3,x4,x5,some (.ref j)]) wrD j xs h hg (by omega) (fun x hx G _=>by
  obtain ⟨g,e⟩:=wE B (n+1) (hpc x hx) G;refine⟨g,?_⟩;rw[vJ]
  simp! only [sF,e])
 refine⟨g++[.lst (xs.map wrD)],(h++g).length,?_⟩;simp! only [sE,hg,if_pos lv,e3,newL,jU,jT,List.length_map,if_pos (show xs.length<=16777216 by omega),List.append_assoc]
theorem qJf(B n:Nat)(v:Bool)(H:Ho p q gd td m b h sl 0 false [] []):∃ j gd' td' h',qA fns B (n+9) qCR [.ref p,wrD (qM 3 (b2i v))] h=.ok (.ref j) h'/\Ho p q gd' td' m b h' sl 3 v [] []/\KL h h':=by
 rw[qC9];obtain ⟨g0,e0⟩:∃ g,qA fns B (n+8) 46 [wrD (qM 3 (b2i v))] h=.ok (qM 3 (b2i v)) (h++g):=qBX B n (qAz v) (.inl rfl) h;have H0:=H.app g0;have e1:=qJe B (n+7) v H0.hq;have H1:=H0.meet 3 v;obtain ⟨gd',td',h2,e2,H2,k2⟩:=qJr B (n+6) H1;have k02:KL h h2:=((KL.app h g0).trans (KL.set _ (jP H0.hq))).trans k2;have e3:=qJJ B (n+7) (H2.app [.lst []]).hq;have gl3:qC (h2++[.lst [qM 1 3]]) h2.length=some [qM 1 3]:=by rw[zA];rfl
 have H3:=H2.app [.lst [qM 1 3]]
 have hpc:∀ d∈[qM 1 3],pc d:=fun d hd=>by
  rcases List.mem_cons.mp hd with rfl | z
  ·exact wV 1 3 (by omega) (by omega) (by omega)
  ·cases z
 have e5:=fun hh:AH=>qJE (p:=p) (h:=hh) B (n+7) (b2i v);generalize qM 3 (b2i v)=X at e0 e1 e5 ⊢;cases v with
 |false=>obtain ⟨g4,i,e4⟩:=fW B n h2.length [qM 1 3] gl3 (by simp) hpc (some (.ref p)) (some (wrD X)) (some X) (some (.tup [.bl true,.bl false])) (some (.bl true)) (some (.bl false));refine⟨i,gd',td',h2++[.lst [qM 1 3]]++g4,?_,H3.app g4,(k02.trans (KL.app _ _)).trans (KL.app _ _)⟩;simp! only [gB,cG,e0,cE,H0.hp,wH,H0.hq,dP,tbq,e1,cF,show ((ixN 2 0).bind fun j=>[D.bl true,.bl false][j]?)=some (.bl true) from rfl,show ((ixN 2 1).bind fun j=>[D.bl true,.bl false][j]?)=some (.bl false) from rfl,sJ,H1.hp,qCZ,tbh,e2,cC,sI,zA,zW,(H2.app [.lst []]).hp,(H2.app [.lst []]).hq,qAt,e3,qS,List.getElem?_cons_zero,List.length_nil,i14,jW,List.set_cons_zero,List.nil_append,cD,e4]
 |true=>
  have e5:=e5 (h2++[.lst [qM 1 3]]);have H4:=H3.app [.lst []];have g1:(h2++[O.lst [qM 1 3]]++[O.lst []])[h2.length]?=some (.lst [qM 1 3]):=by rw[List.append_assoc,qS];rfl
  have g2:(h2++[O.lst [qM 1 3]]++[O.lst []])[(h2++[O.lst [qM 1 3]]).length]?=some (.lst []):=by rw[qS];rfl
  have g3:(h2++[O.lst [qM 1 3]]++[O.lst []]).set h2.length (.lst [qM 1 3])=h2++[O.lst [qM 1 3]]++[O.lst []]:=gM g1;obtain ⟨g4,i,e4⟩:=fW (h:=h2++[O.lst [qM 1 3]]++[O.lst []]) B n h2.length [qM 1 3] (qY g1) (by simp) hpc (some (.ref p)) (some (wrD X)) (some X) (some (.tup [.bl true,.bl true])) (some (.bl true)) (some (.bl true));refine⟨i,gd',td',h2++[.lst [qM 1 3]]++[.lst []]++g4,?_,H4.app g4,((k02.trans (KL.app _ _)).trans (KL.app _ _)).trans (KL.app _ _)⟩;simp! only [gB,cG,e0,cE,H0.hp,wH,H0.hq,dP,tbq,e1,cF,show ((ixN 2 0).bind fun j=>[D.bl true,.bl true][j]?)=some (.bl true) from rfl,show ((ixN 2 1).bind fun j=>[D.bl true,.bl true][j]?)=some (.bl true) from rfl,sJ,H1.hp,qCZ,tbh,e2,cC,sI,zA,zW,(H2.app [.lst []]).hp,(H2.app [.lst []]).hq,qAt,e3,qS,List.getElem?_cons_zero,List.length_nil,i14,jW,List.set_cons_zero,List.nil_append,cD,sG,H3.hp,qCV,e5,g1,g2,List.append_nil,List.length_cons,if_pos (show 0+1+0<=16777216 by omega),g3,e4]
end
section
variable {p q gd td:Nat}{m b:Int}{h h':AH}{sl:D}{y:Int}{met:Bool}{as:List Nat}{rs:List (Bool × D)}{t:Tx}{s c:Int}{e es ih:Bool}{d:D}
theorem qJV(B n:Nat)(hB:1<=B){a:Nat}(hi:h[a]?=some (.ins qH (giv m t s c e es ih)))(hc:0<=c):qA fns B (n+3) qLZ [.ref a,.tup []] h=.ok (.tup []) h:=by
 rw[qOq];simp! only [sW,hi,fZ,aR,qBf hB hc,zS,qEJ]
theorem qJk(B n:Nat)(hB:1<=B){a:Nat}{x:Nat}(u:Int)(hu:0<=u)(hu2:u<=1)(hc:0<=c)(hi:h[a]?=some (.ins qH (giv m [x] s c false false ih))) :
  qA fns B (n+4) qLc [.ref a,.int u,.int 1,.tup []] h=.ok .non (h.set a (.ins qH (giv m [x] s (if u > c then u else c) false false true))):=by
 rw[qOt];have hx:([x]:Tx).length=1:=rfl;have d1:decide (((1:Nat):Int)<u)=false:=decide_eq_false (by omega);have d2:decide ((2:Int)<u)=false:=decide_eq_false (by omega);have hc2:0<=(if u > c then u else c):=by split <;> omega
 have tk:=qJV (B:=B) (n:=n) hB (h:=h.set a (.ins qH (giv m [x] s (if u > c then u else c) false false true))) (a:=a) (zH hi _) hc2;generalize hcc:(if u > c then u else c)=c' at tk ⊢;simp! only [tE,hi,yL,kH,hx,i13,d1,d2,qEL,uR,qCz,qCy,uM,show 10<1000 by omega,qL2,zH hi,aR,hcc,qL6,List.set_set,uL,show (if (1:Int) > 1 then (1:Int) else 1)=1 from rfl,qL1,qIn,tbg,tk,qLz,qL5]
theorem Gq.ans(g:Gq true t s c e es ih d):∃ x,t=[x]/\e=false/\es=false/\(s=0\/s=1)/\0<=c/\Gq true [x] s (if b2i (s == 1) > c then b2i (s == 1) else c) false false true (if s=1 then .non else d):=by
 cases g with
 |short x s ih ok hs=>
  rcases hs with rfl | rfl
  ·exact⟨x,rfl,rfl,rfl,.inl rfl,by omega,.short x 0 true ok (.inl rfl)⟩
  ·exact⟨x,rfl,rfl,rfl,.inr rfl,by omega,.idle x ok⟩
 |idle x ok=>exact⟨x,rfl,rfl,rfl,.inr rfl,by omega,.idle x ok⟩
theorem qJg(B n:Nat)(hB:1<=B)(H:Ho p q gd td m b h sl 3 met as rs){k a:Nat}(ha:as[k]?=some a)(hr:rs[k]?=some (true,d))(hi:h[a]?=some (.ins qH (giv m t s c e es ih)))(hg:Gq true t s c e es ih d) :
  ∃ j h',qA fns B (n+9) qCR [.ref p,wrD (jS k (b2i (s == 1)))] h=.ok (.ref j) h'/\Ho p q gd td m b h' sl 3 true as (rs.set k (true,if s=1 then .non else d))/\KL h h'/\∃ t c e es ih,h'[a]?=some (.ins qH (giv m t s c e es ih)):=by
 rw[qC9];obtain ⟨x,rfl,rfl,rfl,hs,hc,g2⟩:=hg.ans;have lz:=H.lz;have hkl:k<as.length:=(List.getElem?_eq_some_iff.mp ha).1;have hu:0<=b2i (s == 1)/\b2i (s == 1)<=1:=by cases (s == 1) <;> decide
 generalize b2i (s == 1)=u at hu g2 ⊢;obtain ⟨g0,e0⟩:=qBX B n (qA0 k (by omega) u hu.1 hu.2) (.inr rfl) h;have e0:qA fns B (n+8) 46 [wrD (jS k u)] h=.ok (jS k u) (h++g0):=e0;have H0:=H.app g0;have e1:=qJd B (n+7) k u H0.hq;have H1:=H0.meet 3 true
 have hi1:((h++g0).set q (.ins zG (mtg 3 true)))[a]?=some (.ins qH (giv m [x] s c false false ih)):=by
  rw[List.getElem?_set_ne (fun z=>by subst z;have:=H.hq;rw[hi] at this;injection this with z;injection z with z1 z2;exact absurd z1 (by decide))];exact zD _ hi
 generalize hG:(h++g0).set q (.ins zG (mtg 3 true))=G at e1 H1 hi1;have k0G:KL h G:=by rw[<- hG];exact (KL.app h g0).trans (KL.set _ (jP H0.hq))
 have H2:=H1.app [.lst []];have hi2:=zD [O.lst []] hi1;have e2:=qJk B (n+2) hB u hu.1 hu.2 hc hi2;have gn:=vS H2.hg;have gk:aQ gd (.int k) (G++[.lst []])=.ok (.ref a) (G++[.lst []]):=by unfold aQ;rw[H2.hg];simp only[yC ha,Option.getD_some]
 generalize hW:(G++[O.lst []]).set a (.ins qH (giv m [x] s (if u > c then u else c) false false true))=W at e2;have hiW:W[a]?=some (.ins qH (giv m [x] s (if u > c then u else c) false false true)):=by rw[<- hW];exact zH hi2 _
 have HW:Ho p q gd td m b W sl 3 true as (rs.set k (true,if s=1 then .non else d)):=by
  refine H2.giv ha (by rw[<- H.la];exact hkl) ?_ ⟨_,_,_,_,_,_,hiW,by simp,g2⟩;rw[<- hW];exact Fr.set _ _ _
 have kW:KL h W:=by
  rw[<- hW];exact (k0G.trans (KL.app _ _)).trans (KL.set _ (jP hi2))
 have lW:W.length=G.length+1:=by rw[<- hW];simp
 have gW:W[G.length]?=some (.lst []):=by
  rw[<- hW,List.getElem?_set_ne (fun z=>by subst z;have:=(List.getElem?_eq_some_iff.mp hi1).1;omega),qS];rfl
 have i3:((ixN 7 3).bind fun j=>[D.str ANS,.int 3,.int 1,.int k,.int u,.int 1,.tup []][j]?)=some (.int k):=rfl;have i4:((ixN 7 4).bind fun j=>[D.str ANS,.int 3,.int 1,.int k,.int u,.int 1,.tup []][j]?)=some (.int u):=rfl;have i5:((ixN 7 5).bind fun j=>[D.str ANS,.int 3,.int 1,.int k,.int u,.int 1,.tup []][j]?)=some (.int 1):=rfl;have i6:((ixN 7 6).bind fun j=>[D.str ANS,.int 3,.int 1,.int k,.int u,.int 1,.tup []][j]?)=some (.tup []):=rfl
 have e3:qA fns B (n+7) 83 [.ref p,jS k u] (G++[.lst []])=.ok .non W:=by
  rw[qOo];simp! only [jS,sO,H2.hp,vG,H2.hg,i3,gk,qD9,hi2,qIp,tbg,i4,i5,i6,e2]
 have e4:qA fns B (n+8) 80 [.ref p,jS k u] (G++[.lst []])=.ok (.ref W.length) (W++[.lst []]):=by
  rw[qC8];have i0:((ixN 7 0).bind fun j=>[D.str ANS,.int 3,.int 1,.int k,.int u,.int 1,.tup []][j]?)=some (.str ANS):=rfl;have w1:(ANS == [100,97,116,97])=false:=by decide
  have w2:(ANS == [101,110,100])=false:=by decide
  have w3:(ANS == [97,110,115,119,101,114])=true:=by decide
  have e3:qA fns B (n+7) 83 [.ref p,.tup [D.str ANS,.int 3,.int 1,.int k,.int u,.int 1,.tup []]] (G++[.lst []])=.ok .non W:=e3;simp! only [jS,cA,i0,zX,eqD,w1,w2,rS,w3,qD4,H2.hp,qLo,tbh,e3,rT]
 have g5:(W++[O.lst []])[G.length]?=some (.lst []):=zD _ gW;have g6:(W++[O.lst []])[W.length]?=some (.lst []):=by rw[qS];rfl
 have g7:(W++[O.lst []]).set G.length (.lst [])=W++[.lst []]:=gM g5;have gl:qC (G++[.lst []]) G.length=some []:=by rw[zA];rfl
 obtain ⟨g8,i,e8⟩:=fW (h:=W++[O.lst []]) B n G.length [] (qY g5) (by simp) (fun d hd=>by cases hd) (some (.ref p)) (some (wrD (jS k u))) (some (jS k u)) (some (.tup [.bl false,.bl true])) (some (.bl false)) (some (.bl true));refine⟨i,W++[.lst []]++g8,?_,(HW.app _).app _,(kW.trans (KL.app _ _)).trans (KL.app _ _),⟨_,_,_,_,_,zD _ (zD _ hiW)⟩⟩;generalize jS k u=X at e0 e1 e3 e4 e8 ⊢;simp! only [gB,cG,e0,cE,H0.hp,wH,H0.hq,dP,tbq,e1,cF,show ((ixN 2 0).bind fun j=>[D.bl false,.bl true][j]?)=some (.bl false) from rfl,show ((ixN 2 1).bind fun j=>[D.bl false,.bl true][j]?)=some (.bl true) from rfl,cC,cD,sG,gl,H2.hp,qCV,tbh,e4,g5,g6,List.append_nil,List.length_nil,if_pos (show 0+0<=16777216 by omega),g7,e8]
end
def ALL:Tx:=[32,33,34,35,36,38,39,40,41,42,43,44,45,46,47,48,49,50,51,52,53,54,55,56,57,58,59,60,61,62,63,64,65,66,67,68,69,70,71,72,73,74,75,76,77,78,79,80,81,82,83,84,85,86,87,88,89,90,91,92,93,94,95,96,97,98,99,100,101,102,103,104,105,106,107,108,109,110,111,112,113,114,115,116,117,118,119,120,121,122,123,124,125,126]
theorem qRm:∀ c∈ALL,okC c=true:=by decide
theorem qKV(i:Int):ixN 94 (i % 94)=some (i % 94).toNat:=by
 have h1:=Int.emod_nonneg i (show (94:Int)≠0 by omega);have h2:=Int.emod_lt_of_pos i (show (0:Int)<94 by omega);unfold ixN;rw[if_pos h1,if_pos (by omega)]
theorem qEP(i:Int):ALL[(i % 94).toNat]?=some (ALL.getD (i % 94).toNat 0):=by
 have h1:=Int.emod_nonneg i (show (94:Int)≠0 by omega);have h2:=Int.emod_lt_of_pos i (show (0:Int)<94 by omega);rw[List.getD_eq_getElem?_getD,List.getElem?_eq_getElem (show (i % 94).toNat<94 by omega),Option.getD_some]
theorem qBQ(f:D->M (Option D))(r:D->D):∀ (xs:List D) (h:AH),(∀ x∈xs,f x h=.ok (some (r x)) h)->zC f xs h=.ok (xs.map r) h
 | [],h,_=>rfl
 |x::xs,h,H=>by
  unfold zC;simp! only [H x (List.mem_cons_self ..),qBQ f r xs h fun y hy=>H y (List.mem_cons_of_mem _ hy),List.map_cons]
def sgn(c:Int)(k:Int):Nat:=ALL.getD ((c+7*k+k*k / 3) % 94).toNat 0
theorem qFq(c k:Int):okC (sgn c k)=true:=qRm _ (List.mem_of_getElem? (qEP _))
def qA8(c:Int):D->D
 | .int v=>.str [sgn c v]
 |d=>d
theorem qAD(f:Nat->Nat):∀ ks:List Nat,jC (ks.map fun k=>D.str [f k])=some (ks.map fun k=>[f k])
 | []=>rfl
 |k::r=>by rw[List.map_cons,jC,qAD f r];rfl
theorem qBy(f:Nat->Nat):∀ ks:List Nat,zF [] (ks.map fun k=>[f k])=ks.map f
 | []=>rfl
 | [k]=>rfl
 |k::j::r=>by
  have ih:=qBy f (j::r);rw[List.map_cons] at ih;rw[List.map_cons,List.map_cons,zF,ih];rfl
theorem qKP(f:Nat->Nat)(ks:List Nat):kA [] (ks.map fun k=>[f k])=ks.length:=by
 unfold kA;rw[List.map_map,List.length_nil,Nat.mul_zero,Nat.add_zero]
 induction ks with
 |nil=>rfl
 |cons k r ih=>rw[List.map_cons,List.sum_cons,ih,List.length_cons];show 1+r.length=_;omega
theorem qJH(B n:Nat)(c:Int)(m:Nat)(h:AH)(hm:m<=1000):∃ w g,qA fns B (n+1) qKx [.int c,.int m] h=.ok (.str w) (h++g)/\w.all okC=true/\w.length=m:=by
 rw[qN7];have hs:zI (m:Int):=by unfold zI;omega
 have em:zC (zY (den (qA fns B n) oN) [some (.int c),some (.int m),some (.str ALL)]) (iD (List.range m)) h=.ok ((iD (List.range m)).map (qA8 c)) h:=by
  refine qBQ _ _ _ _ fun x hx=>?_;unfold iD at hx;obtain ⟨k,hk,rfl⟩:=List.mem_map.mp hx;have hk:=List.mem_range.mp hk;have b1:kO 7 (k:Int):=eJ (by omega);have b2:kO (k:Int) (k:Int):=eJ (by omega)
  have e1:((ixN ALL.length ((c+7*(k:Int)+(k:Int)*(k:Int) / 3) % 94)).bind fun j=>ALL[j]?)=some (sgn c k):=by
   show ((ixN 94 _).bind fun j=>ALL[j]?)=_;rw[qKV,Option.bind_some,qEP];rfl
  rw[vJ];simp! only [oN,if_pos b1,if_pos b2,i16,i18,and_self,show (0:Int)<94 by omega,show ALL.length<=16777216 by decide,e1];rfl
 have ex:(iD (List.range m)).map (qA8 c)=(List.range m).map fun k:Nat=>D.str [sgn c k]:=by
  unfold iD;rw[List.map_map];rfl
 rw[ex] at em;refine⟨(List.range m).map fun k:Nat=>sgn c k,[.lst ((List.range m).map fun k:Nat=>D.str [sgn c k])],?_,?_,by simp⟩
 ·unfold ALL at em;simp! only [oO,if_pos hs,Int.toNat_natCast,uJ,jI,List.length_range,if_pos (show m<16777216 by omega),em,newL,jU,jT,List.length_map,if_pos (show m<=16777216 by omega),zA,zW,Option.bind_some,qAD,qKP,qBy]
 ·rw[List.all_eq_true];intro x hx;obtain ⟨k,_,rfl⟩:=List.mem_map.mp hx;exact qFq c k
section
variable {p q gd td:Nat}{m b:Int}{h h':AH}{sl:D}{y:Int}{met:Bool}{as:List Nat}{rs:List (Bool × D)}{t:Tx}{s c:Int}{e es ih:Bool}{d:D}
theorem qJG(B n:Nat)(H:Ho p q gd td m b h sl 3 met as rs)(hl:as.length<50):∃ h',qA fns B (n+2) qLP [.ref p] h=.ok (.int as.length) h'/\Ho p q gd td m b h' sl 3 met (as++[h.length]) (rs++[(false,jL [])])/\KL h h'/\h'[h.length]?=some (.ins qH (giv m [] 0 0 false false false)):=by
 rw[qOf];have gn:=vS H.hg;have gl:yB gd h=.ok (.int as.length) h:=by unfold yB;rw[H.hg];simp only[aG]
 have d1:((as.length:Int) == 50)=false:=by rw[beq_eq_false_iff_ne];omega
 have e1:=qJi B n h m;have H1:=H.app [.ins qH (giv m [] 0 0 false false false)];have gn1:=vS H1.hg
 have pk:wA (.ref h.length) gd (.int as.length) (h++[.ins qH (giv m [] 0 0 false false false)])=.ok () ((h++[O.ins qH (giv m [] 0 0 false false false)]).set gd (.dct (kvA 0 (as++[h.length])))):=by
  unfold wA;rw[H1.hg];simp only[aG,if_pos (show as.length<16777216 by omega),qJ6]
 have np:∀ i o,(h++[O.ins qH (giv m [] 0 0 false false false)])[i]?=some o->i≠gd->((h++[O.ins qH (giv m [] 0 0 false false false)]).set gd (.dct (kvA 0 (as++[h.length]))))[i]?=some o:=fun i o z1 z2=>by
  rw[List.getElem?_set_ne (Ne.symm z2)];exact z1
 have ni:∀ i c fs,(h++[O.ins qH (giv m [] 0 0 false false false)])[i]?=some (.ins c fs)->i≠gd:=fun i c fs z1 z2=>by
  subst z2;rw[H1.hg] at z1;cases z1
 have hn:(h++[O.ins qH (giv m [] 0 0 false false false)])[h.length]?=some (.ins qH (giv m [] 0 0 false false false)):=by rw[qS];rfl
 refine⟨_,?_,⟨np _ _ H1.hp (ni _ _ _ H1.hp),np _ _ H1.hq (ni _ _ _ H1.hq),zH H1.hg _,np _ _ H1.ht (Ne.symm H.gt),H.gt,?_,?_,?_,?_⟩,(KL.app _ _).trans (KL.set _ gn1),np _ _ hn (ni _ _ _ hn)⟩
 ·simp! only [rW,H.hp,wH,H.hq,wT,show ((3:Int) == 0)=false from rfl,qD5,vG,gn,gl,d1,qD6,qLw,wY,e1,H1.hp,H1.hg,pk]
 ·rw[List.length_append,List.length_append,H.la];rfl
 ·rw[List.length_append];simp;omega
 ·intro k a r h1 h2
  by_cases z:k<as.length
  ·rw[List.getElem?_append_left z] at h1;rw[List.getElem?_append_left (by rw[<- H.la];exact z)] at h2;obtain ⟨t,s,c,e0,es,ih,h5,h6⟩:=H1.gv k a r h1 h2
   exact⟨t,s,c,e0,es,ih,np _ _ h5 (ni _ _ _ h5),h6⟩
  ·rw[List.getElem?_append_right (by omega)] at h1;rw[List.getElem?_append_right (by rw[<- H.la];omega)] at h2
   have z2:k-as.length=0:=by
    have:=(List.getElem?_eq_some_iff.mp h1).1
    simp at this;omega
   rw[z2] at h1;rw[<- H.la,z2] at h2;cases h1;cases h2
   exact⟨_,_,_,_,_,_,np _ _ hn (ni _ _ _ hn),by simp,.new⟩
 ·intro i j a h1 h2
  have old:∀ k,as[k]?=some a->a<h.length:=fun k z=>by
   have hr:k<rs.length:=by rw[<- H.la];exact (List.getElem?_eq_some_iff.mp z).1
   obtain ⟨_,_,_,_,_,_,h5,_⟩:=H.gv k a _ z (show rs[k]?=some rs[k] by simp[hr]);exact (List.getElem?_eq_some_iff.mp h5).1
  have new:∀ k,¬ k<as.length->(as++[h.length])[k]?=some a->k=as.length/\a=h.length:=fun k z1 z2=>by
   rw[List.getElem?_append_right (by omega)] at z2
   have z3:k-as.length=0:=by
    have:=(List.getElem?_eq_some_iff.mp z2).1
    simp at this;omega
   rw[z3] at z2;cases z2
   exact⟨by omega,rfl⟩
  by_cases z1:i<as.length
  ·rw[List.getElem?_append_left z1] at h1
   by_cases z2:j<as.length
   ·rw[List.getElem?_append_left z2] at h2;exact H.nd i j a h1 h2
   ·have:=old _ h1
    have:=new _ z2 h2
    omega
  ·have n1:=new _ z1 h1
   by_cases z2:j<as.length
   ·rw[List.getElem?_append_left z2] at h2
    have:=old _ h2
    omega
   ·have:=new _ z2 h2
    omega
theorem qJZ(B n:Nat)(H:Ho p q gd td m b h sl 3 met as rs){k a:Nat}(ha:as[k]?=some a)(hi:h[a]?=some (.ins qH (giv m [] s c false es ih)))(ht:1<=t.length)(ht2:t.length<=200):qA fns B (n+3) qLL [.ref p,.int k,.str t] h=.ok .non (h.set a (.ins qH (giv m t s c false es ih))):=by
 rw[qOc];simp! only [rP,H.hp,aO,tbh,aE B n H ha,hi,qIm,tY,qJh hi ht ht2]
theorem qJb(B n:Nat)(H:Ho p q gd td m b h sl 3 met as rs){k a:Nat}(ha:as[k]?=some a)(hi:h[a]?=some (.ins qH (giv m t s c false es ih))):qA fns B (n+3) qLV [.ref p,.int k] h=.ok .non (h.set a (.ins qH (giv m t s c true es ih))):=by
 rw[qOl];simp! only [sL,H.hp,aO,tbh,aE B n H ha,hi,qIo,tY,qJj hi]
def zZ(t:Tx)(e:Bool):D:=match t with
 |x::_=>jL [x]
 | []=>if e=true then uN else jL []
theorem gq0(hok:t.all okC=true)(he:e=true->t.length≠1):Gq (t.length == 1) t 0 0 e false false (zZ t e):=by
 match t,hok,he with
 | [],_,_=>
  cases e with
  |true=>exact .fin false
  |false=>exact .new
 | [x],hok,he=>
  cases e with
  |true=>exact absurd rfl (he rfl)
  |false=>refine .short x 0 false ?_ (.inl rfl);simpa using hok
 |x::y::r,hok,he=>
  have hx:okC x=true:=by
   rw[List.all_cons,Bool.and_eq_true] at hok;exact hok.1
  have:((x::y::r).length == 1)=false:=by rw[beq_eq_false_iff_ne];simp
  rw[this];exact .long x y r 0 e hx (.inl rfl)
theorem qJU(B n:Nat)(hl:t.length<=200):qA fns B (n+1) qKy [.str t,.bl e] h=.ok (zZ t e) h:=by
 rw[qN8]
 match t,hl with
 | [],hl=>
  have w:(([]:Tx) == [])=true:=rfl;cases e with
  |true=>simp! only [uU,zX,eqD,w,oP,i11];rfl
  |false=>simp! only [uU,zX,eqD,w,oP,qDc,i10];rfl
 |x::r,hl=>have w:((x::r:Tx) == [])=false:=rfl;have c1:qO (x::r) none (some 1)=[x]:=nQ (x::r) 1;simp only[List.length_cons] at hl;simp! only [uU,zX,eqD,w,if_pos (show r.length<=16777215 by omega),c1,i10];rfl
end
theorem qBI:((306712044914:Nat) == qW)=false:=by decide
def K2(pr sr:Nat)(h h':AH):Prop:=h.length<=h'.length/\∀ i xs,i≠pr->i≠sr->qC h i=some xs->h'[i]?=h[i]?
theorem K2.gl{pr sr:Nat}{h h':AH}(k:K2 pr sr h h'){i:Nat}{xs:List D}(n1:i≠pr)(n2:i≠sr)(e:qC h i=some xs):qC h' i=some xs:=by
 rw[aP (k.2 i xs n1 n2 e)];exact e
theorem K2.trans{pr sr:Nat}{h h' h'':AH}(a:K2 pr sr h h')(b:K2 pr sr h' h''):K2 pr sr h h'':=⟨Nat.le_trans a.1 b.1,fun i xs n1 n2 e=>by rw[b.2 i xs n1 n2 (a.gl n1 n2 e),a.2 i xs n1 n2 e]⟩
theorem KL.k2{h h':AH}(pr sr:Nat)(k:KL h h'):K2 pr sr h h':=⟨k.1,fun i xs _ _ e=>k.2 i xs e⟩
theorem KP.k2a{pr:Nat}{h h':AH}(sr:Nat)(k:KP pr h h'):K2 pr sr h h':=⟨k.1,fun i xs n1 _ e=>k.2 i xs n1 e⟩
theorem KP.k2b{sr:Nat}{h h':AH}(pr:Nat)(k:KP sr h h'):K2 pr sr h h':=⟨k.1,fun i xs _ n2 e=>k.2 i xs n2 e⟩
def Sh(rs:List (Bool × D))(ks:List Nat):Prop:=∀ k∈ks,∃ d,rs[k]?=some (true,d)
theorem Sh.app{rs:List (Bool × D)}{ks:List Nat}(s:Sh rs ks)(r:Bool × D):Sh (rs++[r]) ks:=fun k hk=>by
 obtain ⟨d,e⟩:=s k hk
 exact⟨d,by rw[List.getElem?_append_left (List.getElem?_eq_some_iff.mp e).1];exact e⟩
section
variable {p q gd td:Nat}{m b:Int}{sl:D}{met:Bool}{rs:List (Bool × D)}{ks:List Nat}{pr sr size:Nat}
structure Ls (p q gd td:Nat) (m b:Int) (sl:D) (met:Bool) (pr sr:Nat) (h:AH) (rs:List (Bool × D)) (ks:List Nat):Prop where
 ho:∃ as,Ho p q gd td m b h sl 3 met as rs
 hr:h[pr]?=some (.lst (rs.map (·.2)))
 hs:h[sr]?=some (.lst (iD ks))
 sh:Sh rs ks
 kl:ks.length<=rs.length
theorem s6(B n:Nat)(hne:pr≠sr)(t:Tx)(e:Bool)(ht:t.length<=200)(x0 x1 x2 x6:Option D){h:AH}{as:List Nat}(hrl:rs.length<=50)(H:Ho p q gd td m b h sl 3 met as (rs++[(t.length == 1,zZ t e)]))(hr:h[pr]?=some (.lst (rs.map (·.2))))(hs:h[sr]?=some (.lst (iD ks)))(sh:Sh rs ks)(kl:ks.length<=rs.length) :
  ∃ h' ks',qB (qA fns B (n+3)) B bN [x0,x1,x2,some (.ref pr),some (.ref sr),some (.int rs.length),x6,some (.str t),some (.bl e)] h=.nx [x0,x1,x2,some (.ref pr),some (.ref sr),some (.int rs.length),x6,some (.str t),some (.bl e)] h'/\Ls p q gd td m b sl met pr sr h' (rs++[(t.length == 1,zZ t e)]) ks'/\K2 pr sr h h':=by
 have hz:t.length<=16777216:=by omega
 have d1:((t.length:Int) == 1)=(t.length == 1):=by
  rw[Bool.eq_iff_iff,beq_iff_eq,beq_iff_eq];omega
 have main:∀ (h1:AH) (ks':List Nat),h1[pr]?=some (.lst (rs.map (·.2)))->h1[sr]?=some (.lst (iD ks'))->Ho p q gd td m b h1 sl 3 met as (rs++[(t.length == 1,zZ t e)])->Sh (rs++[(t.length == 1,zZ t e)]) ks'->ks'.length<=rs.length+1 ->
   ∃ h',qB (qA fns B (n+3)) B oK [x0,x1,x2,some (.ref pr),some (.ref sr),some (.int rs.length),x6,some (.str t),some (.bl e)] h1=.nx [x0,x1,x2,some (.ref pr),some (.ref sr),some (.int rs.length),x6,some (.str t),some (.bl e)] h'/\Ls p q gd td m b sl met pr sr h' (rs++[(t.length == 1,zZ t e)]) ks'/\K2 pr sr h1 h':=by
  intro h1 ks' hr1 hs1 H1 sh1 kl1;have gr:=qY hr1;refine⟨h1.set pr (.lst ((rs++[(t.length == 1,zZ t e)]).map (·.2))),?_,⟨⟨as,H1.mono (KO.set _ gr)⟩,zH hr1 _,?_,sh1,by rw[List.length_append];exact kl1⟩,(KP.set pr h1 _).k2a sr⟩
  ·have lm:=qJU (h:=h1) (t:=t) (e:=e) B (n+2) ht;simp! only [oK,gr,lm,hr1,List.length_map,if_pos (show rs.length<16777216 by omega),List.map_append,List.map_cons,List.map_nil]
  ·rw[List.getElem?_set_ne hne];exact hs1
 cases q0:(t.length == 1) with
 |false=>rw[q0] at H main;obtain ⟨h',e1,L,k⟩:=main h ks hr hs H (sh.app _) (by omega);refine⟨h',ks,?_,L,k⟩;simp! only [bN,if_pos hz,d1,q0,e1]
 |true=>
  rw[q0] at H main;have gs:=qY hs
  have ex:∀ d:D,Sh (rs++[(true,d)]) (ks++[rs.length]):=fun d k hk=>by
   rcases List.mem_append.mp hk with z | z
   ·exact sh.app _ k z
   ·rcases List.mem_cons.mp z with rfl | z
    ·exact⟨d,by rw[List.getElem?_append_right (Nat.le_refl _),Nat.sub_self];rfl⟩
    ·cases z
  have ei:iD ks++[D.int (rs.length:Int)]=iD (ks++[rs.length]):=by unfold iD;rw[List.map_append];rfl
  obtain ⟨h',e1,L,k⟩:=main (h.set sr (.lst (iD (ks++[rs.length])))) (ks++[rs.length]) (by rw[List.getElem?_set_ne (Ne.symm hne)];exact hr) (zH hs _) (H.mono (KO.set _ gs)) (ex _) (by rw[List.length_append];simp;omega);refine⟨h',_,?_,L,((KP.set sr h _).k2b pr).trans k⟩;simp! only [bN,if_pos hz,d1,q0,qDX,gs,hs,jI,if_pos (show ks.length<16777216 by omega),ei,e1]
theorem s7(B n:Nat)(hne:pr≠sr)(t:Tx)(v:Int)(ht:t.length<=200)(hok:t.all okC=true)(x1 x2 x8:Option D){h:AH}{as:List Nat}{a:Nat}(H:Ho p q gd td m b h sl 3 met as (rs++[(t.length == 1,zZ t false)]))(ha:as[rs.length]?=some a)(hi:h[a]?=some (.ins qH (giv m t 0 0 false false false)))(hr:h[pr]?=some (.lst (rs.map (·.2))))(hs:h[sr]?=some (.lst (iD ks)))(sh:Sh rs ks)(kl:ks.length<=rs.length) :
  ∃ h' ks' d x8',qB (qA fns B (n+3)) B uT [some (.ref p),x1,x2,some (.ref pr),some (.ref sr),some (.int rs.length),some (.int v),some (.str t),x8] h=.nx [some (.ref p),x1,x2,some (.ref pr),some (.ref sr),some (.int rs.length),some (.int v),some (.str t),x8'] h'/\Ls p q gd td m b sl met pr sr h' (rs++[(t.length == 1,d)]) ks'/\K2 pr sr h h':=by
 have hz:t.length<=16777216:=by omega
 have lz:=H.lz;have la:=H.la;rw[List.length_append] at la;simp only[List.length_cons,List.length_nil] at la
 have d1:((t.length:Int) == 1)=(t.length == 1):=by
  rw[Bool.eq_iff_iff,beq_iff_eq,beq_iff_eq];omega
 have fin0:=fun hh=>s6 (rs:=rs) (p:=p) (q:=q) (gd:=gd) (td:=td) (m:=m) (b:=b) (sl:=sl) (met:=met) (ks:=ks) B n hne t false ht (some (.ref p)) x1 x2 (some (.int v)) (h:=hh) (as:=as) (by omega);cases q0:(v / 3 % 2 == 1) with
 |false=>obtain ⟨h',ks',e1,L,k⟩:=fin0 h H hr hs sh kl;refine⟨h',ks',_,some (.bl false),?_,L,k⟩;simp! only [uT,i16,i18,i17,and_self,q0,e1]
 |true=>
  cases q1:(t.length == 1) with
  |true=>rw[q1] at fin0 H;obtain ⟨h',ks',e1,L,k⟩:=fin0 h H hr hs sh kl;refine⟨h',ks',_,some (.bl false),?_,L,k⟩;simp! only [uT,i16,i18,i17,and_self,q0,if_pos hz,d1,q1,e1]
  |false=>
   have e2:=qJb B n H ha hi;have hi2:=zH hi (.ins qH (giv m t 0 0 true false false));have g2:=gq0 (t:=t) (e:=true) hok (fun _ z=>by rw[z] at q1;cases q1);have H2:=H.giv (r:=(t.length == 1,zZ t true)) ha (by rw[List.length_append];simp) (Fr.set a h _) ⟨_,_,_,_,_,_,hi2,ht,g2⟩
   have e3:(rs++[(t.length == 1,zZ t false)]).set rs.length (t.length == 1,zZ t true)=rs++[(t.length == 1,zZ t true)]:=by
    rw[List.set_append_right _ _ (Nat.le_refl _),Nat.sub_self];rfl
   rw[e3] at H2;have kS:KL h (h.set a (.ins qH (giv m t 0 0 true false false))):=KL.set _ (jP hi);obtain ⟨h',ks',e1,L,k⟩:=s6 B n hne t true ht (some (.ref p)) x1 x2 (some (.int v)) (by omega) H2 (by rw[kS.2 _ _ (qY hr)];exact hr) (by rw[kS.2 _ _ (qY hs)];exact hs) sh kl;rw[q1] at L;refine⟨h',ks',_,some (.bl true),?_,L,(kS.k2 pr sr).trans k⟩;simp! only [uT,i16,i18,i17,and_self,q0,if_pos hz,d1,q1,qDY,H.hp,qLn,qBI,e2,e1]
end
section
variable {p q gd td:Nat}{m b:Int}{sl:D}{met:Bool}{rs:List (Bool × D)}{ks:List Nat}{pr sr size:Nat}
theorem s8(B n:Nat)(hne:pr≠sr)(t:Tx)(v:Int)(ht:t.length<=200)(hok:t.all okC=true)(x1 x2 x8:Option D){h:AH}(L:Ls p q gd td m b sl met pr sr h rs ks)(hrl:rs.length<50) :
  ∃ h' ks' d x8',qB (qA fns B (n+3)) B bM [some (.ref p),x1,x2,some (.ref pr),some (.ref sr),some (.int rs.length),some (.int v),some (.str t),x8] h=.nx [some (.ref p),x1,x2,some (.ref pr),some (.ref sr),some (.int rs.length),some (.int v),some (.str t),x8'] h'/\Ls p q gd td m b sl met pr sr h' (rs++[(t.length == 1,d)]) ks'/\K2 pr sr h h':=by
 obtain ⟨as,H⟩:=L.ho;have la:=H.la;obtain ⟨h1,e1,H1,k1,hi1⟩:=qJG B (n+1) H (by omega);have ha:(as++[h.length])[rs.length]?=some h.length:=by rw[<- la,List.getElem?_append_right (Nat.le_refl _),Nat.sub_self];rfl
 have hr1:h1[pr]?=some (.lst (rs.map (·.2))):=by rw[k1.2 _ _ (qY L.hr)];exact L.hr
 have hs1:h1[sr]?=some (.lst (iD ks)):=by rw[k1.2 _ _ (qY L.hs)];exact L.hs
 match t,ht,hok with
 | [],ht,hok=>have w:(([]:Tx) == [])=true:=rfl;obtain ⟨h',ks',d,x8',e2,L2,k2⟩:=s7 B n hne [] v ht hok x1 x2 x8 H1 ha hi1 hr1 hs1 L.sh L.kl;refine⟨h',ks',d,x8',?_,L2,(k1.k2 pr sr).trans k2⟩;simp! only [bM,H.hp,qCX,tbh,e1,zX,eqD,w,e2]
 |x::r,ht,hok=>
  have w:((x::r:Tx) == [])=false:=rfl;have e3:=qJZ (t:=x::r) B n H1 ha hi1 (by simp) ht;have hi2:=zH hi1 (.ins qH (giv m (x::r) 0 0 false false false));have H2:=H1.giv (r:=((x::r).length == 1,zZ (x::r) false)) ha (by rw[List.length_append];simp) (Fr.set h.length h1 _) ⟨_,_,_,_,_,_,hi2,ht,gq0 hok (fun z=>by cases z)⟩
  have e4:(rs++[(false,jL [])]).set rs.length ((x::r).length == 1,zZ (x::r) false)=rs++[((x::r).length == 1,zZ (x::r) false)]:=by
   rw[List.set_append_right _ _ (Nat.le_refl _),Nat.sub_self];rfl
  rw[e4] at H2;have kS:KL h1 (h1.set h.length (.ins qH (giv m (x::r) 0 0 false false false))):=KL.set _ (jP hi1);obtain ⟨h',ks',d,x8',e2,L2,k2⟩:=s7 B n hne (x::r) v ht hok x1 x2 x8 H2 ha hi2 (by rw[kS.2 _ _ (qY hr1)];exact hr1) (by rw[kS.2 _ _ (qY hs1)];exact hs1) L.sh L.kl;refine⟨h',ks',d,x8',?_,L2,((k1.trans kS).k2 pr sr).trans k2⟩;simp! only [bM,H.hp,qCX,tbh,e1,zX,eqD,w,qDZ,H1.hp,qLk,qBI,e3,e2]
theorem s9(B n:Nat)(hne:pr≠sr)(h0:pr≠0)(h00:sr≠0)(ns:List Int)(x2 x6 x7 x8:Option D){h:AH}(L:Ls p q gd td m b sl met pr sr h rs ks)(hrl:rs.length<50)(hg:qC h 0=some (ns.map .int)) :
  ∃ h' r ks' x6' x7' x8',qB (qA fns B (n+3)) B uS [some (.ref p),some (.ref 0),x2,some (.ref pr),some (.ref sr),some (.int rs.length),x6,x7,x8] h=.nx [some (.ref p),some (.ref 0),x2,some (.ref pr),some (.ref sr),some (.int rs.length),x6',x7',x8'] h'/\Ls p q gd td m b sl met pr sr h' (rs++[r]) ks'/\K2 pr sr h h':=by
 have e1:=aF B (n+2) h 0 ns (2+rs.length % 20) hg;generalize ns.getD (2+rs.length % 20) 0=v at e1;rw[show ((2+rs.length % 20:Nat):Int)=2+(rs.length:Int) % 20 by omega] at e1
 have hc:0<=v % 3*(2+v / 6 % 60)/\v % 3*(2+v / 6 % 60)<=122:=by
  have h1:v % 3=0\/v % 3=1\/v % 3=2:=by omega
  rcases h1 with z | z | z <;> rw[z] <;> omega
 obtain ⟨cnt,hcn⟩:∃ cnt:Nat,v % 3*(2+v / 6 % 60)=(cnt:Int):=⟨(v % 3*(2+v / 6 % 60)).toNat,by omega⟩;obtain ⟨w,g,e2,w1,w2⟩:=qJH B (n+2) (v / 6+(rs.length:Int)) cnt h (by omega)
 have Lg:Ls p q gd td m b sl met pr sr (h++g) rs ks:=by
  obtain ⟨as,H⟩:=L.ho
  exact⟨⟨as,H.app g⟩,zD g L.hr,zD g L.hs,L.sh,L.kl⟩
 have mo:kO (v % 3) (2+v / 6 % 60):=eJ (by omega);have wl:w.length<=200:=by omega
 cases q0:(v % 7 == 3) with
 |false=>obtain ⟨h',ks',d,x8',e3,L3,k3⟩:=s8 B n hne w v wl w1 (some (.ref 0)) x2 x8 Lg hrl;refine⟨h',_,ks',some (.int v),some (.str w),x8',?_,L3,((KL.app h g).k2 pr sr).trans k3⟩;simp! only [uS,show (0:Int)<20 by omega,e1,show (0:Int)<6 by omega,show (6:Int)<1073741824 by omega,and_self,i16,show (0:Int)<60 by omega,if_pos mo,hcn,e2,show (0:Int)<7 by omega,q0,e3]
 |true=>
  have c1:qO w none (some 1)=w.take 1:=nQ w 1
  have t1:(w.take 1).all okC=true:=by
   rw[List.all_eq_true] at w1 ⊢;exact fun x hx=>w1 x (List.mem_of_mem_take hx)
  have t2:(w.take 1).length<=200:=by rw[List.length_take];omega
  obtain ⟨h',ks',d,x8',e3,L3,k3⟩:=s8 B n hne (w.take 1) v t2 t1 (some (.ref 0)) x2 x8 Lg hrl;refine⟨h',_,ks',some (.int v),some (.str (w.take 1)),x8',?_,L3,((KL.app h g).k2 pr sr).trans k3⟩;simp! only [uS,show (0:Int)<20 by omega,e1,show (0:Int)<6 by omega,show (6:Int)<1073741824 by omega,and_self,i16,show (0:Int)<60 by omega,if_pos mo,hcn,e2,show (0:Int)<7 by omega,q0,qDb,if_pos (show w.length<=16777216 by omega),c1,e3]
theorem qJT(B n:Nat)(ns:List Int)(size:Nat)(hsz:size<=50){h:AH}(H:Ho p q gd td m b h sl 3 met [] [])(hg:qC h 0=some (ns.map .int)) :
  ∃ h' rs ks,qA fns B (n+4) qKw [.ref p,.ref 0,.int size] h=.ok (.tup [.ref h.length,.ref (h.length+1)]) h'/\rs.length=size/\Ls p q gd td m b sl met h.length (h.length+1) h' rs ks/\KL h h':=by
 rw[qN6];have h0:0<h.length:=jK hg;have hs:zI (size:Int):=by unfold zI;omega
 obtain ⟨σ',h',e,rs,ks,x5,x6,x7,x8,r1,r2,L,k⟩:=hU (fun j σ g=>∃ rs ks x5 x6 x7 x8,rs.length=j/\σ=[some (.ref p),some (.ref 0),some (.int size),some (.ref h.length),some (.ref (h.length+1)),x5,x6,x7,x8]/\Ls p q gd td m b sl met h.length (h.length+1) g rs ks/\K2 h.length (h.length+1) h g)
  (zR (TG.nm 5) (qB (qA fns B (n+3)) B uS)) (iD (List.range size)) 0 [some (.ref p),some (.ref 0),some (.int size),some (.ref h.length),some (.ref (h.length+1)),none,none,none,none] (h++[.lst [],.lst []])
  ⟨[],[],none,none,none,none,rfl,rfl,⟨⟨[],H.app _⟩,by rw[qS];rfl,by rw[jO];rfl,(fun k hk=>by cases hk),by simp⟩,(KL.app h _).k2 _ _⟩
  (fun j x σ g hj ⟨rs,ks,x5,x6,x7,x8,r1,r2,L,k⟩=>by
   have hjl:j<size:=by
    have:=(List.getElem?_eq_some_iff.mp hj).1
    rw[jI,List.length_range] at this;exact this
   have hx:x=.int (rs.length:Int):=by
    unfold iD at hj;rw[List.getElem?_map,List.getElem?_range hjl] at hj;cases hj;rw[r1,Nat.zero_add]
   subst hx;subst r2;obtain ⟨h',r,ks',x6',x7',x8',e3,L3,k3⟩:=s9 B n (by omega) (by omega) (by omega) ns (some (.int size)) x6 x7 x8 L (by omega) (k.gl (by omega) (by omega) hg)
   exact⟨_,h',e3,rs++[r],ks',some (.int rs.length),x6',x7',x8',by rw[List.length_append,r1];rfl,rfl,L3,k.trans k3⟩)
 subst r2;rw[jI,List.length_range,Nat.zero_add] at r1;refine⟨h',rs,ks,?_,r1,L,⟨k.1,fun i xs gi=>k.2 i xs (by have:=jK gi;omega) (by have:=jK gi;omega) gi⟩⟩;simp! only [oM,List.append_assoc,List.length_append,if_pos hs,Int.toNat_natCast,uJ,List.length_cons,List.length_nil,e,qDa,i11]
end
section
variable {p q gd td:Nat}{m b:Int}{sl:D}{met:Bool}{rs:List (Bool × D)}{ks:List Nat}{pr sr:Nat}
theorem Sh.set{rs:List (Bool × D)}{ks:List Nat}(s:Sh rs ks)(k:Nat)(d:D)(hk:k<rs.length):Sh (rs.set k (true,d)) ks:=fun j hj=>by
 obtain ⟨d',e⟩:=s j hj
 by_cases z:k=j
 ·subst z
  exact⟨d,by rw[List.getElem?_set,if_pos rfl,if_pos hk]⟩
 ·exact⟨d',by rw[List.getElem?_set_ne z];exact e⟩
theorem qRS:b2i ((0:Int) == 1)=0:=rfl
theorem qRR:b2i ((1:Int) == 1)=1:=rfl
theorem qRW(B n:Nat)(hB:1<=B)(hne:pr≠sr){h:AH}(L:Ls p q gd td m b sl met pr sr h rs ks){k:Nat}(hk:k∈ks)(tn:Nat)(x0 x1 x2 x4 x6 x7 x9 x10 x12 x13:Option D) :
  ∃ h' rs' met',qB (qA fns B (n+9)) B yS [x0,x1,x2,some (.ref p),x4,some (.bl met),x6,x7,some (.ref pr),x9,x10,some (.int tn),x12,x13,some (.int k)] h=.nx [x0,x1,x2,some (.ref p),x4,some (.bl met'),x6,x7,some (.ref pr),x9,x10,some (.int tn),x12,x13,some (.int k)] h'/\rs'.length=rs.length/\Ls p q gd td m b sl met' pr sr h' rs' ks/\K2 pr sr h h':=by
 cases q0:decide ((k:Int) % 4<(tn:Int)) with
 |false=>refine⟨h,rs,met,?_,rfl,L,(KL.refl h).k2 pr sr⟩;simp! only [yS,show (0:Int)<4 by omega,q0]
 |true=>
  obtain ⟨as,H⟩:=L.ho;obtain ⟨d,hr⟩:=L.sh k hk;have hkr:k<rs.length:=(List.getElem?_eq_some_iff.mp hr).1;have hka:k<as.length:=by rw[H.la];exact hkr
  have lz:=H.lz;obtain ⟨a,r,ha,hr',gv⟩:=H.get hka;rw[hr] at hr';cases hr';obtain ⟨t,s,c,e0,es,ih,hi,tl,g⟩:=gv;have e1:=aE B (n+7) H ha;obtain ⟨_,_,_,_,hs,_,_⟩:=g.ans;have hu:0<=b2i (s == 1)/\b2i (s == 1)<=1:=by cases (s == 1) <;> decide
  obtain ⟨g2,e2⟩:=wE B (n+2) (qA0 k (by omega) (b2i (s == 1)) hu.1 hu.2) h;obtain ⟨j,h3,e3,H3,k3,t',c',e0',es',ih',hi3⟩:=qJg B n hB (H.app g2) ha hr (zD g2 hi) g;have e4:=aE B (n+7) H3 ha;have kl:KL h h3:=(KL.app h g2).trans k3;have hp3:h3[pr]?=some (.lst (rs.map (·.2))):=by rw[kl.2 _ _ (qY L.hr)];exact L.hr
  have hs3:h3[sr]?=some (.lst (iD ks)):=by rw[kl.2 _ _ (qY L.hs)];exact L.hs
  have gp3:=qY hp3;have el:(rs.map (·.2)).set k (if s=1 then D.non else d)=(rs.set k (true,if s=1 then D.non else d)).map (·.2):=by rw[List.map_set]
  have iN:ixN (rs.map (·.2)).length (k:Int)=some k:=by
   unfold ixN;rw[if_pos (by omega),List.length_map,if_pos (by omega),Int.toNat_natCast]
  have ix:(rs.map (·.2))[k]?=some d:=by
   rw[List.getElem?_map,hr];rfl
  rw[List.length_map] at iN
  have L':Ls p q gd td m b sl true pr sr (h3.set pr (.lst ((rs.set k (true,if s=1 then D.non else d)).map (·.2)))) (rs.set k (true,if s=1 then D.non else d)) ks:=
   ⟨⟨as,H3.mono (KO.set _ gp3)⟩,zH hp3 _,by rw[List.getElem?_set_ne hne];exact hs3,L.sh.set k _ hkr,by rw[List.length_set];exact L.kl⟩
  refine⟨_,_,true,?_,List.length_set,L',(kl.k2 pr sr).trans ((KP.set pr h3 _).k2a sr)⟩;rw[<- el];have e2:qA fns B (n+9) 42 [.tup [.str [97,110,115,119,101,114],.int 3,.int 1,.int k,.int (b2i (s == 1)),.int 1,.tup []]] h=.ok (wrD (jS k (b2i (s == 1)))) (h++g2):=e2;have hpg:=(H.app g2).hp;rcases hs with rfl | rfl
  ·rw[qRS] at e2 e3;rw[if_neg (show ¬ (0:Int)=1 by omega)];simp! only [yS,show (0:Int)<4 by omega,q0,oY,H.hp,aN,tbh,aO,e1,hi,kR,show ((0:Int) == 1)=false from rfl,if_pos (show 7<=16777216 by omega),i12,e2,e3,H3.hp,e4,hi3,gp3,Option.bind_some,List.length_map,ix,hp3,iN]
  ·rw[qRR] at e2 e3;rw[if_pos rfl];simp! only [yS,show (0:Int)<4 by omega,q0,oY,H.hp,aN,tbh,aO,e1,hi,kR,show ((1:Int) == 1)=true from rfl,if_pos (show 7<=16777216 by omega),i12,e2,e3,H3.hp,e4,hi3,gp3,Option.bind_some,List.length_map,hp3,iN]
end
theorem qBq{n l:Nat}{la:Option Nat}(hn:n<=8\/n=50)(hl:l<n)(hr:Rot n l la):∀ (xs:List Nat),(∀ k∈xs,k<n)->∃ l' la',kP (.int l) xs=.int (l':Nat)/\kP (zQ la) xs=zQ la'/\l'<n/\Rot n l' la'
 | [],_=>⟨l,la,rfl,rfl,hl,hr⟩
 |k::r,h=>by
  have hk:=h k (List.mem_cons_self ..);exact qBq (l:=k) (la:=some k) hn hk (qGN n hn k hk) r fun j hj=>h j (List.mem_cons_of_mem _ hj)
theorem qCj(h:AH)(n:Nat):∀ xs:List D,eqW (eqD h n) (xs.map wrD) (xs.map wrD)=some true
 | []=>rfl
 |x::r=>by
  have e:eqD h n (wrD x) (wrD x)=some true:=by
   unfold wrD
   have:eqD h n (.str (wrT x)) (.str (wrT x))=some (wrT x == wrT x):=by cases n <;> rfl
   rw[this,BEq.rfl]
  rw[List.map_cons];show (match eqD h n (wrD x) (wrD x),eqW (eqD h n) (r.map wrD) (r.map wrD) with | some a,some b=>some (a&&b) | _,_=>none)=some true;rw[e,qCj h n r];rfl
theorem hZ{h:AH}{i j:Nat}{xs:List D}(hi:qC h i=some (xs.map wrD))(hj:qC h j=some (xs.map wrD)):zX h (.ref i) (.ref j)=some true:=by
 show (match qC h i,qC h j with | some xs,some ys=>eqW (eqD h 39) xs ys | _,_=>none)=some true;rw[hi,hj];exact qCj h 39 xs
theorem qB7{h:AH}{i:Nat}{xs:List D}(hi:qC h i=some xs):kB h .list (.ref i)=some true:=by
 show (qC h i).map _=_;rw[hi];rfl
def Hd(pr sr hd:Nat)(h:AH)(hs:List D):Prop:=∀ d∈hs,∃ i j ts,d=.tup [.ref i,.ref j]/\qC h i=some (List.map wrD ts)/\qC h j=some (ts.map wrD)/\(i≠pr/\i≠sr/\i≠hd)/\(j≠pr/\j≠sr/\j≠hd)
section
variable {p q gd td:Nat}{m:Int}{met:Bool}{rs:List (Bool × D)}{ks:List Nat}{pr sr hd:Nat}
theorem qGn{b:Int}{sl:D}{h:AH}{as:List Nat}(H:Ho p q gd td m b h sl 3 met as rs):∀ k,k<rs.length->cM k (fD rs k):=fun k hk=>by
 have lz:=H.lz;have la:=H.la;obtain ⟨a,r,_,hr,t,s,c,e0,es,ih,_,_,g⟩:=H.get (k:=k) (by omega);rw[aT hr];exact g.part k (by omega)
theorem qJz(B n bn:Nat)(hB:2<=B)(hm:1<=m)(hm2:m<=40)(hne:pr≠sr)(hn1:hd≠pr)(hn2:hd≠sr){h:AH}{l:Nat}{la:Option Nat}(hn:rs.length<=8\/rs.length=50)(hl:l<rs.length)(hr:Rot rs.length l la)(L:Ls p q gd td m bn (zQ la) met pr sr h rs ks)(hs:List D)(hhd:h[hd]?=some (.lst hs))(hhl:hs.length<=100)(hok:Hd pr sr hd h hs)(tn:Nat)(x0 x1 x4 x6 x12 x13 x14:Option D) :
  ∃ h' rs' met' l' la' d x12' x13' x14',qB (qA fns B (n+9)) B bP [x0,x1,some (.int bn),some (.ref p),x4,some (.bl met),x6,some (.tup [.ref pr,.ref sr]),some (.ref pr),some (.int l),some (.ref hd),some (.int tn),x12,x13,x14] h=.nx [x0,x1,some (.int bn),some (.ref p),x4,some (.bl met'),x6,some (.tup [.ref pr,.ref sr]),some (.ref pr),some (.int (l':Nat)),some (.ref hd),some (.int tn),x12',x13',x14'] h'/\rs'.length=rs.length/\l'<rs.length/\Rot rs.length l' la'/\Ls p q gd td m bn (zQ la') met' pr sr h' rs' ks/\h'[hd]?=some (.lst (hs++[d]))/\Hd pr sr hd h' (hs++[d])/\(∀ i xs,i≠pr->i≠sr->i≠hd->qC h i=some xs->qC h' i=some xs):=by
 obtain ⟨as,H⟩:=L.ho;have lz:=H.lz;have lal:=H.la;have gpr:=qY L.hr;have gsr:=qY L.hs;have ghd:=qY hhd;have bpr:=jK gpr;have bsr:=jK gsr;have bhd:=jK ghd;obtain ⟨t,h1,e1,p1,x1',ht⟩:=qJm B (n+1) bn l pr met la hr (by omega) (by omega) (qGn H) gpr;have H1:=H.mono x1'.ko;obtain ⟨h2,j,e2,p2,H2,k2,hj⟩:=qBV B n bn hB hm hm2 la H1 (qE4 bn la H1);have hj1:=x1'.1;have k12:KL h h2:=x1'.kl.trans k2;obtain ⟨l',la',f1,f2,f3,f4⟩:=qBq hn hl hr (now rs bn la) fun k hk=>(qBC bn la k hk).1;rw[f1] at e1;rw[f2] at H2;have g1:=qY p1;have gt2:=k2.gl g1;have gj2:=qY p2;have eq:=hZ gj2 gt2;have isl:=qB7 gj2;have hhd2:h2[hd]?=some (.lst hs):=by rw[k12.2 _ _ ghd];exact hhd
 have ghd2:=qY hhd2;generalize hH3:h2.set hd (.lst (hs++[.tup [.ref j,.ref t]]))=h3;have kp3:KP hd h2 h3:=by rw[<- hH3];exact KP.set _ _ _
 have L3:Ls p q gd td m bn (zQ la') met pr sr h3 rs ks:=by
  refine⟨⟨as,?_⟩,?_,?_,L.sh,L.kl⟩
  ·rw[<- hH3];exact H2.mono (KO.set _ ghd2)
  ·rw[kp3.2 _ _ (Ne.symm hn1) (k12.gl gpr),k12.2 _ _ gpr];exact L.hr
  ·rw[kp3.2 _ _ (Ne.symm hn2) (k12.gl gsr),k12.2 _ _ gsr];exact L.hs
 have hhd3:h3[hd]?=some (.lst (hs++[.tup [.ref j,.ref t]])):=by rw[<- hH3];exact zH hhd2 _
 have hd3:Hd pr sr hd h3 (hs++[.tup [.ref j,.ref t]]):=fun d hd=>by
  rcases List.mem_append.mp hd with z | z
  ·obtain ⟨i,j,ts,e,g1,g2,n1,n2⟩:=hok d z
   exact⟨i,j,ts,e,kp3.gl n1.2.2 (k12.gl g1),kp3.gl n2.2.2 (k12.gl g2),n1,n2⟩
  ·rcases List.mem_cons.mp z with rfl | z
   ·exact⟨j,t,_,rfl,kp3.gl (by omega) gj2,kp3.gl (by omega) gt2,⟨by omega,by omega,by omega⟩,⟨by omega,by omega,by omega⟩⟩
   ·cases z
 obtain ⟨σ',h',e4,rs',met',x14',r1,r2,L4,k4⟩:=qCg (fun _ σ g=>∃ rs' met' x14,rs'.length=rs.length/\σ=[x0,x1,some (.int bn),some (.ref p),x4,some (.bl met'),x6,some (.tup [.ref pr,.ref sr]),some (.ref pr),some (.int (l':Nat)),some (.ref hd),some (.int tn),some (.tup [.ref t,.int (l':Nat)]),some (.ref j),x14]/\Ls p q gd td m bn (zQ la') met' pr sr g rs' ks/\K2 pr sr h3 g)
  (zR (TG.nm 14) (qB (qA fns B (n+9)) B yS)) sr (iD ks) (fun _ σ g ⟨_,_,_,_,_,L,_⟩=>qY L.hs) (fun i x σ g hx ⟨rs',met',x14,r1,r2,L,k⟩=>by
   have hm:=List.mem_of_getElem? hx;unfold iD at hm;obtain ⟨kk,hkk,rfl⟩:=List.mem_map.mp hm;subst r2;obtain ⟨g',rs'',met'',e,r3,L',k'⟩:=qRW B n (by omega) hne L hkk tn x0 x1 (some (.int bn)) x4 x6 (some (.tup [.ref pr,.ref sr])) (some (.int (l':Nat))) (some (.ref hd)) (some (.tup [.ref t,.int (l':Nat)])) (some (.ref j))
   exact⟨_,g',e,rs'',met'',some (.int kk),by rw[r3,r1],rfl,L',k.trans k'⟩)
  ((iD ks).length+1) 0 [x0,x1,some (.int bn),some (.ref p),x4,some (.bl met),x6,some (.tup [.ref pr,.ref sr]),some (.ref pr),some (.int (l':Nat)),some (.ref hd),some (.int tn),some (.tup [.ref t,.int (l':Nat)]),some (.ref j),x14] h3 rfl (Nat.zero_le _) ⟨rs,met,x14,rfl,rfl,L3,(KL.refl h3).k2 pr sr⟩
 subst r2;have gsr3:=qY L3.hs;have lv:zP h3 sr=(iD ks).length+1:=by unfold zP;rw[gsr3];rfl
 have hhd4:h'[hd]?=some (.lst (hs++[.tup [.ref j,.ref t]])):=by rw[k4.2 _ _ hn1 hn2 (qY hhd3)];exact hhd3
 refine⟨h',rs',met',l',la',.tup [.ref j,.ref t],some (.tup [.ref t,.int (l':Nat)]),some (.ref j),x14',?_,r1,f3,f4,L4,hhd4,fun d hd=>?_,fun i xs n1 n2 n3 gi=>k4.gl n1 n2 (kp3.gl n3 (k12.gl gi))⟩
 ·have i0:((ixN 2 0).bind fun i=>[D.ref t,.int (l':Nat)][i]?)=some (.ref t):=rfl;have i1:((ixN 2 1).bind fun i=>[D.ref t,.int (l':Nat)][i]?)=some (.int (l':Nat)):=rfl;have i2:((ixN 2 1).bind fun i=>[D.ref pr,.ref sr][i]?)=some (.ref sr):=rfl;simp! only [bP,e1,H1.hp,qCU,tbh,e2,isl,i0,eq,qDh,ghd2,i11,hhd2,if_pos (show hs.length<16777216 by omega),hH3,i1,i2,gsr3,lv,e4]
 ·obtain ⟨i,j,ts,e,g1,g2,n1,n2⟩:=hd3 d hd
  exact⟨i,j,ts,e,k4.gl n1.1 n1.2.1 g1,k4.gl n2.1 n2.2.1 g2,n1,n2⟩
end
theorem clm:([306712044914,1215263604]:List Nat).contains qW=true:=by decide
theorem clr:([362411681138,1215263604]:List Nat).contains qW=true:=by decide
theorem qJS(B n:Nat)(h:AH):qA fns B (n+1) qLJ [.ref h.length,.int 1] (h++[.ins zG []])=.ok .non (h++[.ins zG (mtg 0 false)]):=by
 rw[qOa];simp! only [rL,qS,clq,jW,List.length_nil,List.length_cons,show 0<1000 by omega];rfl
def hs1:List (Nat × D):=[(vD,.int 9)]
def hs2(mm:Int):List (Nat × D):=[(vD,.int 9),(kF,.int mm)]
def hs3(mm b:Int):List (Nat × D):=[(vD,.int 9),(kF,.int mm),(vQ,.int b)]
def hs4(mm b:Int):List (Nat × D):=[(vD,.int 9),(kF,.int mm),(vQ,.int b),(wG,.int 1)]
def hs5(mm b:Int)(d:D):List (Nat × D):=[(vD,.int 9),(kF,.int mm),(vQ,.int b),(wG,.int 1),(yD,d)]
def hs6(mm b:Int)(d e:D):List (Nat × D):=[(vD,.int 9),(kF,.int mm),(vQ,.int b),(wG,.int 1),(yD,d),(yE,e)]
def hs7(mm b:Int)(d e f:D):List (Nat × D):=[(vD,.int 9),(kF,.int mm),(vQ,.int b),(wG,.int 1),(yD,d),(yE,e),(uH,f)]
section
variable (mm b:Int)(d e f:D)
theorem pu1:qZ vD (.int 9) []=hs1:=rfl
theorem pu2:qZ kF (.int mm) hs1=hs2 mm:=rfl
theorem pu3:qZ vQ (.int b) (hs2 mm)=hs3 mm b:=rfl
theorem pu4:qZ wG (.int 1) (hs3 mm b)=hs4 mm b:=rfl
theorem pu5:qZ yD d (hs4 mm b)=hs5 mm b d:=rfl
theorem pu6:qZ yE e (hs5 mm b d)=hs6 mm b d e:=rfl
theorem pu7:qZ uH f (hs6 mm b d e)=hs7 mm b d e f:=rfl
theorem pu8(q gd td:Nat)(g:D):qZ aH g (hs7 mm b (.ref q) (.ref gd) (.ref td))=hst mm b q gd td g:=rfl
theorem gu4:qJ wG (hs4 mm b)=some (.int 1):=rfl
theorem nu4:qJ 464662488081084476647013 (hs4 mm b)=none:=rfl
theorem ln1:hs1.length<1000:=by decide
theorem ln2:(hs2 mm).length<1000:=by show 2<1000;omega
theorem ln3:(hs3 mm b).length<1000:=by show 3<1000;omega
theorem ln4:(hs4 mm b).length<1000:=by show 4<1000;omega
theorem ln5:(hs5 mm b d).length<1000:=by show 5<1000;omega
theorem ln6:(hs6 mm b d e).length<1000:=by show 6<1000;omega
theorem ln7:(hs7 mm b d e f).length<1000:=by show 7<1000;omega
end
theorem qJt(B n:Nat)(h:AH)(mm b:Int):qA fns B (n+2) qLX [.ref h.length] (h++[.ins qW (hs4 mm b)])=.ok .non (h++[.ins qW (hst mm b (h.length+1) (h.length+2) (h.length+3) .non),.ins zG (mtg 0 false),.dct [],.dct []]):=by
 rw[qOn];have e2:=qJS B n (h++[.ins qW (hs4 mm b)]);rw[List.length_append,List.append_assoc,List.append_assoc] at e2;have e2:qA fns B (n+1) 17 [.ref (h.length+1),.int 1] (h++[.ins qW (hs4 mm b),.ins zG []])=.ok .non (h++[.ins qW (hs4 mm b),.ins zG (mtg 0 false)]):=e2;simp! only [sN,qS,List.getElem?_cons_zero,gu4,wY,List.length_append,List.length_cons,List.length_nil,Nat.zero_add,List.append_assoc,List.cons_append,List.nil_append,e2,clh,pu5,pu6,pu7,pu8,ln4,ln5,ln6,ln7,jW,List.set_cons_zero,aW,jO,List.getElem?_cons_succ,qAU,List.set_cons_succ,uD,List.zip_nil_left,List.foldl_nil]
theorem qJa(B n:Nat)(h:AH)(mm b:Int)(hm:mm<=40):qA fns B (n+3) qLT [.ref h.length,.int 9,.int mm,.int b] (h++[.ins qW []])=.ok .non (h++[.ins qW (hst mm b (h.length+1) (h.length+2) (h.length+3) .non),.ins zG (mtg 0 false),.dct [],.dct []]):=by
 rw[qOj];have e1:(if (40:Int)<mm then (40:Int) else mm)=mm:=if_neg (by omega);have e0:qA fns B (n+2) 63 [.ref h.length] (h++[.ins qW [(1919905645,.int 9),(1836020596,.int mm),(108256335193460,.int b),(1818846821,.int 1)]])=_:=qJt B n h mm b;simp! only [sD,qS,List.getElem?_cons_zero,clr,clm,clh,List.length_nil,show 0<1000 by omega,ln1,ln2,ln3,jW,List.set_cons_zero,e1,pu1,pu2,pu3,pu4,nu4,tbh,e0]
theorem qRa(xs:List D):wM (xs.map fun _=>D.bl true)=some true:=by
 unfold wM
 have:kK (xs.map fun _=>D.bl true)=some (xs.map fun _=>true):=by
  induction xs with
  |nil=>rfl
  |cons x r ih=>rw[List.map_cons,kK,ih];rfl
 rw[this];simp
section
variable {p q gd td:Nat}{m:Int}{met:Bool}{rs:List (Bool × D)}{ks:List Nat}{pr sr hd:Nat}
theorem qJ3(B n:Nat){b:Int}{sl:D}{h:AH}(L:Ls p q gd td m b sl met pr sr h rs ks)(hs:List D)(hhd:h[hd]?=some (.lst hs))(hhl:hs.length<=100)(hok:Hd pr sr hd h hs)(x0 x1 x2 x4 x5 x7 x8 x9 x11 x12 x13 x14:Option D) :
  ∃ h',qB (qA fns B (n+9)) B oU [x0,x1,x2,some (.ref p),x4,x5,some (.int (rs.length:Nat)),x7,x8,x9,some (.ref hd),x11,x12,x13,x14] h=.rt (.bl true) h':=by
 obtain ⟨as,H⟩:=L.ho;have lz:=H.lz;have la:=H.la;have e1:=qBW B (n+7) H;rw[la] at e1;have hs62:zI ((rs.length:Nat):Int):=by unfold zI;omega
 generalize hX:iD (List.range rs.length)=X at e1;have hXl:X.length=rs.length:=by rw[<- hX,jI,List.length_range]
 have e2:zC (zY (den (qA fns B (n+9)) oV) [x0,x1,x2,some (.ref p),x4,x5,some (.int (rs.length:Nat)),x7,x8,x9,some (.ref hd),x11,x12,x13,x14]) X (h++[.lst X,.lst X])=.ok X (h++[.lst X,.lst X]):=eM _ _ _ fun x _=>by
  rw[vJ];simp! only [oV]
 generalize hG:h++[O.lst X,.lst X]=G at e1 e2;have gl:∀ i xs,qC h i=some xs->qC (G++[.lst X]) i=some xs:=fun i xs z=>by rw[<- hG];exact jQ _ (jQ _ z)
 have g1:qC (G++[.lst X]) (h.length+1)=some X:=by rw[<- hG];exact jQ _ (by rw[kG];rfl)
 have g2:qC (G++[.lst X]) G.length=some X:=by rw[zA];rfl
 have eq:zX (G++[.lst X]) (.ref (h.length+1)) (.ref G.length)=some true:=by
  show (match qC (G++[.lst X]) (h.length+1),qC (G++[.lst X]) G.length with | some xs,some ys=>eqW (eqD (G++[.lst X]) 39) xs ys | _,_=>none)=some true;rw[g1,g2,<- hX];exact qMK _ 38 _
 have ghd:=gl hd hs (qY hhd)
 have e3:=aB (zY (den (qA fns B (n+9)) oW) [x0,x1,x2,some (.ref p),x4,x5,some (.int (rs.length:Nat)),x7,x8,x9,some (.ref hd),x11,x12,x13,x14]) (fun _=>some (.bl true)) hd hs (G++[.lst X]) ghd (by omega) (fun x hx=>by
  obtain ⟨i,j,ts,e,gi,gj,_,_⟩:=hok x hx;subst e;have ee:=hZ (gl _ _ gi) (gl _ _ gj);rw[vJ]
  simp! only [oW,show ((ixN 2 0).bind fun k=>[D.ref i,.ref j][k]?)=some (.ref i) from rfl,show ((ixN 2 1).bind fun k=>[D.ref i,.ref j][k]?)=some (.ref j) from rfl,ee])
 rw[uE,show hs.filterMap (fun _=>some (D.bl true))=hs.map fun _=>D.bl true from List.filterMap_eq_map' ▸ rfl] at e3;refine⟨G++[.lst X]++[.lst (hs.map fun _=>D.bl true)],?_⟩;simp! only [oU,H.hp,qCW,tbh,e1,if_pos hs62,Int.toNat_natCast,uJ,hX,hXl,if_pos (show rs.length<16777216 by omega),e2,newL,jU,jT,if_pos (show rs.length<=16777216 by omega),eq,ghd,e3,List.length_map,if_pos (show hs.length<=16777216 by omega),zA,zW,Option.bind_some,qRa]
end
theorem om1{a b:Nat}(h:a+1<b):b≠a/\b≠a+1:=by omega
theorem om2(v:Int):∃ T:Nat,1+v % 12=(T:Int)/\T<=12:=⟨(1+v % 12).toNat,by omega,by omega⟩
theorem om3{T:Nat}(h:T<=12):zI (T:Int):=by unfold zI;omega
theorem om4{s:Nat}(h:1<=s):((s:Int)-1)=((s-1:Nat):Int):=by omega
theorem om5{s:Nat}(hn:s<=8\/s=50):s<=50:=by omega
theorem om6{x j T:Nat}(h7:x=j)(hj:j<T)(hT:T<=12):x<=100:=by omega
section
variable {p q gd td:Nat}{m:Int}{met:Bool}{rs:List (Bool × D)}{ks:List Nat}{pr sr hd:Nat}
theorem qBp(B n bn:Nat)(hB:2<=B)(hm:1<=m)(hm2:m<=40)(ns:List Int){h:AH}(H:Ho p q gd td m bn h .non 3 met [] [])(hg:qC h 0=some (ns.map .int))(size:Nat)(hn:size<=8\/size=50)(h1:1<=size)(x1 x4:Option D) :
  ∃ h',qB (qA fns B (n+9)) B uV [some (.ref 0),x1,some (.int bn),some (.ref p),x4,some (.bl met),some (.int size),none,none,none,none,none,none,none,none] h=.rt (.bl true) h':=by
 obtain ⟨h2,rs,ks,e2,r2,L,k2⟩:=qJT B (n+5) ns size (om5 hn) H hg;have h0:0<h.length:=jK hg;have hl2:=k2.1;have hsr:=jK (qY L.hs);have g22:=aF B (n+8) (h2++[.lst []]) 0 ns 22 (jQ _ (k2.gl hg));generalize ns.getD 22 0=v at g22;have g22:qA fns B (n+9) 84 [.ref 0,.int 22] (h2++[.lst []])=.ok (.int v) (h2++[.lst []]):=g22;obtain ⟨T,hT,hT2⟩:=om2 v;have hs62:=om3 hT2;have o1:=om1 hsr;generalize hpr:h.length=pr at *
 have L0:Ls p q gd td m bn (zQ none) met pr (pr+1) (h2++[.lst []]) rs ks:=by
  obtain ⟨as,H2⟩:=L.ho
  exact⟨⟨as,H2.app _⟩,zD _ L.hr,zD _ L.hs,L.sh,L.kl⟩
 obtain ⟨σ',h',e3,rs',met',l',la',hs,x11,x12,x13,x14,i1,i2,i3,i4,i5,i6,i7,i8,i9⟩:=hU (fun j σ g=>∃ rs' met' l' la' hs x11 x12 x13 x14,σ=[some (.ref 0),x1,some (.int bn),some (.ref p),x4,some (.bl met'),some (.int size),some (.tup [.ref pr,.ref (pr+1)]),some (.ref pr),some (.int (l':Nat)),some (.ref h2.length),x11,x12,x13,x14]/\rs'.length=size/\l'<size/\Rot size l' la'/\Ls p q gd td m bn (zQ la') met' pr (pr+1) g rs' ks/\g[h2.length]?=some (.lst hs)/\hs.length=j/\Hd pr (pr+1) h2.length g hs/\True)
  (zR (TG.nm 11) (qB (qA fns B (n+9)) B bP)) (iD (List.range T)) 0 [some (.ref 0),x1,some (.int bn),some (.ref p),x4,some (.bl met),some (.int size),some (.tup [.ref pr,.ref (pr+1)]),some (.ref pr),some (.int ((size-1:Nat):Int)),some (.ref h2.length),none,none,none,none] (h2++[.lst []])
  ⟨rs,met,size-1,none,[],none,none,none,none,rfl,r2,Nat.sub_lt h1 Nat.one_pos,qGO size hn,L0,by rw[qS];rfl,rfl,(fun d hd=>by cases hd),trivial⟩
  (fun j x σ g hj hI=>by
   obtain ⟨rs',met',l',la',hs,x11,x12,x13,x14,i1,i2,i3,i4,i5,i6,i7,i8,_⟩:=hI
   have hjl:j<T:=by
    have:=(List.getElem?_eq_some_iff.mp hj).1
    rw[jI,List.length_range] at this;exact this
   have hx:x=.int (j:Int):=by
    unfold iD at hj;rw[List.getElem?_map,List.getElem?_range hjl] at hj;cases hj;rfl
   subst hx;subst i1;subst i2;obtain ⟨g',rs'',met'',l'',la'',d,y12,y13,y14,e,j1,j2,j3,j4,j5,j6,_⟩:=qJz B n bn hB hm hm2 (Nat.ne_of_lt (Nat.lt_succ_self _)) o1.1 o1.2 hn i3 i4 i5 hs i6 (om6 (i7.trans (Nat.zero_add _)) hjl hT2) i8 j (some (.ref 0)) x1 x4 (some (.int (rs'.length:Nat))) x12 x13 x14
   exact⟨_,g',e,rs'',met'',l'',la'',hs++[d],some (.int j),y12,y13,y14,rfl,j1,j2,j3,j4,j5,by rw[List.length_append,i7];rfl,j6,trivial⟩)
 subst i1;rw[jI,List.length_range] at i7;obtain ⟨h4,e4⟩:=qJ3 B n i5 hs i6 (by rw[i7,Nat.zero_add];exact Nat.le_trans hT2 (by decide)) i8 (some (.ref 0)) x1 (some (.int bn)) x4 (some (.bl met')) (some (.tup [.ref pr,.ref (pr+1)])) (some (.ref pr)) (some (.int (l':Nat))) x11 x12 x13 x14;rw[i2] at e4;refine⟨h4,?_⟩;have j0:((ixN 2 0).bind fun i=>[D.ref pr,.ref (pr+1)][i]?)=some (.ref pr):=rfl;simp! only [uV,e2,j0,om4 h1,g22,show (0:Int)<12 by omega,hT,if_pos hs62,Int.toNat_natCast,uJ,e3,e4]
theorem qJ4(B n bn:Nat)(hB:2<=B)(hm:1<=m)(hm2:m<=40)(ns:List Int){h:AH}(H:Ho p q gd td m bn h .non 0 false [] [])(hg:qC h 0=some (ns.map .int))(c:Int)(x4:Option D) :
  ∃ h',qB (qA fns B (n+9)) B bQ [some (.ref 0),some (.int c),some (.int bn),some (.ref p),x4,none,none,none,none,none,none,none,none,none,none] h=.rt (.bl true) h':=by
 have hv:∀ v:Bool,pc (qM 3 (b2i v)):=qAz;generalize hw:(c / 800 % 2 == 1)=w;obtain ⟨g1,e1⟩:=wE B (n+2) (hv w) h;obtain ⟨j,gd',td',h2,e2,H2,k2⟩:=qJf B n w (H.app g1);have hg2:=k2.gl (jQ g1 hg);have e3:=aF B (n+8) h2 0 ns 1 hg2;generalize ns.getD 1 0=v at e3;have e3:qA fns B (n+9) 84 [.ref 0,.int 1] h2=.ok (.int v) h2:=e3;have e1:qA fns B (n+9) 42 [.tup [.str [104,101,108,108,111],.int 3,.int (b2i w)]] h=.ok (wrD (qM 3 (b2i w))) (h++g1):=e1;have hp1:=(H.app g1).hp;obtain ⟨sz,hsz⟩:∃ sz:Nat,1+v % 8=(sz:Int):=⟨(1+v % 8).toNat,by omega⟩
 have main:∃ h',qB (qA fns B (n+9)) B (.seq (.ite (.val (.bi .eq (.bi .mod (.bi .fdiv (.call 84 (.cons (.var 0) (.cons (.lit (.int 1)) .nil))) (.lit (.int 8))) (.lit (.int 5))) (.lit (.int 2)))) oZ .skip) uV) [some (.ref 0),some (.int c),some (.int bn),some (.ref p),x4,some (.bl w),some (.int sz),none,none,none,none,none,none,none,none] h2=.rt (.bl true) h':=by
  cases q0:(v / 8 % 5 == 2) with
  |true=>obtain ⟨h4,e4⟩:=qBp B n bn hB hm hm2 ns H2 hg2 50 (.inr rfl) (by omega) (some (.int c)) x4;have e4:qB (qA fns B (n+9)) B uV [some (.ref 0),some (.int c),some (.int bn),some (.ref p),x4,some (.bl w),some (.int 50),none,none,none,none,none,none,none,none] h2=.rt (.bl true) h4:=e4;refine⟨h4,?_⟩;simp! only [e3,show (0:Int)<8 by omega,show (8:Int)<1073741824 by omega,and_self,show (0:Int)<5 by omega,q0,oZ,e4]
  |false=>obtain ⟨h4,e4⟩:=qBp B n bn hB hm hm2 ns H2 hg2 sz (.inl (by omega)) (by omega) (some (.int c)) x4;refine⟨h4,?_⟩;simp! only [e3,show (0:Int)<8 by omega,show (8:Int)<1073741824 by omega,and_self,show (0:Int)<5 by omega,q0,e4]
 obtain ⟨h4,e4⟩:=main;refine⟨h4,?_⟩;rw[<- e4];cases w with
 |true=>have e1:qA fns B (n+9) 42 [.tup [.str [104,101,108,108,111],.int 3,.int 1]] h=.ok (wrD (qM 3 1)) (h++g1):=e1;have e2:qA fns B (n+9) 78 [.ref p,wrD (qM 3 1)] (h++g1)=.ok (.ref j) h2:=e2;simp! only [bQ,show (0:Int)<800 by omega,show (800:Int)<1073741824 by omega,and_self,i17,hw,H.hp,aN,tbh,i10,e1,e2,e3,show (0:Int)<8 by omega,hsz]
 |false=>have e1:qA fns B (n+9) 42 [.tup [.str [104,101,108,108,111],.int 3,.int 0]] h=.ok (wrD (qM 3 0)) (h++g1):=e1;have e2:qA fns B (n+9) 78 [.ref p,wrD (qM 3 0)] (h++g1)=.ok (.ref j) h2:=e2;simp! only [bQ,show (0:Int)<800 by omega,show (800:Int)<1073741824 by omega,and_self,i17,hw,H.hp,aN,tbh,i10,e1,e2,e3,show (0:Int)<8 by omega,hsz]
end
theorem qJ0(_B n:Nat)(ns:List Int)(hz:ns.length<=63):∃ h',qA fns 1000 (n+10) qK1 [.ref 0] [.rol (ns.map .int)]=.ok (.bl true) h':=by
 rw[qOB];generalize hh:[O.rol (ns.map D.int)]=h;have hg:qC h 0=some (ns.map .int):=by rw[<- hh];rfl
 have hl:h.length=1:=by rw[<- hh];rfl
 have e1:=aF 1000 (n+8) h 0 ns 0 hg;generalize ns.getD 0 0=c at e1;have e1:qA fns 1000 (n+9) 84 [.ref 0,.int 0] h=.ok (.int c) h:=e1;obtain ⟨bn,hbn⟩:∃ bn:Nat,1+c / 40 % 20=(bn:Int):=⟨(1+c / 40 % 20).toNat,by omega⟩;have hm:1<=1+c % 40/\1+c % 40<=40:=by omega
 generalize hmm:1+c % 40=mm at hm;have e2:=qJa 1000 (n+6) h mm bn hm.2
 have H:Ho h.length (h.length+1) (h.length+2) (h.length+3) mm bn (h++[.ins qW (hst mm bn (h.length+1) (h.length+2) (h.length+3) .non),.ins zG (mtg 0 false),.dct [],.dct []]) (zQ none) 0 false [] []:=
  ⟨by rw[qS];rfl,by rw[jO];rfl,by rw[jO];rfl,by rw[jO];rfl,by omega,rfl,by simp,(fun i a r z _=>by simp at z),(fun i j a z _=>by simp at z)⟩
 have hg1:=jQ [.ins qW (hst mm bn (h.length+1) (h.length+2) (h.length+3) .non),.ins zG (mtg 0 false),.dct [],.dct []] hg;generalize hG:h++[O.ins qW (hst mm bn (h.length+1) (h.length+2) (h.length+3) .non),.ins zG (mtg 0 false),.dct [],.dct []]=G at e2 H hg1
 have tz:kL 0 false [] bn none=[qM 1 0]:=by
  unfold kL now;rw[if_neg (by simp),show kE (List.range ([]:List (Bool × D)).length) none=[] from rfl,show srv (fD []) bn []=[] by cases bn <;> rfl];rfl
 have nz:now [] bn none=[]:=by
  unfold now;rw[show kE (List.range ([]:List (Bool × D)).length) none=[] from rfl];cases bn <;> rfl
 have hpc:=wV 1 0 (by omega) (by omega) (by omega)
 obtain ⟨h3,j,e3,p3,H3,k3,_⟩:=qBV 1000 n bn (by omega) hm.1 hm.2 none H (fun d hd=>by
  rw[tz] at hd;rcases List.mem_cons.mp hd with rfl | z
  ·exact hpc
  ·cases z)
 rw[tz] at p3;rw[nz] at H3;obtain ⟨g4,e4⟩:=wE 1000 (n+2) hpc h3;have e4:qA fns 1000 (n+9) 42 [.tup [.str [104,101,108,108,111],.int 1,.int 0]] h3=.ok (wrD (qM 1 0)) (h3++g4):=e4;have g3:=qY p3;have isl:=qB7 g3;have g5:qC (h3++g4++[.lst [wrD (qM 1 0)]]) j=some ([qM 1 0].map wrD):=jQ _ (jQ _ g3);have g6:qC (h3++g4++[.lst [wrD (qM 1 0)]]) (h3++g4).length=some ([qM 1 0].map wrD):=by rw[zA];rfl
 have eq:=hZ g5 g6;obtain ⟨h7,e7⟩:=qJ4 1000 n bn (by omega) hm.1 hm.2 ns ((H3.app g4).app [.lst [wrD (qM 1 0)]]) (jQ _ (jQ _ (k3.gl hg1))) c (some (.ref j));refine⟨h7,?_⟩;simp! only [pA,e1,show (0:Int)<40 by omega,show (40:Int)<1073741824 by omega,and_self,show (0:Int)<20 by omega,hbn,hmm,wY,e2,H.hp,qCU,tbh,e3,isl,i10,e4,newL,jU,jT,List.length_cons,List.length_nil,i15,eq,e7]
def top(i:Nat):Stmt:=PySem.Challenge.pw_ferry_k35_ticks_by_turns.main.body.getD i (.Pass ⟨0,0,0,0⟩)
def qN(i j:Nat):Stmt:=match top i with
 | .ClassDef _ _ _ b _ _ _ _ _ _ _=>b.getD j (.Pass ⟨0,0,0,0⟩)
 |s=>s
def G:List (Str × GK):=[(("law":Str),GK.fn 89),(("BEGIN":Str),GK.con (.int 0)),(("Broken":Str),GK.exc 73059263014254),(("CHECK_BEGIN":Str),GK.con (.int 7)),(("CHECK_FACTOR":Str),GK.con (.int 31)),(("CHECK_FIGURES":Str),GK.con (.int 4)),(("CHECK_MODULUS":Str),GK.con (.int 9973)),(("END":Str),GK.con (.int 1)),(("Ended":Str),GK.exc 298204816740),(("FIGURES":Str),GK.con (.str [48,49,50,51,52,53,54,55,56,57])),(("FIRST_LIMIT":Str),GK.con (.int 1)),(("FIRST_OWN_LIFE":Str),GK.con (.int 1)),(("FIRST_SIGN":Str),GK.con (.int 32)),(("Giver":Str),GK.cls 306712044914 7),(("Host":Str),GK.cls 1215263604 62),(("LAST_LIFE":Str),GK.con (.int 1000000000)),(("LAST_PLACE":Str),GK.con (.int 1000000)),(("LAST_SIGN":Str),GK.con (.int 126)),(("LAST_STREAM":Str),GK.con (.int 999)),(("LEFT_OUT_SIGN":Str),GK.con (.int 37)),(("MOST_COME":Str),GK.con (.int 1000001)),(("MOST_FIGURES":Str),GK.con (.int 13)),(("MOST_LIMIT":Str),GK.con (.int 1000200)),(("MOST_NUMBER":Str),GK.con (.int 1000000000000)),(("MOST_SIGNS":Str),GK.con (.int 40)),(("MOST_SPANS":Str),GK.con (.int 8)),(("MOST_STREAMS":Str),GK.con (.int 50)),(("MOST_WRITTEN":Str),GK.con (.int 2000)),(("MOST_WRITTEN_AT_ONCE":Str),GK.con (.int 200)),(("Meeting":Str),GK.cls 21785059625889383 17),(("NO_LIFE":Str),GK.con (.int 0)),(("NoPiece":Str),GK.exc 22077439339750245),(("NoSpan":Str),GK.exc 86240048210286),(("NoStream":Str),GK.exc 5651827816973820269),(("NotMet":Str),GK.exc 86240599565684),(("Slate":Str),GK.cls 358300611685 47),(("Spoilt":Str),GK.exc 91742370622580),(("Taker":Str),GK.cls 362411681138 51),(("TooMuch":Str),GK.exc 23766421875286888),(("_law_cell_at":Str),GK.fn 84),(("_law_due":Str),GK.fn 87),(("_law_part":Str),GK.fn 86),(("_law_signs_by":Str),GK.fn 85),(("_law_streams":Str),GK.fn 88),(("_wall":Str),GK.fn 0),(("added":Str),GK.fn 4),(("all":Str),GK.blt),(("all_broken":Str),GK.fn 61),(("are_spans_above":Str),GK.fn 35),(("body_of":Str),GK.fn 41),(("bool":Str),GK.blt),(("check_begin":Str),GK.fn 2),(("check_of":Str),GK.fn 24),(("check_stretch":Str),GK.fn 3),(("count_below":Str),GK.fn 1),(("cut":Str),GK.fn 5),(("figures":Str),GK.fn 25),(("found":Str),GK.fn 59),(("holes":Str),GK.fn 6),(("in_turn":Str),GK.fn 58),(("int":Str),GK.blt),(("is_answer":Str),GK.fn 36),(("is_data":Str),GK.fn 32),(("is_end":Str),GK.fn 33),(("is_figures":Str),GK.fn 26),(("is_hello":Str),GK.fn 31),(("is_life":Str),GK.fn 28),(("is_number":Str),GK.fn 23),(("is_piece":Str),GK.fn 37),(("is_place":Str),GK.fn 29),(("is_sign":Str),GK.fn 21),(("is_signs":Str),GK.fn 22),(("is_span_above":Str),GK.fn 34),(("isinstance":Str),GK.blt),(("len":Str),GK.blt),(("list":Str),GK.blt),(("max":Str),GK.blt),(("min":Str),GK.blt),(("names_stream":Str),GK.fn 30),(("number_of":Str),GK.fn 27),(("number_words":Str),GK.fn 38),(("numbers_of":Str),GK.fn 43),(("ord":Str),GK.blt),(("parts_of":Str),GK.fn 45),(("range":Str),GK.blt),(("read":Str),GK.fn 46),(("signs_word":Str),GK.fn 39),(("sorted":Str),GK.blt),(("spans_of":Str),GK.fn 44),(("spans_word":Str),GK.fn 40),(("str":Str),GK.blt),(("tuple":Str),GK.blt),(("whole_ones":Str),GK.fn 60),(("written":Str),GK.fn 42)]
def xs:List (Nat × List Nat):=[(91742370622580,[91742370622580])]
def xl:List Nat:=[332437021739526678278002,91742370622580,22077439339750245,86240048210286,5651827816973820269,86240599565684,73059263014254,298204816740,23766421875286888]
theorem qBH:qD 332437021739526678278002=("FerryError":Str):=by kernel_rfl
theorem gZ:qD 91742370622580=("Spoilt":Str):=by kernel_rfl
theorem eD:qD 22077439339750245=("NoPiece":Str):=by kernel_rfl
theorem eC:qD 86240048210286=("NoSpan":Str):=by kernel_rfl
theorem eB:qD 5651827816973820269=("NoStream":Str):=by kernel_rfl
theorem eA:qD 86240599565684=("NotMet":Str):=by kernel_rfl
theorem eF:qD 73059263014254=("Broken":Str):=by kernel_rfl
theorem eE:qD 298204816740=("Ended":Str):=by kernel_rfl
theorem dZ:qD 23766421875286888=("TooMuch":Str):=by kernel_rfl
def Mt:List (Str × Nat × List (Nat × Nat)):=[(("__init__":Str),6872327479327219551,[(306712044914,7),(21785059625889383,17),(358300611685,47),(362411681138,51),(1215263604,62)]),(("write":Str),513020621925,[(306712044914,8),(1215263604,67)]),(("finish":Str),112603010003816,[(306712044914,9),(1215263604,68)]),(("answered":Str),7020675825757480292,[(306712044914,10)]),(("known_with":Str),507330387524976831460456,[(306712044914,11)]),(("next_parts":Str),521332113934423763874931,[(306712044914,12)]),(("next_part":Str),2036453570056342827636,[(306712044914,13)]),(("again":Str),418346264942,[(306712044914,14)]),(("parts_again":Str),135859872665656628713974126,[(306712044914,15)]),(("parts_of_holes":Str),2279350429444218050288784390251891,[(306712044914,16)]),(("heard":Str),448377483876,[(21785059625889383,18)]),(("hello":Str),448378203247,[(21785059625889383,19)]),(("reply":Str),491328138361,[(21785059625889383,20)]),(("put":Str),7370100,[(358300611685,48),(362411681138,52)]),(("draw_in":Str),28273260611201390,[(358300611685,49)]),(("sign":Str),1936287598,[(358300611685,50)]),(("ends":Str),1701733491,[(362411681138,53)]),(("reach":Str),491327153000,[(362411681138,54)]),(("take":Str),1952541541,[(362411681138,55),(1215263604,69)]),(("see_done":Str),8315163747390811749,[(362411681138,56)]),(("answer":Str),107127011501426,[(362411681138,57)]),(("begin_life":Str),464662488081084476647013,[(1215263604,63)]),(("start":Str),495873782388,[(1215263604,64)]),(("giver":Str),444150998386,[(1215263604,65)]),(("taker":Str),499850634610,[(1215263604,66)]),(("streams":Str),32497656997703027,[(1215263604,70)]),(("others":Str),122545758368371,[(1215263604,71)]),(("broken":Str),108243635103086,[(1215263604,72)]),(("fall":Str),1717660780,[(1215263604,73)]),(("tick":Str),1953063787,[(1215263604,74)]),(("pieces_by_turns":Str),583674933970360372264291001892499059,[(1215263604,75)]),(("part_to_send":Str),34780127400972871403634519652,[(1215263604,76)]),(("piece_of":Str),8100116882379468646,[(1215263604,77)]),(("hear":Str),1751474546,[(1215263604,78)]),(("break_streams":Str),7799763779075547922881686105459,[(1215263604,79)]),(("taken_in":Str),8386102064528189806,[(1215263604,80)]),(("part_came":Str),2073057138977531850085,[(1215263604,81)]),(("taker_made":Str),549591584905317559919717,[(1215263604,82)]),(("answer_came":Str),117787394794711584694431077,[(1215263604,83)])]
def At:List (Str × Nat × List Nat):=[(("most":Str),1836020596,[306712044914,1215263604]),(("text":Str),1952807028,[306712044914,358300611685,362411681138]),(("sent":Str),1936027252,[306712044914]),(("come":Str),1668246885,[306712044914]),(("limit":Str),465625246068,[306712044914,362411681138]),(("spans":Str),495806672499,[306712044914,358300611685]),(("is_ended":Str),7598521885552567652,[306712044914]),(("is_end_sent":Str),127482042954642681340718708,[306712044914]),(("is_heard":Str),7598521898286281316,[306712044914]),(("is_done":Str),29681726098730597,[306712044914,362411681138]),(("mine":Str),1835626085,[21785059625889383]),(("yours":Str),521561010803,[21785059625889383]),(("is_met":Str),115944243160436,[21785059625889383]),(("behind":Str),108187682958948,[358300611685]),(("room":Str),1919905645,[362411681138,1215263604]),(("slate":Str),495739565157,[362411681138]),(("told_end":Str),8390043809167535716,[362411681138]),(("read":Str),1919246692,[362411681138]),(("budget":Str),108256335193460,[1215263604]),(("life":Str),1818846821,[1215263604]),(("meeting":Str),30792258880630375,[1215263604]),(("givers":Str),113702655586931,[1215263604]),(("takers":Str),127961762460275,[1215263604]),(("sent_last":Str),2128684475675056370548,[1215263604])]
theorem zN:qD 306712044914=("Giver":Str):=by kernel_rfl
theorem vO:qD 21785059625889383=("Meeting":Str):=by kernel_rfl
theorem vN:qD 358300611685=("Slate":Str):=by kernel_rfl
theorem jE:qD 362411681138=("Taker":Str):=by kernel_rfl
theorem qX:qD 1215263604=("Host":Str):=by kernel_rfl
theorem qID:qD 1836020596=("most":Str):=by kernel_rfl
theorem qHl:qD 1952807028=("text":Str):=by kernel_rfl
theorem qHx:qD 1936027252=("sent":Str):=by kernel_rfl
theorem qIX:qD 1668246885=("come":Str):=by kernel_rfl
theorem qIG:qD 465625246068=("limit":Str):=by kernel_rfl
theorem qHt:qD 495806672499=("spans":Str):=by kernel_rfl
theorem qIL:qD 7598521885552567652=("is_ended":Str):=by kernel_rfl
theorem qIM:qD 127482042954642681340718708=("is_end_sent":Str):=by kernel_rfl
theorem qIK:qD 7598521898286281316=("is_heard":Str):=by kernel_rfl
theorem qIN:qD 29681726098730597=("is_done":Str):=by kernel_rfl
theorem qIE:qD 1835626085=("mine":Str):=by kernel_rfl
theorem qHh:qD 521561010803=("yours":Str):=by kernel_rfl
theorem qIJ:qD 115944243160436=("is_met":Str):=by kernel_rfl
theorem qIb:qD 108187682958948=("behind":Str):=by kernel_rfl
theorem qHz:qD 1919905645=("room":Str):=by kernel_rfl
theorem qHu:qD 495739565157=("slate":Str):=by kernel_rfl
theorem qHj:qD 8390043809167535716=("told_end":Str):=by kernel_rfl
theorem qH1:qD 1919246692=("read":Str):=by kernel_rfl
theorem qIY:qD 108256335193460=("budget":Str):=by kernel_rfl
theorem qIH:qD 1818846821=("life":Str):=by kernel_rfl
theorem qIF:qD 30792258880630375=("meeting":Str):=by kernel_rfl
theorem qIR:qD 113702655586931=("givers":Str):=by kernel_rfl
theorem qHm:qD 127961762460275=("takers":Str):=by kernel_rfl
theorem qHw:qD 2128684475675056370548=("sent_last":Str):=by kernel_rfl
theorem qIh:qD 6872327479327219551=("__init__":Str):=by kernel_rfl
theorem qHi:qD 513020621925=("write":Str):=by kernel_rfl
theorem qIT:qD 112603010003816=("finish":Str):=by kernel_rfl
theorem qId:qD 7020675825757480292=("answered":Str):=by kernel_rfl
theorem qII:qD 507330387524976831460456=("known_with":Str):=by kernel_rfl
theorem qIB:qD 521332113934423763874931=("next_parts":Str):=by kernel_rfl
theorem qIC:qD 2036453570056342827636=("next_part":Str):=by kernel_rfl
theorem qIg:qD 418346264942=("again":Str):=by kernel_rfl
theorem qH7:qD 135859872665656628713974126=("parts_again":Str):=by kernel_rfl
theorem qH6:qD 2279350429444218050288784390251891=("parts_of_holes":Str):=by kernel_rfl
theorem qIP:qD 448377483876=("heard":Str):=by kernel_rfl
theorem qIO:qD 448378203247=("hello":Str):=by kernel_rfl
theorem qH0:qD 491328138361=("reply":Str):=by kernel_rfl
theorem qH3:qD 7370100=("put":Str):=by kernel_rfl
theorem qIW:qD 28273260611201390=("draw_in":Str):=by kernel_rfl
theorem qHv:qD 1936287598=("sign":Str):=by kernel_rfl
theorem qIV:qD 1701733491=("ends":Str):=by kernel_rfl
theorem qH2:qD 491327153000=("reach":Str):=by kernel_rfl
theorem qHq:qD 1952541541=("take":Str):=by kernel_rfl
theorem qHy:qD 8315163747390811749=("see_done":Str):=by kernel_rfl
theorem qIf:qD 107127011501426=("answer":Str):=by kernel_rfl
theorem qIc:qD 464662488081084476647013=("begin_life":Str):=by kernel_rfl
theorem qHs:qD 495873782388=("start":Str):=by kernel_rfl
theorem qIS:qD 444150998386=("giver":Str):=by kernel_rfl
theorem qHo:qD 499850634610=("taker":Str):=by kernel_rfl
theorem qHr:qD 32497656997703027=("streams":Str):=by kernel_rfl
theorem qIA:qD 122545758368371=("others":Str):=by kernel_rfl
theorem qIZ:qD 108243635103086=("broken":Str):=by kernel_rfl
theorem qIU:qD 1717660780=("fall":Str):=by kernel_rfl
theorem qHk:qD 1953063787=("tick":Str):=by kernel_rfl
theorem qH4:qD 583674933970360372264291001892499059=("pieces_by_turns":Str):=by kernel_rfl
theorem qH8:qD 34780127400972871403634519652=("part_to_send":Str):=by kernel_rfl
theorem qH5:qD 8100116882379468646=("piece_of":Str):=by kernel_rfl
theorem qIQ:qD 1751474546=("hear":Str):=by kernel_rfl
theorem qIa:qD 7799763779075547922881686105459=("break_streams":Str):=by kernel_rfl
theorem qHp:qD 8386102064528189806=("taken_in":Str):=by kernel_rfl
theorem qH9:qD 2073057138977531850085=("part_came":Str):=by kernel_rfl
theorem qHn:qD 549591584905317559919717=("taker_made":Str):=by kernel_rfl
theorem qIe:qD 117787394794711584694431077=("answer_came":Str):=by kernel_rfl
def iE:Df:=⟨"_wall","_wall",top 0,["k"],["k"]⟩
def lM:Df:=⟨"count_below","count_below",top 14,["spans","side","place","low","high","middle"],["spans","side","place"]⟩
def lP:Df:=⟨"check_begin","check_begin",top 15,["begin"],["begin"]⟩
def lN:Df:=⟨"check_stretch","check_stretch",top 16,["begin","end"],["begin","end"]⟩
def lV:Df:=⟨"added","added",top 17,["spans","begin","end","first","behind"],["spans","begin","end"]⟩
def lL:Df:=⟨"cut","cut",top 18,["spans","begin","rest"],["spans","begin"]⟩
def lI:Df:=⟨"holes","holes",top 19,["spans","begin","end","found","place","span"],["spans","begin","end"]⟩
def bC:Df:=⟨"__init__","Giver.__init__",qN 24 0,["self","most"],["self","most"]⟩
def nH:Df:=⟨"write","Giver.write",qN 24 1,["self","signs"],["self","signs"]⟩
def nN:Df:=⟨"finish","Giver.finish",qN 24 2,["self"],["self"]⟩
def nO:Df:=⟨"answered","Giver.answered",qN 24 3,["self","come","limit","spans","most_come"],["self","come","limit","spans"]⟩
def nM:Df:=⟨"known_with","Giver.known_with",qN 24 4,["self","spans","known","span","begin","end"],["self","spans"]⟩
def nK:Df:=⟨"next_parts","Giver.next_parts",qN 24 5,["self","count","parts","part"],["self","count"]⟩
def nL:Df:=⟨"next_part","Giver.next_part",qN 24 6,["self","at","end"],["self"]⟩
def nP:Df:=⟨"again","Giver.again",qN 24 7,["self","count"],["self","count"]⟩
def nJ:Df:=⟨"parts_again","Giver.parts_again",qN 24 8,["self","parts"],["self"]⟩
def nI:Df:=⟨"parts_of_holes","Giver.parts_of_holes",qN 24 9,["self","parts","hole","at"],["self"]⟩
def bA:Df:=⟨"__init__","Meeting.__init__",qN 27 0,["self","mine"],["self","mine"]⟩
def mK:Df:=⟨"heard","Meeting.heard",qN 27 1,["self","piece","told_yours","told_mine","is_fresh","is_known"],["self","piece"]⟩
def mJ:Df:=⟨"hello","Meeting.hello",qN 27 2,["self"],["self"]⟩
def mI:Df:=⟨"reply","Meeting.reply",qN 27 3,["self"],["self"]⟩
def iX:Df:=⟨"is_sign","is_sign",top 38,["sign","place"],["sign"]⟩
def iW:Df:=⟨"is_signs","is_signs",top 39,["thing"],["thing"]⟩
def lA:Df:=⟨"is_number","is_number",top 40,["thing","least","most"],["thing","least","most"]⟩
def lO:Df:=⟨"check_of","check_of",top 41,["signs","check","sign"],["signs"]⟩
def lK:Df:=⟨"figures","figures",top 42,["number"],["number"]⟩
def lD:Df:=⟨"is_figures","is_figures",top 43,["text"],["text"]⟩
def iM:Df:=⟨"number_of","number_of",top 44,["text","number"],["text"]⟩
def lB:Df:=⟨"is_life","is_life",top 54,["thing"],["thing"]⟩
def iY:Df:=⟨"is_place","is_place",top 55,["thing"],["thing"]⟩
def iO:Df:=⟨"names_stream","names_stream",top 56,["parts"],["parts"]⟩
def lC:Df:=⟨"is_hello","is_hello",top 57,["parts"],["parts"]⟩
def lF:Df:=⟨"is_data","is_data",top 58,["parts","at","signs"],["parts"]⟩
def lE:Df:=⟨"is_end","is_end",top 59,["parts"],["parts"]⟩
def iV:Df:=⟨"is_span_above","is_span_above",top 60,["thing","floor"],["thing","floor"]⟩
def lT:Df:=⟨"are_spans_above","are_spans_above",top 61,["thing","floor","span"],["thing","floor"]⟩
def lG:Df:=⟨"is_answer","is_answer",top 62,["parts"],["parts"]⟩
def iZ:Df:=⟨"is_piece","is_piece",top 63,["thing","kind"],["thing"]⟩
def iL:Df:=⟨"number_words","number_words",top 64,["numbers"],["numbers"]⟩
def iH:Df:=⟨"signs_word","signs_word",top 65,["signs","count"],["signs"]⟩
def iF:Df:=⟨"spans_word","spans_word",top 66,["spans"],["spans"]⟩
def lR:Df:=⟨"body_of","body_of",top 67,["piece","kind","words"],["piece"]⟩
def iB:Df:=⟨"written","written",top 68,["piece","body","check"],["piece"]⟩
def iK:Df:=⟨"numbers_of","numbers_of",top 69,["words"],["words"]⟩
def iG:Df:=⟨"spans_of","spans_of",top 70,["word"],["word"]⟩
def iJ:Df:=⟨"parts_of","parts_of",top 71,["body","words","kind"],["body"]⟩
def iI:Df:=⟨"read","read",top 72,["text","piece"],["text"]⟩
def aZ:Df:=⟨"__init__","Slate.__init__",qN 74 0,["self"],["self"]⟩
def mG:Df:=⟨"put","Slate.put",qN 74 1,["self","at","signs","begin","end","place"],["self","at","signs"]⟩
def mH:Df:=⟨"draw_in","Slate.draw_in",qN 74 2,["self","first","grown","place"],["self"]⟩
def mF:Df:=⟨"sign","Slate.sign",qN 74 3,["self","place"],["self","place"]⟩
def aY:Df:=⟨"__init__","Taker.__init__",qN 76 0,["self","room"],["self","room"]⟩
def mC:Df:=⟨"put","Taker.put",qN 76 1,["self","at","signs","bound"],["self","at","signs"]⟩
def mD:Df:=⟨"ends","Taker.ends",qN 76 2,["self","at"],["self","at"]⟩
def mB:Df:=⟨"reach","Taker.reach",qN 76 3,["self","spans"],["self"]⟩
def lY:Df:=⟨"take","Taker.take",qN 76 4,["self","count"],["self","count"]⟩
def lZ:Df:=⟨"see_done","Taker.see_done",qN 76 5,["self"],["self"]⟩
def mE:Df:=⟨"answer","Taker.answer",qN 76 6,["self","come"],["self"]⟩
def lH:Df:=⟨"in_turn","in_turn",top 78,["numbers","last","above"],["numbers","last"]⟩
def lJ:Df:=⟨"found","found",top 82,["sides","stream"],["sides","stream"]⟩
def iC:Df:=⟨"whole_ones","whole_ones",top 83,["sides"],["sides"]⟩
def lU:Df:=⟨"all_broken","all_broken",top 84,["sides","broken","stream"],["sides"]⟩
def bB:Df:=⟨"__init__","Host.__init__",qN 85 0,["self","room","most","budget"],["self","room","most","budget"]⟩
def nF:Df:=⟨"begin_life","Host.begin_life",qN 85 1,["self"],["self"]⟩
def mT:Df:=⟨"start","Host.start",qN 85 2,["self","stream"],["self"]⟩
def nA:Df:=⟨"giver","Host.giver",qN 85 3,["self","stream"],["self","stream"]⟩
def mO:Df:=⟨"taker","Host.taker",qN 85 4,["self","stream"],["self","stream"]⟩
def mL:Df:=⟨"write","Host.write",qN 85 5,["self","stream","signs"],["self","stream","signs"]⟩
def nB:Df:=⟨"finish","Host.finish",qN 85 6,["self","stream"],["self","stream"]⟩
def mR:Df:=⟨"take","Host.take",qN 85 7,["self","stream","count"],["self","stream","count"]⟩
def mS:Df:=⟨"streams","Host.streams",qN 85 8,["self"],["self"]⟩
def mY:Df:=⟨"others","Host.others",qN 85 9,["self"],["self"]⟩
def nD:Df:=⟨"broken","Host.broken",qN 85 10,["self"],["self"]⟩
def nC:Df:=⟨"fall","Host.fall",qN 85 11,["self"],["self"]⟩
def mM:Df:=⟨"tick","Host.tick",qN 85 12,["self","pieces"],["self"]⟩
def mU:Df:=⟨"pieces_by_turns","Host.pieces_by_turns",qN 85 13,["self","pieces","waiting","stream","part"],["self"]⟩
def mW:Df:=⟨"part_to_send","Host.part_to_send",qN 85 14,["self","stream","giver","parts"],["self","stream"]⟩
def mV:Df:=⟨"piece_of","Host.piece_of",qN 85 15,["self","stream","part"],["self","stream","part"]⟩
def mZ:Df:=⟨"hear","Host.hear",qN 85 16,["self","text","piece","told","is_fresh","is_known","answers"],["self","text"]⟩
def nE:Df:=⟨"break_streams","Host.break_streams",qN 85 17,["self"],["self"]⟩
def mP:Df:=⟨"taken_in","Host.taken_in",qN 85 18,["self","piece","kind"],["self","piece"]⟩
def mX:Df:=⟨"part_came","Host.part_came",qN 85 19,["self","piece","stream","taker"],["self","piece"]⟩
def mN:Df:=⟨"taker_made","Host.taker_made",qN 85 20,["self","stream"],["self","stream"]⟩
def nG:Df:=⟨"answer_came","Host.answer_came",qN 85 21,["self","piece","giver"],["self","piece"]⟩
def iU:Df:=⟨"_law_cell_at","_law_cell_at",top 87,["_law_script","_law_k"],["_law_script","_law_k"]⟩
def iQ:Df:=⟨"_law_signs_by","_law_signs_by",top 88,["_law_cell","_law_count","_law_some"],["_law_cell","_law_count"]⟩
def iR:Df:=⟨"_law_part","_law_part",top 89,["_law_signs","_law_is_ended"],["_law_signs","_law_is_ended"]⟩
def iT:Df:=⟨"_law_due","_law_due",top 90,["_law_parts","_law_last","_law_budget","_law_is_met","_law_told","_law_left","_law_served","_law_step","_law_number"],["_law_parts","_law_last","_law_budget","_law_is_met"]⟩
def iP:Df:=⟨"_law_streams","_law_streams",top 91,["_law_host","_law_script","_law_size","_law_parts","_law_short","_law_k","_law_some","_law_signs","_law_is_ended"],["_law_host","_law_script","_law_size"]⟩
def vU:Df:=⟨"law","law",top 92,["_law_script","_law_cell","_law_budget","_law_host","_law_alone","_law_is_met","_law_size","_law_made","_law_parts","_law_last","_law_held","_law_turn","_law_due_here","_law_found","_law_k"],["_law_script"]⟩
def ds:List Df:=[iE,lM,lP,lN,lV,lL,lI,bC,nH,nN,nO,nM,nK,nL,nP,nJ,nI,bA,mK,mJ,mI,iX,iW,lA,lO,lK,lD,iM,lB,iY,iO,lC,lF,lE,iV,lT,lG,iZ,iL,iH,iF,lR,iB,iK,iG,iJ,iI,aZ,mG,mH,mF,aY,mC,mD,mB,lY,lZ,mE,lH,lJ,iC,lU,bB,nF,mT,nA,mO,mL,nB,mR,mS,mY,nD,nC,mM,mU,mW,mV,mZ,nE,mP,mX,mN,nG,iU,iQ,iR,iT,iP,vU]
theorem qO3:qF iE:=fun _ _ _ _ _ _=>ar1 fun _=>rfl
theorem qPa:qF lM:=fun _ _ _ _ _ _=>ar3 fun _ _ _=>rfl
theorem qPd:qF lP:=fun _ _ _ _ _ _=>ar1 fun _=>rfl
theorem qPb:qF lN:=fun _ _ _ _ _ _=>ar2 fun _ _=>rfl
theorem qPh:qF lV:=fun _ _ _ _ _ _=>ar3 fun _ _ _=>rfl
theorem qPZ:qF lL:=fun _ _ _ _ _ _=>ar2 fun _ _=>rfl
theorem qPW:qF lI:=fun _ _ _ _ _ _=>ar3 fun _ _ _=>rfl
theorem qDR:qF bC:=fun _ _ _ _ _ _=>ar2 fun _ _=>rfl
theorem qQF:qF nH:=fun _ _ _ _ _ _=>ar2 fun _ _=>rfl
theorem qQL:qF nN:=fun _ _ _ _ _ _=>ar1 fun _=>rfl
theorem qQM:qF nO:=fun _ _ _ _ _ _=>ar4 fun _ _ _ _=>rfl
theorem qQK:qF nM:=fun _ _ _ _ _ _=>ar2 fun _ _=>rfl
theorem qQI:qF nK:=fun _ _ _ _ _ _=>ar2 fun _ _=>rfl
theorem qQJ:qF nL:=fun _ _ _ _ _ _=>ar1 fun _=>rfl
theorem qQN:qF nP:=fun _ _ _ _ _ _=>ar2 fun _ _=>rfl
theorem qQH:qF nJ:=fun _ _ _ _ _ _=>ar1 fun _=>rfl
theorem qQG:qF nI:=fun _ _ _ _ _ _=>ar1 fun _=>rfl
theorem qDP:qF bA:=fun _ _ _ _ _ _=>ar2 fun _ _=>rfl
theorem qPt:qF mK:=fun _ _ _ _ _ _=>ar2 fun _ _=>rfl
theorem qPs:qF mJ:=fun _ _ _ _ _ _=>ar1 fun _=>rfl
theorem qPr:qF mI:=fun _ _ _ _ _ _=>ar1 fun _=>rfl
theorem qPL:qF iX:=fun _ _ _ _ _ _=>ar1 fun _=>rfl
theorem qPK:qF iW:=fun _ _ _ _ _ _=>ar1 fun _=>rfl
theorem qPO:qF lA:=fun _ _ _ _ _ _=>ar3 fun _ _ _=>rfl
theorem qPc:qF lO:=fun _ _ _ _ _ _=>ar1 fun _=>rfl
theorem qPY:qF lK:=fun _ _ _ _ _ _=>ar1 fun _=>rfl
theorem qPR:qF lD:=fun _ _ _ _ _ _=>ar1 fun _=>rfl
theorem qPB:qF iM:=fun _ _ _ _ _ _=>ar1 fun _=>rfl
theorem qPP:qF lB:=fun _ _ _ _ _ _=>ar1 fun _=>rfl
theorem qPM:qF iY:=fun _ _ _ _ _ _=>ar1 fun _=>rfl
theorem qPC:qF iO:=fun _ _ _ _ _ _=>ar1 fun _=>rfl
theorem qPQ:qF lC:=fun _ _ _ _ _ _=>ar1 fun _=>rfl
theorem qPT:qF lF:=fun _ _ _ _ _ _=>ar1 fun _=>rfl
theorem qPS:qF lE:=fun _ _ _ _ _ _=>ar1 fun _=>rfl
theorem qPJ:qF iV:=fun _ _ _ _ _ _=>ar2 fun _ _=>rfl
theorem qPf:qF lT:=fun _ _ _ _ _ _=>ar2 fun _ _=>rfl
theorem qPU:qF lG:=fun _ _ _ _ _ _=>ar1 fun _=>rfl
theorem qPN:qF iZ:=fun _ _ _ _ _ _=>ar1 fun _=>rfl
theorem qPA:qF iL:=fun _ _ _ _ _ _=>ar1 fun _=>rfl
theorem qO6:qF iH:=fun _ _ _ _ _ _=>ar1 fun _=>rfl
theorem qO4:qF iF:=fun _ _ _ _ _ _=>ar1 fun _=>rfl
theorem qPe:qF lR:=fun _ _ _ _ _ _=>ar1 fun _=>rfl
theorem qO1:qF iB:=fun _ _ _ _ _ _=>ar1 fun _=>rfl
theorem qO9:qF iK:=fun _ _ _ _ _ _=>ar1 fun _=>rfl
theorem qO5:qF iG:=fun _ _ _ _ _ _=>ar1 fun _=>rfl
theorem qO8:qF iJ:=fun _ _ _ _ _ _=>ar1 fun _=>rfl
theorem qO7:qF iI:=fun _ _ _ _ _ _=>ar1 fun _=>rfl
theorem qDO:qF aZ:=fun _ _ _ _ _ _=>ar1 fun _=>rfl
theorem qPp:qF mG:=fun _ _ _ _ _ _=>ar3 fun _ _ _=>rfl
theorem qPq:qF mH:=fun _ _ _ _ _ _=>ar1 fun _=>rfl
theorem qPo:qF mF:=fun _ _ _ _ _ _=>ar2 fun _ _=>rfl
theorem qDN:qF aY:=fun _ _ _ _ _ _=>ar2 fun _ _=>rfl
theorem qPl:qF mC:=fun _ _ _ _ _ _=>ar3 fun _ _ _=>rfl
theorem qPm:qF mD:=fun _ _ _ _ _ _=>ar2 fun _ _=>rfl
theorem qPk:qF mB:=fun _ _ _ _ _ _=>ar1 fun _=>rfl
theorem qPi:qF lY:=fun _ _ _ _ _ _=>ar2 fun _ _=>rfl
theorem qPj:qF lZ:=fun _ _ _ _ _ _=>ar1 fun _=>rfl
theorem qPn:qF mE:=fun _ _ _ _ _ _=>ar1 fun _=>rfl
theorem qPV:qF lH:=fun _ _ _ _ _ _=>ar2 fun _ _=>rfl
theorem qPX:qF lJ:=fun _ _ _ _ _ _=>ar2 fun _ _=>rfl
theorem qO2:qF iC:=fun _ _ _ _ _ _=>ar1 fun _=>rfl
theorem qPg:qF lU:=fun _ _ _ _ _ _=>ar1 fun _=>rfl
theorem qDQ:qF bB:=fun _ _ _ _ _ _=>ar4 fun _ _ _ _=>rfl
theorem qQD:qF nF:=fun _ _ _ _ _ _=>ar1 fun _=>rfl
theorem qP1:qF mT:=fun _ _ _ _ _ _=>ar1 fun _=>rfl
theorem qP8:qF nA:=fun _ _ _ _ _ _=>ar2 fun _ _=>rfl
theorem qPx:qF mO:=fun _ _ _ _ _ _=>ar2 fun _ _=>rfl
theorem qPu:qF mL:=fun _ _ _ _ _ _=>ar3 fun _ _ _=>rfl
theorem qP9:qF nB:=fun _ _ _ _ _ _=>ar2 fun _ _=>rfl
theorem qPz:qF mR:=fun _ _ _ _ _ _=>ar3 fun _ _ _=>rfl
theorem qP0:qF mS:=fun _ _ _ _ _ _=>ar1 fun _=>rfl
theorem qP6:qF mY:=fun _ _ _ _ _ _=>ar1 fun _=>rfl
theorem qQB:qF nD:=fun _ _ _ _ _ _=>ar1 fun _=>rfl
theorem qQA:qF nC:=fun _ _ _ _ _ _=>ar1 fun _=>rfl
theorem qPv:qF mM:=fun _ _ _ _ _ _=>ar1 fun _=>rfl
theorem qP2:qF mU:=fun _ _ _ _ _ _=>ar1 fun _=>rfl
theorem qP4:qF mW:=fun _ _ _ _ _ _=>ar2 fun _ _=>rfl
theorem qP3:qF mV:=fun _ _ _ _ _ _=>ar3 fun _ _ _=>rfl
theorem qP7:qF mZ:=fun _ _ _ _ _ _=>ar2 fun _ _=>rfl
theorem qQC:qF nE:=fun _ _ _ _ _ _=>ar1 fun _=>rfl
theorem qPy:qF mP:=fun _ _ _ _ _ _=>ar2 fun _ _=>rfl
theorem qP5:qF mX:=fun _ _ _ _ _ _=>ar2 fun _ _=>rfl
theorem qPw:qF mN:=fun _ _ _ _ _ _=>ar2 fun _ _=>rfl
theorem qQE:qF nG:=fun _ _ _ _ _ _=>ar2 fun _ _=>rfl
theorem qPH:qF iU:=fun _ _ _ _ _ _=>ar2 fun _ _=>rfl
theorem qPE:qF iQ:=fun _ _ _ _ _ _=>ar2 fun _ _=>rfl
theorem qPF:qF iR:=fun _ _ _ _ _ _=>ar2 fun _ _=>rfl
theorem qPG:qF iT:=fun _ _ _ _ _ _=>ar4 fun _ _ _ _=>rfl
theorem qPD:qF iP:=fun _ _ _ _ _ _=>ar3 fun _ _ _=>rfl
theorem qPI:qF vU:=fun _ _ _ _ _ _=>ar1 fun _=>rfl
theorem oks:AllZ (fun d f=>DfOk G xs Mt At d f) ds fns:=by
 refine⟨?_,?_,?_,?_,?_,?_,?_,?_,?_,?_,?_,?_,?_,?_,?_,?_,?_,?_,?_,?_,?_,?_,?_,?_,?_,?_,?_,?_,?_,?_,?_,?_,?_,?_,?_,?_,?_,?_,?_,?_,?_,?_,?_,?_,?_,?_,?_,?_,?_,?_,?_,?_,?_,?_,?_,?_,?_,?_,?_,?_,?_,?_,?_,?_,?_,?_,?_,?_,?_,?_,?_,?_,?_,?_,?_,?_,?_,?_,?_,?_,?_,?_,?_,?_,?_,?_,?_,?_,?_,?_,trivial⟩ <;> exact⟨⟨rfl,rfl,rfl,by decide +kernel,rfl,by decide +kernel,by decide +kernel⟩,by kernel_rfl,rfl,rfl⟩
theorem qEW:ds[89]?=some vU:=by kernel_rfl
theorem qEU:vU.qual=vU.name:=by kernel_rfl
theorem qEV:vU.ps=(["_law_script"]:List Str):=by kernel_rfl
theorem qEX:(("law":Str),GK.fn 89)∈G:=List.mem_cons_self ..
end Lk35
namespace PySem.W.Fast
def tw10137107852216600841:=0
def tw10245178109360008931:=0
def tw1026307660210085898:=0
def tw1029225988245092317:=0
def tw10320795001695548418:=0
def tw10393112414330210007:=0
def tw10410214566473227198:=0
def tw1041979718743986388:=0
def tw104304476091591532:=0
def tw1044350961262777606:=0
def tw10478512282675059986:=0
def tw10481182227222325665:=0
def tw10489963075107416942:=0
def tw10532508583982900298:=0
def tw10555949976004096547:=0
def tw10660811393305357824:=0
def tw10740397042624350346:=0
def tw1080088980618171758:=0
def tw108344187780004876:=0
def tw10969620033721402725:=0
def tw10988215954065747759:=0
def tw10990006509330377780:=0
def tw1103017667105483665:=0
def tw11041791226474629351:=0
def tw11041941492514868569:=0
def tw11075081646030105691:=0
def tw11107858011038883577:=0
def tw11108747934421845624:=0
def tw111365011964827250:=0
def tw11169154994930917705:=0
def tw11301691361418808922:=0
def tw11304642784051815132:=0
def tw11320720075825793386:=0
def tw1132558826542931850:=0
def tw1132835935460304361:=0
def tw11397968278540463819:=0
def tw11417700368841218426:=0
def tw11453643291664786425:=0
def tw11528516879121699488:=0
def tw11546063620720889378:=0
def tw11564470701235384827:=0
def tw11568672729998793536:=0
def tw11591653582273739495:=0
def tw11608493121653191235:=0
def tw11653167261058103734:=0
def tw1170776331696157070:=0
def tw11739937077600680862:=0
def tw11820702677632897839:=0
def tw11843328955714839266:=0
def tw11873667128413208531:=0
def tw1189643782522836882:=0
def tw11900618779556785995:=0
def tw11967711307168039698:=0
def tw11976453227669785443:=0
def tw1198072537024578946:=0
def tw12032556933575794406:=0
def tw1203986812418440038:=0
def tw12062822466217757957:=0
def tw12086340627484218293:=0
def tw12160740278028865805:=0
def tw12171676795536196416:=0
def tw12175614811852546644:=0
def tw12176083872217251734:=0
def tw12195624934145940579:=0
def tw12234952736978431325:=0
def tw12323598824292447995:=0
def tw12325944534746866476:=0
def tw1243095014276916041:=0
def tw12501324364500374452:=0
def tw12512713231362651296:=0
def tw12525738691731160912:=0
def tw12550359461414392043:=0
def tw12565759834771430342:=0
def tw12576571778353293776:=0
def tw1257839894057012837:=0
def tw12581977870920151974:=0
def tw12598146323646113033:=0
def tw12632410936368398009:=0
def tw12642079272395930652:=0
def tw12715896556947733328:=0
def tw1275830303370641250:=0
def tw12795735534315938112:=0
def tw12804885458333087974:=0
def tw12812711534057975727:=0
def tw12822322376235821792:=0
def tw12842368473524859900:=0
def tw12851518386920636143:=0
def tw12851701572292601345:=0
def tw12859587828369938216:=0
def tw12892099603268154758:=0
def tw12994889616382471263:=0
def tw13002572412786840381:=0
def tw13005209420293589420:=0
def tw13028846384265858498:=0
def tw13053268913038772015:=0
def tw13071481131505741834:=0
def tw1312645416398955163:=0
def tw13158057641782336941:=0
def tw13177834769031499464:=0
def tw13239422967375742373:=0
def tw13259052089876698902:=0
def tw13263776886852539279:=0
def tw13372438759319319576:=0
def tw13374727265679779067:=0
def tw13410555779903678728:=0
def tw13467876690233428328:=0
def tw13476042371363034813:=0
def tw13534488442136320454:=0
def tw13535258520608379927:=0
def tw13557375933804748002:=0
def tw1356690205581295961:=0
def tw13588740560719371573:=0
def tw13592641988646971289:=0
def tw13598134351092043858:=0
def tw13606065271946432495:=0
def tw13620015394880917630:=0
def tw13681132880453471316:=0
def tw13713948814850044195:=0
def tw13742916118437294057:=0
def tw13821161934421997426:=0
def tw13821453643768308259:=0
def tw13869847362065138453:=0
def tw13885218494700881085:=0
def tw13944441460932762403:=0
def tw13954213472398148081:=0
def tw13972512165915525559:=0
def tw13992517756754647345:=0
def tw14091260300885574825:=0
def tw14113646607101050589:=0
def tw14178678397392284469:=0
def tw14203487737248160761:=0
def tw14250878123482119115:=0
def tw14289945277445483308:=0
def tw14300750976747284544:=0
def tw14318797729172825835:=0
def tw14328358107111725334:=0
def tw14364754749503534759:=0
def tw14375186975434278992:=0
def tw14402533379193218989:=0
def tw14423192894396083658:=0
def tw14429712348552662261:=0
def tw14502996122442566241:=0
def tw14581529293960951964:=0
def tw14585692260406934777:=0
def tw14649728683839427342:=0
def tw14710895977885269934:=0
def tw14809799388926517176:=0
def tw14838237447278762090:=0
def tw14840494304384300185:=0
def tw1486659502880072335:=0
def tw14964632261314482361:=0
def tw15005876031148848045:=0
def tw15036933568082899599:=0
def tw15042512937428225219:=0
def tw15072228227174198760:=0
def tw15079994246175911513:=0
def tw15107117841563749500:=0
def tw15112056354117545283:=0
def tw15127365208099573421:=0
def tw15148406235301705904:=0
def tw151514035763334443:=0
def tw15221715383111519985:=0
def tw15281376814305292257:=0
def tw15293921135697241224:=0
def tw15341406501240334341:=0
def tw1536503681898760266:=0
def tw15376019334529668471:=0
def tw15400979385299458038:=0
def tw1540275633538212844:=0
def tw15442244583496057921:=0
def tw15475088271928003168:=0
def tw15491642290141373886:=0
def tw15557942925376892524:=0
def tw15610707125775041863:=0
def tw15637139561623446762:=0
def tw15663348391557379911:=0
def tw15704001868292651253:=0
def tw15705514476671944007:=0
def tw15708825626755856255:=0
def tw15731658211337669069:=0
def tw15738350618719955925:=0
def tw15740822397606346037:=0
def tw1574271656209771276:=0
def tw15905555290138116654:=0
def tw15915493364893866492:=0
def tw16023078266514963981:=0
def tw16087260622998662215:=0
def tw16110916142589461242:=0
def tw16158467464133071300:=0
def tw16198327621589190780:=0
def tw16242348775592514112:=0
def tw16249166283840540961:=0
def tw16250646725246264003:=0
def tw16252615629767743891:=0
def tw16276969436404146990:=0
def tw16295312670562605281:=0
def tw16332640632265190806:=0
def tw16342150782803494018:=0
def tw16362346083001936114:=0
def tw16405722254099151525:=0
def tw16417512926830534324:=0
def tw16459269215766653311:=0
def tw16461771812357077707:=0
def tw16505057375630759851:=0
def tw16545563355047752728:=0
def tw16589204885860904258:=0
def tw16617056163594850657:=0
def tw16641722491006894208:=0
def tw16667947852225297638:=0
def tw1666884411736938753:=0
def tw16679912405714524614:=0
def tw16681063565353918654:=0
def tw16704830933087958045:=0
def tw1673474274048828630:=0
def tw16771315786015702837:=0
def tw1677745311317766512:=0
def tw16788391837249024117:=0
def tw1683638105172792615:=0
def tw16849061349244089457:=0
def tw1687445751678586309:=0
def tw16913614434286772882:=0
def tw17021084728090557801:=0
def tw17024466868332738565:=0
def tw17041266069772565252:=0
def tw17097872575142004898:=0
def tw17145207525633464618:=0
def tw17155532720468496541:=0
def tw17224461855839145503:=0
def tw17335795966253990507:=0
def tw17358223564056155764:=0
def tw1737734725799191079:=0
def tw17388335271785776031:=0
def tw17393309489304355395:=0
def tw17424956754884587329:=0
def tw17498798485277696139:=0
def tw17541675341027908546:=0
def tw17566431636883878491:=0
def tw17583988919728037671:=0
def tw17593694495311952328:=0
def tw17609409492765180192:=0
def tw17645516741154530204:=0
def tw17688548944421749703:=0
def tw17721526393698950995:=0
def tw17749433942925953890:=0
def tw17854896239133617400:=0
def tw17882913768790445890:=0
def tw17883975066002564841:=0
def tw17921603287467124294:=0
def tw17954976394441639573:=0
def tw18058937666750762457:=0
def tw18070328102386756420:=0
def tw18072402852987848948:=0
def tw18199504826648362550:=0
def tw1822688377520300004:=0
def tw18231328055341381093:=0
def tw18268383131289265927:=0
def tw18281411286263850453:=0
def tw18323311536614187859:=0
def tw18325638538769727191:=0
def tw18374856167311914071:=0
def tw18399337715273391584:=0
def tw18426420175913927080:=0
def tw18435935356840562613:=0
def tw185044526012107583:=0
def tw1930039330789965320:=0
def tw193423287114274896:=0
def tw1990261081423643360:=0
def tw2007874287521829434:=0
def tw2026965961364809916:=0
def tw2032287026557336816:=0
def tw2068223268221504678:=0
def tw2119783155784309765:=0
def tw2142516589274425151:=0
def tw2142690910850415174:=0
def tw2183678175060121827:=0
def tw2203734813102840142:=0
def tw2309324862576321824:=0
def tw2325563719639972747:=0
def tw2337084732215288089:=0
def tw2380857943737181572:=0
def tw2402347048102588944:=0
def tw2451533272921738304:=0
def tw2485033339007220847:=0
def tw2503767413775164655:=0
def tw2597209432190246401:=0
def tw2621939521185023628:=0
def tw2655391706138743382:=0
def tw2687213683128993689:=0
def tw2691919310122971975:=0
def tw2771350728397942490:=0
def tw2775444674217464005:=0
def tw2811960330294901673:=0
def tw2813093257533047621:=0
def tw2817438479084306712:=0
def tw2851111873530448729:=0
def tw2893323264945169048:=0
def tw2898441213325950853:=0
def tw2906335811729864138:=0
def tw2927270655330742024:=0
def tw2993775537231682068:=0
def tw3034469209826743194:=0
def tw3053662531151808347:=0
def tw3110120748828014181:=0
def tw3233478466048554079:=0
def tw3234268847915395399:=0
def tw3237261505858449319:=0
def tw3240427966650975094:=0
def tw3242000739458334714:=0
def tw325383610710857448:=0
def tw3314697794929033011:=0
def tw3350772655369995370:=0
def tw3363497980993780276:=0
def tw3373247311875206297:=0
def tw3393775796714947255:=0
def tw3394143757892367449:=0
def tw3397415366922973725:=0
def tw3399943683755814155:=0
def tw3416314632622406932:=0
def tw3417569048903131094:=0
def tw3431711663817286120:=0
def tw3436224775472899170:=0
def tw3462167524761136406:=0
def tw347756460264358997:=0
def tw3499826453662845600:=0
def tw3541542671654661687:=0
def tw3562769640210808502:=0
def tw3578965484272560462:=0
def tw3608024820149664626:=0
def tw3634723398955438873:=0
def tw3685788784728790646:=0
def tw3692529049529319875:=0
def tw3694898784514171815:=0
def tw3739588694657259434:=0
def tw3743387396219853614:=0
def tw3798163219526860655:=0
def tw3798586622209794263:=0
def tw3811931196586058055:=0
def tw3843549391079427349:=0
def tw3875306609970618073:=0
def tw3910115761372944766:=0
def tw3912706886520276275:=0
def tw3926538943451163305:=0
def tw3933576766984590239:=0
def tw408566906813068227:=0
def tw4103268882412875182:=0
def tw410350623392916844:=0
def tw4111505323133706501:=0
def tw4128399336070461409:=0
def tw4137626975415705338:=0
def tw4217075183446767746:=0
def tw4317841514443621043:=0
def tw4329404977724714382:=0
def tw4358346747612310805:=0
def tw4371650399668647936:=0
def tw4442742200944768375:=0
def tw4470889750813280528:=0
def tw454408601080459936:=0
def tw4550124943628843344:=0
def tw4579016468050198915:=0
def tw4631497182630278120:=0
def tw4631977545512554735:=0
def tw4700468242745504288:=0
def tw474942759872116952:=0
def tw476032121187686964:=0
def tw4782616343582125018:=0
def tw482892143333165099:=0
def tw4850085318101085142:=0
def tw4901944577317747263:=0
def tw4919396040486122532:=0
def tw4975090055303603016:=0
def tw4976830345370602412:=0
def tw4985395322544095152:=0
def tw5008354639714468899:=0
def tw5014805800037179478:=0
def tw5020528001616473333:=0
def tw5037239205090001737:=0
def tw5060133099395301545:=0
def tw5068944922369887180:=0
def tw510027505602903648:=0
def tw5122484150064262674:=0
def tw5130488405287874240:=0
def tw5168173328212589490:=0
def tw51867866666418156:=0
def tw5241282451894050055:=0
def tw5270076867754432426:=0
def tw5296732612776720254:=0
def tw5301952013299470507:=0
def tw5370761616911329852:=0
def tw5472152497417807829:=0
def tw549615805021466708:=0
def tw5525475883271055622:=0
def tw5550491192276993440:=0
def tw559114048527519192:=0
def tw5685649740776073895:=0
def tw5710252970053452046:=0
def tw5733629213779538067:=0
def tw5787164749231640920:=0
def tw5787401438712898799:=0
def tw5793321061889141314:=0
def tw5805376664680415459:=0
def tw5817117228949571636:=0
def tw5825686425461324042:=0
def tw5844325801283288569:=0
def tw5850320303745707644:=0
def tw5854548856098489270:=0
def tw5861845698975492766:=0
def tw5973303521688130874:=0
def tw6032812809525502895:=0
def tw6094878156199829979:=0
def tw6098334090399607889:=0
def tw6155162166235210264:=0
def tw6188436402963256841:=0
def tw6207415156137906750:=0
def tw6230607600960757560:=0
def tw6335535198544839564:=0
def tw6344179234794228678:=0
def tw6398126717243272506:=0
def tw6398848805804775021:=0
def tw6417372505795953072:=0
def tw6423652447400617769:=0
def tw6438812412577850273:=0
def tw6454775714138445125:=0
def tw6498338601566411632:=0
def tw6527167533103176592:=0
def tw6563166356433185920:=0
def tw6677713788639246388:=0
def tw6692794101842738182:=0
def tw6695561862986035881:=0
def tw6742961577026400181:=0
def tw6756988704903529540:=0
def tw6761409442516719068:=0
def tw6801037725723025895:=0
def tw6810359538915900856:=0
def tw6864022637559568866:=0
def tw6979827156191327951:=0
def tw6993843373186232245:=0
def tw7001569228626284215:=0
def tw7031744016608613198:=0
def tw7038542370211212424:=0
def tw7062360669126153950:=0
def tw717984171647121467:=0
def tw7180850329963683870:=0
def tw7183034540850817041:=0
def tw7225582086584151155:=0
def tw7333845880475497283:=0
def tw7337668890701762901:=0
def tw746941284204054124:=0
def tw7491237491104411345:=0
def tw7495660786747059242:=0
def tw7509814174594525247:=0
def tw7522055183711775640:=0
def tw7555611186416386274:=0
def tw7575111660989045706:=0
def tw7596666313664497837:=0
def tw7607133935474273900:=0
def tw7624485175608299072:=0
def tw7640692537626742631:=0
def tw7687487650564720916:=0
def tw7698576853811156030:=0
def tw7722595911302019147:=0
def tw7742610303488335017:=0
def tw775616810330079666:=0
def tw7806840781296082443:=0
def tw7810010803117127201:=0
def tw7825093624512023186:=0
def tw7918987798488440119:=0
def tw797056898797054602:=0
def tw7975681245258081824:=0
def tw8000504639254676119:=0
def tw8034357862224177659:=0
def tw8099762585790392875:=0
def tw812124652187908312:=0
def tw8192991823209650523:=0
def tw8219119791777389483:=0
def tw8282185298034204553:=0
def tw8284539658505574506:=0
def tw8353579520999764865:=0
def tw8358431143384972187:=0
def tw8371134214556746914:=0
def tw8402363646922234268:=0
def tw8412581347331551034:=0
def tw8540977117504751891:=0
def tw8549756622847609273:=0
def tw859560669607582525:=0
def tw8757622227260581751:=0
def tw8783267454035774527:=0
def tw8790768204675191795:=0
def tw8838793518953192203:=0
def tw884122015916779904:=0
def tw8848398044496193191:=0
def tw8869011533039643631:=0
def tw8887126559567974130:=0
def tw8895521959094565936:=0
def tw9062975783689867242:=0
def tw9084067691204032758:=0
def tw9084311750080438245:=0
def tw910516065602784891:=0
def tw9197700398170291989:=0
def tw9220683649502265624:=0
def tw9262986796935408437:=0
def tw9274359020178314598:=0
def tw9309932142278400802:=0
def tw9394016137722508934:=0
def tw9396811993598767497:=0
def tw9397319971016512704:=0
def tw9407071362209396216:=0
def tw9474479149919320465:=0
def tw9506111413545643465:=0
def tw9518443164068315486:=0
def tw9519650347659982583:=0
def tw9543188934010399705:=0
def tw9656908204599481179:=0
def tw9667361882592196842:=0
def tw9678947376217591683:=0
def tw9682749590141545216:=0
def tw9689872812622665110:=0
def tw9709074646506509150:=0
def tw9723871473499182231:=0
def tw9779027925417615163:=0
def tw9790508744174206800:=0
def tw9833232622799331313:=0
def tw9888039788513147006:=0
def tw9911213273999241780:=0
def tw9955393185235302343:=0
def tw9977093218420833952:=0
def tw9987526664079841073:=0
def tw9992497520263908096:=0
end PySem.W.Fast
open PySem PySem.W PyProof.Rows
set_option maxRecDepth 100000 in
set_option maxHeartbeats 0 in
theorem PySem.Challenge.cw_ferry_k35_ticks_by_turns_holds : PySem.Challenge.rw_ferry_k35_ticks_by_turns.Holds := by
 w_on;o_law;k_head;(case hw=>w_witness2)
 k_fill
 refine Fy.walk (l:=PySem.Challenge.rw_ferry_k35_ticks_by_turns) (G:=Lk35.G) (xs:=Lk35.xs) (xl:=Lk35.xl) (Mt:=Lk35.Mt) (At:=Lk35.At) (ds:=Lk35.ds) (fns:=Lk35.fns) (B:=1000) (i:=89) (d:=Lk35.vU) (x:="_law_script") rfl rfl Lk35.qEW Lk35.qEX Lk35.qEU Lk35.qEV (fun w h Y=>PySem.W.kIn_of Y) ?T (fun ns hl=>Lk35.qJ0 1000 30 ns hl) ?B
 case B=>
  intro fd f K F s u;obtain ⟨oc,od,kV,doc,pm,an,cdv,ct,osl,rfl,lk,hcd⟩:=F.ex;exact .of_eq rfl
 case T=>
  intro w mg h KX G;refine' Fy.with_cls (x:="Giver") KX ?a ?b ?c ?d ?e fun qa0 qc0=>?_;(case a=>k_is);(case b=>k_is);(case c=>k_is);(case d=>k_is);(case e=>k_is);refine' Fy.with_cls (x:="Meeting") KX ?a ?b ?c ?d ?e fun qa1 qc1=>?_;(case a=>k_is);(case b=>k_is);(case c=>k_is);(case d=>k_is);(case e=>k_is);refine' Fy.with_cls (x:="Slate") KX ?a ?b ?c ?d ?e fun qa2 qc2=>?_;(case a=>k_is);(case b=>k_is);(case c=>k_is);(case d=>k_is);(case e=>k_is);refine' Fy.with_cls (x:="Taker") KX ?a ?b ?c ?d ?e fun qa3 qc3=>?_;(case a=>k_is);(case b=>k_is);(case c=>k_is);(case d=>k_is);(case e=>k_is);refine' Fy.with_cls (x:="Host") KX ?a ?b ?c ?d ?e fun qa4 qc4=>?_;(case a=>k_is);(case b=>k_is);(case c=>k_is);(case d=>k_is);(case e=>k_is);refine' Fy.with_exc (x:="FerryError") KX ?a ?b fun xa0 xi0=>?_;(case a=>k_is);(case b=>k_exc);refine' Fy.with_exc (x:="Spoilt") KX ?a ?b fun xa1 xi1=>?_;(case a=>k_is);(case b=>k_exc);refine' Fy.with_exc (x:="NoPiece") KX ?a ?b fun xa2 xi2=>?_;(case a=>k_is);(case b=>k_exc);refine' Fy.with_exc (x:="NoSpan") KX ?a ?b fun xa3 xi3=>?_;(case a=>k_is);(case b=>k_exc);refine' Fy.with_exc (x:="NoStream") KX ?a ?b fun xa4 xi4=>?_;(case a=>k_is);(case b=>k_exc);refine' Fy.with_exc (x:="NotMet") KX ?a ?b fun xa5 xi5=>?_;(case a=>k_is);(case b=>k_exc);refine' Fy.with_exc (x:="Broken") KX ?a ?b fun xa6 xi6=>?_;(case a=>k_is);(case b=>k_exc);refine' Fy.with_exc (x:="Ended") KX ?a ?b fun xa7 xi7=>?_;(case a=>k_is);(case b=>k_exc);refine' Fy.with_exc (x:="TooMuch") KX ?a ?b fun xa8 xi8=>?_;(case a=>k_is);(case b=>k_exc)
  refine' Fy.top_of Lk35.oks rfl
   ⟨Fy.gl_fn KX G (d:=Lk35.vU) rfl ?_ (Fy.df_mk' Lk35.qPI (nm:="law") (ql:="law") rfl rfl ?_ ?_ ?_),
   Fy.gl_int KX G ?_,
   Fy.gl_exc KX G rfl Lk35.eF xa6 xi6,
   Fy.gl_int KX G ?_,
   Fy.gl_int KX G ?_,
   Fy.gl_int KX G ?_,
   Fy.gl_int KX G ?_,
   Fy.gl_int KX G ?_,
   Fy.gl_exc KX G rfl Lk35.eE xa7 xi7,
   Fy.gl_str KX G (z:="0123456789") rfl ?_,
   Fy.gl_int KX G ?_,
   Fy.gl_int KX G ?_,
   Fy.gl_int KX G ?_,
   Fy.gl_cls KX G (d:=Lk35.bC) rfl Lk35.zN qa0 qc0 ⟨?_,?_,?_,?_⟩ (Fy.df_mk' Lk35.qDR (nm:="__init__") (ql:="Giver.__init__") rfl rfl ?_ ?_ ?_),
   Fy.gl_cls KX G (d:=Lk35.bB) rfl Lk35.qX qa4 qc4 ⟨?_,?_,?_,?_⟩ (Fy.df_mk' Lk35.qDQ (nm:="__init__") (ql:="Host.__init__") rfl rfl ?_ ?_ ?_),
   Fy.gl_int KX G ?_,
   Fy.gl_int KX G ?_,
   Fy.gl_int KX G ?_,
   Fy.gl_int KX G ?_,
   Fy.gl_int KX G ?_,
   Fy.gl_int KX G ?_,
   Fy.gl_int KX G ?_,
   Fy.gl_int KX G ?_,
   Fy.gl_int KX G ?_,
   Fy.gl_int KX G ?_,
   Fy.gl_int KX G ?_,
   Fy.gl_int KX G ?_,
   Fy.gl_int KX G ?_,
   Fy.gl_int KX G ?_,
   Fy.gl_cls KX G (d:=Lk35.bA) rfl Lk35.vO qa1 qc1 ⟨?_,?_,?_,?_⟩ (Fy.df_mk' Lk35.qDP (nm:="__init__") (ql:="Meeting.__init__") rfl rfl ?_ ?_ ?_),
   Fy.gl_int KX G ?_,
   Fy.gl_exc KX G rfl Lk35.eD xa2 xi2,
   Fy.gl_exc KX G rfl Lk35.eC xa3 xi3,
   Fy.gl_exc KX G rfl Lk35.eB xa4 xi4,
   Fy.gl_exc KX G rfl Lk35.eA xa5 xi5,
   Fy.gl_cls KX G (d:=Lk35.aZ) rfl Lk35.vN qa2 qc2 ⟨?_,?_,?_,?_⟩ (Fy.df_mk' Lk35.qDO (nm:="__init__") (ql:="Slate.__init__") rfl rfl ?_ ?_ ?_),
   Fy.gl_exc KX G rfl Lk35.gZ xa1 xi1,
   Fy.gl_cls KX G (d:=Lk35.aY) rfl Lk35.jE qa3 qc3 ⟨?_,?_,?_,?_⟩ (Fy.df_mk' Lk35.qDN (nm:="__init__") (ql:="Taker.__init__") rfl rfl ?_ ?_ ?_),
   Fy.gl_exc KX G rfl Lk35.dZ xa8 xi8,
   Fy.gl_fn KX G (d:=Lk35.iU) rfl ?_ (Fy.df_mk' Lk35.qPH (nm:="_law_cell_at") (ql:="_law_cell_at") rfl rfl ?_ ?_ ?_),
   Fy.gl_fn KX G (d:=Lk35.iT) rfl ?_ (Fy.df_mk' Lk35.qPG (nm:="_law_due") (ql:="_law_due") rfl rfl ?_ ?_ ?_),
   Fy.gl_fn KX G (d:=Lk35.iR) rfl ?_ (Fy.df_mk' Lk35.qPF (nm:="_law_part") (ql:="_law_part") rfl rfl ?_ ?_ ?_),
   Fy.gl_fn KX G (d:=Lk35.iQ) rfl ?_ (Fy.df_mk' Lk35.qPE (nm:="_law_signs_by") (ql:="_law_signs_by") rfl rfl ?_ ?_ ?_),
   Fy.gl_fn KX G (d:=Lk35.iP) rfl ?_ (Fy.df_mk' Lk35.qPD (nm:="_law_streams") (ql:="_law_streams") rfl rfl ?_ ?_ ?_),
   Fy.gl_fn KX G (d:=Lk35.iE) rfl ?_ (Fy.df_mk' Lk35.qO3 (nm:="_wall") (ql:="_wall") rfl rfl ?_ ?_ ?_),
   Fy.gl_fn KX G (d:=Lk35.lV) rfl ?_ (Fy.df_mk' Lk35.qPh (nm:="added") (ql:="added") rfl rfl ?_ ?_ ?_),
   Fy.gl_blt KX G ?_,
   Fy.gl_fn KX G (d:=Lk35.lU) rfl ?_ (Fy.df_mk' Lk35.qPg (nm:="all_broken") (ql:="all_broken") rfl rfl ?_ ?_ ?_),
   Fy.gl_fn KX G (d:=Lk35.lT) rfl ?_ (Fy.df_mk' Lk35.qPf (nm:="are_spans_above") (ql:="are_spans_above") rfl rfl ?_ ?_ ?_),
   Fy.gl_fn KX G (d:=Lk35.lR) rfl ?_ (Fy.df_mk' Lk35.qPe (nm:="body_of") (ql:="body_of") rfl rfl ?_ ?_ ?_),
   Fy.gl_blt KX G ?_,
   Fy.gl_fn KX G (d:=Lk35.lP) rfl ?_ (Fy.df_mk' Lk35.qPd (nm:="check_begin") (ql:="check_begin") rfl rfl ?_ ?_ ?_),
   Fy.gl_fn KX G (d:=Lk35.lO) rfl ?_ (Fy.df_mk' Lk35.qPc (nm:="check_of") (ql:="check_of") rfl rfl ?_ ?_ ?_),
   Fy.gl_fn KX G (d:=Lk35.lN) rfl ?_ (Fy.df_mk' Lk35.qPb (nm:="check_stretch") (ql:="check_stretch") rfl rfl ?_ ?_ ?_),
   Fy.gl_fn KX G (d:=Lk35.lM) rfl ?_ (Fy.df_mk' Lk35.qPa (nm:="count_below") (ql:="count_below") rfl rfl ?_ ?_ ?_),
   Fy.gl_fn KX G (d:=Lk35.lL) rfl ?_ (Fy.df_mk' Lk35.qPZ (nm:="cut") (ql:="cut") rfl rfl ?_ ?_ ?_),
   Fy.gl_fn KX G (d:=Lk35.lK) rfl ?_ (Fy.df_mk' Lk35.qPY (nm:="figures") (ql:="figures") rfl rfl ?_ ?_ ?_),
   Fy.gl_fn KX G (d:=Lk35.lJ) rfl ?_ (Fy.df_mk' Lk35.qPX (nm:="found") (ql:="found") rfl rfl ?_ ?_ ?_),
   Fy.gl_fn KX G (d:=Lk35.lI) rfl ?_ (Fy.df_mk' Lk35.qPW (nm:="holes") (ql:="holes") rfl rfl ?_ ?_ ?_),
   Fy.gl_fn KX G (d:=Lk35.lH) rfl ?_ (Fy.df_mk' Lk35.qPV (nm:="in_turn") (ql:="in_turn") rfl rfl ?_ ?_ ?_),
   Fy.gl_blt KX G ?_,
   Fy.gl_fn KX G (d:=Lk35.lG) rfl ?_ (Fy.df_mk' Lk35.qPU (nm:="is_answer") (ql:="is_answer") rfl rfl ?_ ?_ ?_),
   Fy.gl_fn KX G (d:=Lk35.lF) rfl ?_ (Fy.df_mk' Lk35.qPT (nm:="is_data") (ql:="is_data") rfl rfl ?_ ?_ ?_),
   Fy.gl_fn KX G (d:=Lk35.lE) rfl ?_ (Fy.df_mk' Lk35.qPS (nm:="is_end") (ql:="is_end") rfl rfl ?_ ?_ ?_),
   Fy.gl_fn KX G (d:=Lk35.lD) rfl ?_ (Fy.df_mk' Lk35.qPR (nm:="is_figures") (ql:="is_figures") rfl rfl ?_ ?_ ?_),
   Fy.gl_fn KX G (d:=Lk35.lC) rfl ?_ (Fy.df_mk' Lk35.qPQ (nm:="is_hello") (ql:="is_hello") rfl rfl ?_ ?_ ?_),
   Fy.gl_fn KX G (d:=Lk35.lB) rfl ?_ (Fy.df_mk' Lk35.qPP (nm:="is_life") (ql:="is_life") rfl rfl ?_ ?_ ?_),
   Fy.gl_fn KX G (d:=Lk35.lA) rfl ?_ (Fy.df_mk' Lk35.qPO (nm:="is_number") (ql:="is_number") rfl rfl ?_ ?_ ?_),
   Fy.gl_fn KX G (d:=Lk35.iZ) rfl ?_ (Fy.df_mk' Lk35.qPN (nm:="is_piece") (ql:="is_piece") rfl rfl ?_ ?_ ?_),
   Fy.gl_fn KX G (d:=Lk35.iY) rfl ?_ (Fy.df_mk' Lk35.qPM (nm:="is_place") (ql:="is_place") rfl rfl ?_ ?_ ?_),
   Fy.gl_fn KX G (d:=Lk35.iX) rfl ?_ (Fy.df_mk' Lk35.qPL (nm:="is_sign") (ql:="is_sign") rfl rfl ?_ ?_ ?_),
   Fy.gl_fn KX G (d:=Lk35.iW) rfl ?_ (Fy.df_mk' Lk35.qPK (nm:="is_signs") (ql:="is_signs") rfl rfl ?_ ?_ ?_),
   Fy.gl_fn KX G (d:=Lk35.iV) rfl ?_ (Fy.df_mk' Lk35.qPJ (nm:="is_span_above") (ql:="is_span_above") rfl rfl ?_ ?_ ?_),
   Fy.gl_blt KX G ?_,
   Fy.gl_blt KX G ?_,
   Fy.gl_blt KX G ?_,
   Fy.gl_blt KX G ?_,
   Fy.gl_blt KX G ?_,
   Fy.gl_fn KX G (d:=Lk35.iO) rfl ?_ (Fy.df_mk' Lk35.qPC (nm:="names_stream") (ql:="names_stream") rfl rfl ?_ ?_ ?_),
   Fy.gl_fn KX G (d:=Lk35.iM) rfl ?_ (Fy.df_mk' Lk35.qPB (nm:="number_of") (ql:="number_of") rfl rfl ?_ ?_ ?_),
   Fy.gl_fn KX G (d:=Lk35.iL) rfl ?_ (Fy.df_mk' Lk35.qPA (nm:="number_words") (ql:="number_words") rfl rfl ?_ ?_ ?_),
   Fy.gl_fn KX G (d:=Lk35.iK) rfl ?_ (Fy.df_mk' Lk35.qO9 (nm:="numbers_of") (ql:="numbers_of") rfl rfl ?_ ?_ ?_),
   Fy.gl_blt KX G ?_,
   Fy.gl_fn KX G (d:=Lk35.iJ) rfl ?_ (Fy.df_mk' Lk35.qO8 (nm:="parts_of") (ql:="parts_of") rfl rfl ?_ ?_ ?_),
   Fy.gl_blt KX G ?_,
   Fy.gl_fn KX G (d:=Lk35.iI) rfl ?_ (Fy.df_mk' Lk35.qO7 (nm:="read") (ql:="read") rfl rfl ?_ ?_ ?_),
   Fy.gl_fn KX G (d:=Lk35.iH) rfl ?_ (Fy.df_mk' Lk35.qO6 (nm:="signs_word") (ql:="signs_word") rfl rfl ?_ ?_ ?_),
   Fy.gl_blt KX G ?_,
   Fy.gl_fn KX G (d:=Lk35.iG) rfl ?_ (Fy.df_mk' Lk35.qO5 (nm:="spans_of") (ql:="spans_of") rfl rfl ?_ ?_ ?_),
   Fy.gl_fn KX G (d:=Lk35.iF) rfl ?_ (Fy.df_mk' Lk35.qO4 (nm:="spans_word") (ql:="spans_word") rfl rfl ?_ ?_ ?_),
   Fy.gl_blt KX G ?_,
   Fy.gl_blt KX G ?_,
   Fy.gl_fn KX G (d:=Lk35.iC) rfl ?_ (Fy.df_mk' Lk35.qO2 (nm:="whole_ones") (ql:="whole_ones") rfl rfl ?_ ?_ ?_),
   Fy.gl_fn KX G (d:=Lk35.iB) rfl ?_ (Fy.df_mk' Lk35.qO1 (nm:="written") (ql:="written") rfl rfl ?_ ?_ ?_),
   trivial⟩
   ⟨(Fy.mt_cons Lk35.zN qa0 qc0 (d:=Lk35.bC) ⟨?_,?_,?_⟩ rfl (Fy.df_mk' Lk35.qDR (nm:="__init__") (ql:="Giver.__init__") rfl rfl ?_ ?_ ?_) (Fy.mt_cons Lk35.vO qa1 qc1 (d:=Lk35.bA) ⟨?_,?_,?_⟩ rfl (Fy.df_mk' Lk35.qDP (nm:="__init__") (ql:="Meeting.__init__") rfl rfl ?_ ?_ ?_) (Fy.mt_cons Lk35.vN qa2 qc2 (d:=Lk35.aZ) ⟨?_,?_,?_⟩ rfl (Fy.df_mk' Lk35.qDO (nm:="__init__") (ql:="Slate.__init__") rfl rfl ?_ ?_ ?_) (Fy.mt_cons Lk35.jE qa3 qc3 (d:=Lk35.aY) ⟨?_,?_,?_⟩ rfl (Fy.df_mk' Lk35.qDN (nm:="__init__") (ql:="Taker.__init__") rfl rfl ?_ ?_ ?_) (Fy.mt_cons Lk35.qX qa4 qc4 (d:=Lk35.bB) ⟨?_,?_,?_⟩ rfl (Fy.df_mk' Lk35.qDQ (nm:="__init__") (ql:="Host.__init__") rfl rfl ?_ ?_ ?_) (Fy.mt_nil Lk35.qIh (by decide))))))),
   (Fy.mt_cons Lk35.zN qa0 qc0 (d:=Lk35.nH) ⟨?_,?_,?_⟩ rfl (Fy.df_mk' Lk35.qQF (nm:="write") (ql:="Giver.write") rfl rfl ?_ ?_ ?_) (Fy.mt_cons Lk35.qX qa4 qc4 (d:=Lk35.mL) ⟨?_,?_,?_⟩ rfl (Fy.df_mk' Lk35.qPu (nm:="write") (ql:="Host.write") rfl rfl ?_ ?_ ?_) (Fy.mt_nil Lk35.qHi (by decide)))),
   (Fy.mt_cons Lk35.zN qa0 qc0 (d:=Lk35.nN) ⟨?_,?_,?_⟩ rfl (Fy.df_mk' Lk35.qQL (nm:="finish") (ql:="Giver.finish") rfl rfl ?_ ?_ ?_) (Fy.mt_cons Lk35.qX qa4 qc4 (d:=Lk35.nB) ⟨?_,?_,?_⟩ rfl (Fy.df_mk' Lk35.qP9 (nm:="finish") (ql:="Host.finish") rfl rfl ?_ ?_ ?_) (Fy.mt_nil Lk35.qIT (by decide)))),
   (Fy.mt_cons Lk35.zN qa0 qc0 (d:=Lk35.nO) ⟨?_,?_,?_⟩ rfl (Fy.df_mk' Lk35.qQM (nm:="answered") (ql:="Giver.answered") rfl rfl ?_ ?_ ?_) (Fy.mt_nil Lk35.qId (by decide))),
   (Fy.mt_cons Lk35.zN qa0 qc0 (d:=Lk35.nM) ⟨?_,?_,?_⟩ rfl (Fy.df_mk' Lk35.qQK (nm:="known_with") (ql:="Giver.known_with") rfl rfl ?_ ?_ ?_) (Fy.mt_nil Lk35.qII (by decide))),
   (Fy.mt_cons Lk35.zN qa0 qc0 (d:=Lk35.nK) ⟨?_,?_,?_⟩ rfl (Fy.df_mk' Lk35.qQI (nm:="next_parts") (ql:="Giver.next_parts") rfl rfl ?_ ?_ ?_) (Fy.mt_nil Lk35.qIB (by decide))),
   (Fy.mt_cons Lk35.zN qa0 qc0 (d:=Lk35.nL) ⟨?_,?_,?_⟩ rfl (Fy.df_mk' Lk35.qQJ (nm:="next_part") (ql:="Giver.next_part") rfl rfl ?_ ?_ ?_) (Fy.mt_nil Lk35.qIC (by decide))),
   (Fy.mt_cons Lk35.zN qa0 qc0 (d:=Lk35.nP) ⟨?_,?_,?_⟩ rfl (Fy.df_mk' Lk35.qQN (nm:="again") (ql:="Giver.again") rfl rfl ?_ ?_ ?_) (Fy.mt_nil Lk35.qIg (by decide))),
   (Fy.mt_cons Lk35.zN qa0 qc0 (d:=Lk35.nJ) ⟨?_,?_,?_⟩ rfl (Fy.df_mk' Lk35.qQH (nm:="parts_again") (ql:="Giver.parts_again") rfl rfl ?_ ?_ ?_) (Fy.mt_nil Lk35.qH7 (by decide))),
   (Fy.mt_cons Lk35.zN qa0 qc0 (d:=Lk35.nI) ⟨?_,?_,?_⟩ rfl (Fy.df_mk' Lk35.qQG (nm:="parts_of_holes") (ql:="Giver.parts_of_holes") rfl rfl ?_ ?_ ?_) (Fy.mt_nil Lk35.qH6 (by decide))),
   (Fy.mt_cons Lk35.vO qa1 qc1 (d:=Lk35.mK) ⟨?_,?_,?_⟩ rfl (Fy.df_mk' Lk35.qPt (nm:="heard") (ql:="Meeting.heard") rfl rfl ?_ ?_ ?_) (Fy.mt_nil Lk35.qIP (by decide))),
   (Fy.mt_cons Lk35.vO qa1 qc1 (d:=Lk35.mJ) ⟨?_,?_,?_⟩ rfl (Fy.df_mk' Lk35.qPs (nm:="hello") (ql:="Meeting.hello") rfl rfl ?_ ?_ ?_) (Fy.mt_nil Lk35.qIO (by decide))),
   (Fy.mt_cons Lk35.vO qa1 qc1 (d:=Lk35.mI) ⟨?_,?_,?_⟩ rfl (Fy.df_mk' Lk35.qPr (nm:="reply") (ql:="Meeting.reply") rfl rfl ?_ ?_ ?_) (Fy.mt_nil Lk35.qH0 (by decide))),
   (Fy.mt_cons Lk35.vN qa2 qc2 (d:=Lk35.mG) ⟨?_,?_,?_⟩ rfl (Fy.df_mk' Lk35.qPp (nm:="put") (ql:="Slate.put") rfl rfl ?_ ?_ ?_) (Fy.mt_cons Lk35.jE qa3 qc3 (d:=Lk35.mC) ⟨?_,?_,?_⟩ rfl (Fy.df_mk' Lk35.qPl (nm:="put") (ql:="Taker.put") rfl rfl ?_ ?_ ?_) (Fy.mt_nil Lk35.qH3 (by decide)))),
   (Fy.mt_cons Lk35.vN qa2 qc2 (d:=Lk35.mH) ⟨?_,?_,?_⟩ rfl (Fy.df_mk' Lk35.qPq (nm:="draw_in") (ql:="Slate.draw_in") rfl rfl ?_ ?_ ?_) (Fy.mt_nil Lk35.qIW (by decide))),
   (Fy.mt_cons Lk35.vN qa2 qc2 (d:=Lk35.mF) ⟨?_,?_,?_⟩ rfl (Fy.df_mk' Lk35.qPo (nm:="sign") (ql:="Slate.sign") rfl rfl ?_ ?_ ?_) (Fy.mt_nil Lk35.qHv (by decide))),
   (Fy.mt_cons Lk35.jE qa3 qc3 (d:=Lk35.mD) ⟨?_,?_,?_⟩ rfl (Fy.df_mk' Lk35.qPm (nm:="ends") (ql:="Taker.ends") rfl rfl ?_ ?_ ?_) (Fy.mt_nil Lk35.qIV (by decide))),
   (Fy.mt_cons Lk35.jE qa3 qc3 (d:=Lk35.mB) ⟨?_,?_,?_⟩ rfl (Fy.df_mk' Lk35.qPk (nm:="reach") (ql:="Taker.reach") rfl rfl ?_ ?_ ?_) (Fy.mt_nil Lk35.qH2 (by decide))),
   (Fy.mt_cons Lk35.jE qa3 qc3 (d:=Lk35.lY) ⟨?_,?_,?_⟩ rfl (Fy.df_mk' Lk35.qPi (nm:="take") (ql:="Taker.take") rfl rfl ?_ ?_ ?_) (Fy.mt_cons Lk35.qX qa4 qc4 (d:=Lk35.mR) ⟨?_,?_,?_⟩ rfl (Fy.df_mk' Lk35.qPz (nm:="take") (ql:="Host.take") rfl rfl ?_ ?_ ?_) (Fy.mt_nil Lk35.qHq (by decide)))),
   (Fy.mt_cons Lk35.jE qa3 qc3 (d:=Lk35.lZ) ⟨?_,?_,?_⟩ rfl (Fy.df_mk' Lk35.qPj (nm:="see_done") (ql:="Taker.see_done") rfl rfl ?_ ?_ ?_) (Fy.mt_nil Lk35.qHy (by decide))),
   (Fy.mt_cons Lk35.jE qa3 qc3 (d:=Lk35.mE) ⟨?_,?_,?_⟩ rfl (Fy.df_mk' Lk35.qPn (nm:="answer") (ql:="Taker.answer") rfl rfl ?_ ?_ ?_) (Fy.mt_nil Lk35.qIf (by decide))),
   (Fy.mt_cons Lk35.qX qa4 qc4 (d:=Lk35.nF) ⟨?_,?_,?_⟩ rfl (Fy.df_mk' Lk35.qQD (nm:="begin_life") (ql:="Host.begin_life") rfl rfl ?_ ?_ ?_) (Fy.mt_nil Lk35.qIc (by decide))),
   (Fy.mt_cons Lk35.qX qa4 qc4 (d:=Lk35.mT) ⟨?_,?_,?_⟩ rfl (Fy.df_mk' Lk35.qP1 (nm:="start") (ql:="Host.start") rfl rfl ?_ ?_ ?_) (Fy.mt_nil Lk35.qHs (by decide))),
   (Fy.mt_cons Lk35.qX qa4 qc4 (d:=Lk35.nA) ⟨?_,?_,?_⟩ rfl (Fy.df_mk' Lk35.qP8 (nm:="giver") (ql:="Host.giver") rfl rfl ?_ ?_ ?_) (Fy.mt_nil Lk35.qIS (by decide))),
   (Fy.mt_cons Lk35.qX qa4 qc4 (d:=Lk35.mO) ⟨?_,?_,?_⟩ rfl (Fy.df_mk' Lk35.qPx (nm:="taker") (ql:="Host.taker") rfl rfl ?_ ?_ ?_) (Fy.mt_nil Lk35.qHo (by decide))),
   (Fy.mt_cons Lk35.qX qa4 qc4 (d:=Lk35.mS) ⟨?_,?_,?_⟩ rfl (Fy.df_mk' Lk35.qP0 (nm:="streams") (ql:="Host.streams") rfl rfl ?_ ?_ ?_) (Fy.mt_nil Lk35.qHr (by decide))),
   (Fy.mt_cons Lk35.qX qa4 qc4 (d:=Lk35.mY) ⟨?_,?_,?_⟩ rfl (Fy.df_mk' Lk35.qP6 (nm:="others") (ql:="Host.others") rfl rfl ?_ ?_ ?_) (Fy.mt_nil Lk35.qIA (by decide))),
   (Fy.mt_cons Lk35.qX qa4 qc4 (d:=Lk35.nD) ⟨?_,?_,?_⟩ rfl (Fy.df_mk' Lk35.qQB (nm:="broken") (ql:="Host.broken") rfl rfl ?_ ?_ ?_) (Fy.mt_nil Lk35.qIZ (by decide))),
   (Fy.mt_cons Lk35.qX qa4 qc4 (d:=Lk35.nC) ⟨?_,?_,?_⟩ rfl (Fy.df_mk' Lk35.qQA (nm:="fall") (ql:="Host.fall") rfl rfl ?_ ?_ ?_) (Fy.mt_nil Lk35.qIU (by decide))),
   (Fy.mt_cons Lk35.qX qa4 qc4 (d:=Lk35.mM) ⟨?_,?_,?_⟩ rfl (Fy.df_mk' Lk35.qPv (nm:="tick") (ql:="Host.tick") rfl rfl ?_ ?_ ?_) (Fy.mt_nil Lk35.qHk (by decide))),
   (Fy.mt_cons Lk35.qX qa4 qc4 (d:=Lk35.mU) ⟨?_,?_,?_⟩ rfl (Fy.df_mk' Lk35.qP2 (nm:="pieces_by_turns") (ql:="Host.pieces_by_turns") rfl rfl ?_ ?_ ?_) (Fy.mt_nil Lk35.qH4 (by decide))),
   (Fy.mt_cons Lk35.qX qa4 qc4 (d:=Lk35.mW) ⟨?_,?_,?_⟩ rfl (Fy.df_mk' Lk35.qP4 (nm:="part_to_send") (ql:="Host.part_to_send") rfl rfl ?_ ?_ ?_) (Fy.mt_nil Lk35.qH8 (by decide))),
   (Fy.mt_cons Lk35.qX qa4 qc4 (d:=Lk35.mV) ⟨?_,?_,?_⟩ rfl (Fy.df_mk' Lk35.qP3 (nm:="piece_of") (ql:="Host.piece_of") rfl rfl ?_ ?_ ?_) (Fy.mt_nil Lk35.qH5 (by decide))),
   (Fy.mt_cons Lk35.qX qa4 qc4 (d:=Lk35.mZ) ⟨?_,?_,?_⟩ rfl (Fy.df_mk' Lk35.qP7 (nm:="hear") (ql:="Host.hear") rfl rfl ?_ ?_ ?_) (Fy.mt_nil Lk35.qIQ (by decide))),
   (Fy.mt_cons Lk35.qX qa4 qc4 (d:=Lk35.nE) ⟨?_,?_,?_⟩ rfl (Fy.df_mk' Lk35.qQC (nm:="break_streams") (ql:="Host.break_streams") rfl rfl ?_ ?_ ?_) (Fy.mt_nil Lk35.qIa (by decide))),
   (Fy.mt_cons Lk35.qX qa4 qc4 (d:=Lk35.mP) ⟨?_,?_,?_⟩ rfl (Fy.df_mk' Lk35.qPy (nm:="taken_in") (ql:="Host.taken_in") rfl rfl ?_ ?_ ?_) (Fy.mt_nil Lk35.qHp (by decide))),
   (Fy.mt_cons Lk35.qX qa4 qc4 (d:=Lk35.mX) ⟨?_,?_,?_⟩ rfl (Fy.df_mk' Lk35.qP5 (nm:="part_came") (ql:="Host.part_came") rfl rfl ?_ ?_ ?_) (Fy.mt_nil Lk35.qH9 (by decide))),
   (Fy.mt_cons Lk35.qX qa4 qc4 (d:=Lk35.mN) ⟨?_,?_,?_⟩ rfl (Fy.df_mk' Lk35.qPw (nm:="taker_made") (ql:="Host.taker_made") rfl rfl ?_ ?_ ?_) (Fy.mt_nil Lk35.qHn (by decide))),
   (Fy.mt_cons Lk35.qX qa4 qc4 (d:=Lk35.nG) ⟨?_,?_,?_⟩ rfl (Fy.df_mk' Lk35.qQE (nm:="answer_came") (ql:="Host.answer_came") rfl rfl ?_ ?_ ?_) (Fy.mt_nil Lk35.qIe (by decide))),
   trivial⟩
   ⟨(Fy.at_cons Lk35.zN qa0 ?_ (Fy.at_cons Lk35.qX qa4 ?_ (Fy.at_nil Lk35.qID (by decide)))),
   (Fy.at_cons Lk35.zN qa0 ?_ (Fy.at_cons Lk35.vN qa2 ?_ (Fy.at_cons Lk35.jE qa3 ?_ (Fy.at_nil Lk35.qHl (by decide))))),
   (Fy.at_cons Lk35.zN qa0 ?_ (Fy.at_nil Lk35.qHx (by decide))),
   (Fy.at_cons Lk35.zN qa0 ?_ (Fy.at_nil Lk35.qIX (by decide))),
   (Fy.at_cons Lk35.zN qa0 ?_ (Fy.at_cons Lk35.jE qa3 ?_ (Fy.at_nil Lk35.qIG (by decide)))),
   (Fy.at_cons Lk35.zN qa0 ?_ (Fy.at_cons Lk35.vN qa2 ?_ (Fy.at_nil Lk35.qHt (by decide)))),
   (Fy.at_cons Lk35.zN qa0 ?_ (Fy.at_nil Lk35.qIL (by decide))),
   (Fy.at_cons Lk35.zN qa0 ?_ (Fy.at_nil Lk35.qIM (by decide))),
   (Fy.at_cons Lk35.zN qa0 ?_ (Fy.at_nil Lk35.qIK (by decide))),
   (Fy.at_cons Lk35.zN qa0 ?_ (Fy.at_cons Lk35.jE qa3 ?_ (Fy.at_nil Lk35.qIN (by decide)))),
   (Fy.at_cons Lk35.vO qa1 ?_ (Fy.at_nil Lk35.qIE (by decide))),
   (Fy.at_cons Lk35.vO qa1 ?_ (Fy.at_nil Lk35.qHh (by decide))),
   (Fy.at_cons Lk35.vO qa1 ?_ (Fy.at_nil Lk35.qIJ (by decide))),
   (Fy.at_cons Lk35.vN qa2 ?_ (Fy.at_nil Lk35.qIb (by decide))),
   (Fy.at_cons Lk35.jE qa3 ?_ (Fy.at_cons Lk35.qX qa4 ?_ (Fy.at_nil Lk35.qHz (by decide)))),
   (Fy.at_cons Lk35.jE qa3 ?_ (Fy.at_nil Lk35.qHu (by decide))),
   (Fy.at_cons Lk35.jE qa3 ?_ (Fy.at_nil Lk35.qHj (by decide))),
   (Fy.at_cons Lk35.jE qa3 ?_ (Fy.at_nil Lk35.qH1 (by decide))),
   (Fy.at_cons Lk35.qX qa4 ?_ (Fy.at_nil Lk35.qIY (by decide))),
   (Fy.at_cons Lk35.qX qa4 ?_ (Fy.at_nil Lk35.qIH (by decide))),
   (Fy.at_cons Lk35.qX qa4 ?_ (Fy.at_nil Lk35.qIF (by decide))),
   (Fy.at_cons Lk35.qX qa4 ?_ (Fy.at_nil Lk35.qIR (by decide))),
   (Fy.at_cons Lk35.qX qa4 ?_ (Fy.at_nil Lk35.qHm (by decide))),
   (Fy.at_cons Lk35.qX qa4 ?_ (Fy.at_nil Lk35.qHw (by decide))),
   trivial⟩
   ⟨Fy.xm_mk Lk35.gZ xa1 ?_ ?_ ?_ ⟨Fy.xs_mk Lk35.qBH xa0 (b:=false) rfl ?_,Fy.xs_mk Lk35.gZ xa1 (b:=true) rfl ?_,Fy.xs_mk Lk35.eD xa2 (b:=false) rfl ?_,Fy.xs_mk Lk35.eC xa3 (b:=false) rfl ?_,Fy.xs_mk Lk35.eB xa4 (b:=false) rfl ?_,Fy.xs_mk Lk35.eA xa5 (b:=false) rfl ?_,Fy.xs_mk Lk35.eF xa6 (b:=false) rfl ?_,Fy.xs_mk Lk35.eE xa7 (b:=false) rfl ?_,Fy.xs_mk Lk35.dZ xa8 (b:=false) rfl ?_,trivial⟩,
   trivial⟩ (by decide) (by decide) (by decide)
   ⟨Fy.xg_mk Lk35.qBH xa0 ⟨?_,?_,?_,?_,?_,?_⟩,
   Fy.xg_mk Lk35.gZ xa1 ⟨?_,?_,?_,?_,?_,?_⟩,
   Fy.xg_mk Lk35.eD xa2 ⟨?_,?_,?_,?_,?_,?_⟩,
   Fy.xg_mk Lk35.eC xa3 ⟨?_,?_,?_,?_,?_,?_⟩,
   Fy.xg_mk Lk35.eB xa4 ⟨?_,?_,?_,?_,?_,?_⟩,
   Fy.xg_mk Lk35.eA xa5 ⟨?_,?_,?_,?_,?_,?_⟩,
   Fy.xg_mk Lk35.eF xa6 ⟨?_,?_,?_,?_,?_,?_⟩,
   Fy.xg_mk Lk35.eE xa7 ⟨?_,?_,?_,?_,?_,?_⟩,
   Fy.xg_mk Lk35.dZ xa8 ⟨?_,?_,?_,?_,?_,?_⟩,
   trivial⟩
  all_goals try k_is
end
