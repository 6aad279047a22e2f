import PyProof.Rows.All
import Wide.All
import OpenK.AllK
import Wide.FinOn
import Lean
import PyProof.EqAt
import PyProof.EqKinds
import PyProof.TupleCall
import PySem.Challenge.RW_ferry_k40_ticks_as_own_givers
set_option Elab.async false
set_option linter.all false
set_option maxHeartbeats 4000000
set_option maxRecDepth 100000
noncomputable section
local macro_rules|`(def $i:declId $s:optDeclSig $v:declVal)=>`(noncomputable def $i:declId $s:optDeclSig $v:declVal)
local macro_rules|`(abbrev $i:declId $s:optDeclSig $v:declVal)=>`(noncomputable abbrev $i:declId $s:optDeclSig $v:declVal)
local macro_rules|`(instance $s:declSig $v:declVal)=>`(noncomputable instance $s:declSig $v:declVal)
namespace L2
open PySem PySem.Spec PyProof.Rows
abbrev Key:=Sum Int Str
def yG:Key->Value->Bool
 | .inl k,v=>Value.isInt k v
 | .inr x,v=>Value.isStrOf x v
def qMx(w:World):Key->Int
 | .inl k=>hashInt k
 | .inr x=>hashStr w x
theorem vC:∀ {k:Key} {v:Value},yG k v=true->(∃ i t,k=Sum.inl i/\v=Value.int i t)\/(∃ x t,k=Sum.inr x/\v=Value.str x t)
 | .inl i,v,h=>by
  obtain ⟨t,e⟩:=Value.isInt_shape (k:=i) (v:=v) h;exact .inl ⟨i,t,rfl,e⟩
 | .inr x,v,h=>by
  obtain ⟨t,e⟩:=Value.isStrOf_shape (x:=x) (v:=v) h;exact .inr ⟨x,t,rfl,e⟩
theorem qMw(i:Int)(t:Tok):yG (.inl i) (.int i t)=true:=by simp[yG,Value.isInt]
theorem qMv(x:Str)(t:Tok):yG (.inr x) (.str x t)=true:=by simp[yG,Value.isStrOf]
theorem qMu(a b:Int):decide ((Sum.inl a:Key)=Sum.inl b)=(a == b):=by
 by_cases e:a=b
 ·subst e;simp
 ·have h:¬ (Sum.inl a:Key)=Sum.inl b:=fun q=>e (Sum.inl.inj q);rw[decide_eq_false h];exact (beq_eq_false_iff_ne.mpr e).symm
theorem qMp(a b:Str):decide ((Sum.inr a:Key)=Sum.inr b)=decide (a=b):=by
 by_cases e:a=b
 ·subst e;simp
 ·have h:¬ (Sum.inr a:Key)=Sum.inr b:=fun q=>e (Sum.inr.inj q);rw[decide_eq_false h,decide_eq_false e]
theorem qMt(a:Int)(b:Str):decide ((Sum.inl a:Key)=Sum.inr b)=false:=decide_eq_false (fun q=>nomatch q)
theorem qMq(a:Str)(b:Int):decide ((Sum.inr a:Key)=Sum.inl b)=false:=decide_eq_false (fun q=>nomatch q)
def mixKind(prog:Program)(w:World):PySem.KeyKind prog w Key where
 is:=yG
 hash:=qMx w
 inj:=fun v a b ha hb=>by
  rcases vC ha with⟨i,t,rfl,rfl⟩ | ⟨x,t,rfl,rfl⟩
  ·rcases vC hb with⟨j,u,rfl,e⟩ | ⟨y,u,rfl,e⟩
   ·injection e with e1 _;rw[e1]
   ·exact nomatch e
  ·rcases vC hb with⟨j,u,rfl,e⟩ | ⟨y,u,rfl,e⟩
   ·exact nomatch e
   ·injection e with e1 _;rw[e1]
 byValue:=fun k v h=>by
  rcases vC h with⟨i,t,rfl,rfl⟩ | ⟨x,t,rfl,rfl⟩ <;> rfl
 pyHash:=fun hv h=>by
  rcases vC hv with⟨i,t,rfl,rfl⟩ | ⟨x,t,rfl,rfl⟩
  ·exact wpAny_pyHash_int h
  ·exact wpAny_pyHash_str h
 eqBool:=fun hu hv h=>by
  rcases vC hu with⟨i,t,rfl,rfl⟩ | ⟨x,t,rfl,rfl⟩
  ·rcases vC hv with⟨j,u,rfl,rfl⟩ | ⟨y,u,rfl,rfl⟩
   ·rw[qMu] at h;exact wpAny_eqBool_int h
   ·rw[qMt] at h;exact SeqAt.EqAt.int_str i t y u _ _ _ _ h
  ·rcases vC hv with⟨j,u,rfl,rfl⟩ | ⟨y,u,rfl,rfl⟩
   ·rw[qMq] at h;exact SeqAt.EqAt.str_int x t j u _ _ _ _ h
   ·rw[qMp] at h;exact wpAny_eqBool_str h
 «strs»:=fun k x t v h=>by
  rcases vC h with⟨i,u,rfl,e⟩ | ⟨y,u,rfl,e⟩
  ·exact nomatch e
  ·injection e with e1 _;subst e1;cases v <;> rfl
theorem qLM(prog:Program)(w:World)(i:Int)(t:Tok):(mixKind prog w).is (.inl i) (.int i t)=true:=qMw i t
theorem qLL(prog:Program)(w:World)(x:Str)(t:Tok):(mixKind prog w).is (.inr x) (.str x t)=true:=qMv x t
inductive V where
 |non | bl (b:Bool) | int (i:Int) | str (x:Str) | byt (b:Array UInt8) | flt (b:UInt64) | ref (a:Addr) | ty (n:String)
 deriving DecidableEq
def RelV:V->Value->Prop
 | .non,u=>u=Value.none
 | .bl b,u=>u=Value.bool b
 | .int i,u=>∃ t,u=Value.int i t
 | .str x,u=>∃ t,u=Value.str x t
 | .byt b,u=>∃ t,u=Value.bytes b t
 | .flt b,u=>∃ t,u=Value.float b t
 | .ref a,u=>u=Value.ref a
 | .ty n,u=>u=Value.type n
abbrev Vals:List V->List Value->Prop:=Paired RelV
theorem Vals.length(r:Vals xs us):xs.length=us.length:=Paired.length r
theorem Vals.get:∀ {xs:List V} {us:List Value} {i:Nat} {x:V},Vals xs us->xs[i]?=some x->∃ u,us[i]?=some u/\RelV x u
 |_,_,_,_,.nil,e=>by simp at e
 |_,_,0,_,.cons r _,e=>by simp at e;subst e;exact⟨_,rfl,r⟩
 |_,_,i+1,x,.cons _ t,e=>by
  obtain ⟨u,h1,h2⟩:=Vals.get (i:=i) (x:=x) t (by simpa using e)
  exact⟨u,by simpa using h1,h2⟩
theorem Vals.set(r:RelV x u):∀ {xs:List V} {us:List Value} (i:Nat),Vals xs us->Vals (xs.set i x) (us.set i u)
 |_,_,_,.nil=>.nil
 |_,_,0,.cons _ t=>.cons r t
 |_,_,i+1,.cons q t=>.cons q (Vals.set r i t)
theorem Vals.append:∀ {xs ys:List V} {us ws:List Value},Vals xs us->Vals ys ws->Vals (xs++ys) (us++ws)
 |_,_,_,_,.nil,s=>s
 |_,_,_,_,.cons r t,s=>.cons r (Vals.append t s)
theorem Vals.take:∀ {xs:List V} {us:List Value} (n:Nat),Vals xs us->Vals (xs.take n) (us.take n)
 |_,_,0,_=>.nil
 |_,_,_+1,.nil=>.nil
 |_,_,n+1,.cons r t=>.cons r (Vals.take n t)
theorem Vals.drop:∀ {xs:List V} {us:List Value} (n:Nat),Vals xs us->Vals (xs.drop n) (us.drop n)
 |_,_,0,r=>r
 |_,_,_+1,.nil=>.nil
 |_,_,n+1,.cons _ t=>Vals.drop n t
def RelO:Option V->Option Value->Prop
 |some v,some u=>RelV v u
 |none,none=>True
 |_,_=>False
def KV{κ:Type}:List (κ × V)->List (κ × Value)->Prop:=Paired fun (p:κ × V) (q:κ × Value)=>p.1=q.1/\RelV p.2 q.2
def kV:Key->V
 | .inl i=>.int i
 | .inr x=>.str x
inductive HO where
 |lst (xs:List V)
 |tup (xs:List V)
 |dK (kvs:List (Key × V)) | dT (kvs:List (List Key × V))
 |set (S:Int->Bool) (n:Nat)
 |ins (C dx:Addr) (fs:List (Str × V))
 |own (x:Addr)
 |xd (fs:List (Str × V))
 |met (f x:Addr)
 |rng (lo hi:Int)
 |frz (o:Obj) (u:HO)
 |tbl (ps:Array Value)
 |ext (φ:Heap->Prop)
abbrev Hp:=Addr->Option HO
def upd(H:Hp)(a:Addr)(o:HO):Hp:=fun b=>if b=a then some o else H b
theorem qL:upd H a o a=some o:=by unfold upd;rw[if_pos rfl]
theorem qH(h:b≠a):upd H a o b=H b:=by unfold upd;rw[if_neg h]
theorem upd_upd:upd (upd H a o) a u=upd H a u:=by
 funext b;unfold upd;split <;> rfl
theorem ne_of_none{H:Hp}(h:H a=some o)(h':H b=none):a≠b:=by
 intro e;subst e;rw[h] at h';cases h'
section
variable (P:Program)(w:World)
def ObjOk(H:Hp)(h:Heap)(a:Addr):HO->Prop
 | .lst xs=>xs.length<=sizeLine/\∃ (its:List Value) (n:Nat),Vals xs its/\h.get? a=some { cls:=.type "list",data:=.seq its.toArray n }
 | .tup xs=>xs.length<=sizeLine/\∃ its:List Value,Vals xs its/\IsTup h a its.toArray
 | .dK kvs=>kvs.length<=sizeLine/\(a == sysModules)=false/\∃ vs,KV kvs vs/\h.DictOf (mixKind P w) a vs
 | .dT kvs=>kvs.length<=sizeLine/\(a == sysModules)=false/\∃ xs:List (List Key × Addr × Value),
   Paired (fun (p:List Key × V) (q:List Key × Addr × Value)=>p.1=q.1/\H q.2.1=some (.tup (p.1.map kV))/\RelV p.2 q.2.2) kvs xs /\
   ∃ o es ep,h.get? a=some o/\o.ExactDict/\o.data=.dict es ep/\es.toList=xs.map (entryOfKey (tupleKind (mixKind P w)))/\(xs.map (·.1)).Nodup
 | .set S n=>h.SetOf (intKind P w) a S n
 | .ins C dx fs=>H dx=some (.own a)/\fs.length<=1000/\dx≠a/\h.get? a=some (PySem.W.instObj C dx) /\
   ∃ mA,h.Ns1 dx mA/\(∀ f,RelO (fs.lookup f) (mA f))/\PySem.Within mA (fs.map (·.1))
 | .own _=>∃ o,h.get? a=some o
 | .xd fs=>∃ mA,h.Ns1 a mA/\∀ f,RelO (fs.lookup f) (mA f)
 | .rng lo hi=>∃ t u v,h.get? a=some { cls:=.type "range",data:=.fields #[.int lo t,.int hi u,.int 1 v] }
 | .frz o u=>h.get? a=some o/\ObjOk H h a u
 | .tbl ps=>h.get? a=some { cls:=.none,data:=.fields ps }
 | .met f x=>h.get? a=some (PySem.W.methodObj (.ref f) (.ref x))
 | .ext φ=>φ h/\(∃ o,h.get? a=some o)/\∀ h1 h2:Heap,φ h1->(∀ o,h1.get? a=some o->h2.get? a=some o)->φ h2
def HOk(H:Hp)(h:Heap):Prop:=∀ a o,H a=some o->ObjOk P w H h a o
end
section
variable {P:Program}{w:World}{H H':Hp}{h h':Heap}{a:Addr}{o:HO}
theorem ObjOk.lt(x:ObjOk P w H h a o):a<h.objs.size:=by
 cases o with
 |lst xs=>obtain ⟨_,_,_,_,e⟩:=x;exact Heap.lt_size e
 |tup xs=>obtain ⟨_,_,_,p⟩:=x;exact p.lt
 |dK kvs=>obtain ⟨_,_,_,_,o,_,_,e,_⟩:=x;exact Heap.lt_size e
 |dT kvs=>obtain ⟨_,_,_,_,o,_,_,e,_⟩:=x;exact Heap.lt_size e
 |set S n=>obtain ⟨o,_,_,_,e,_⟩:=x;exact Heap.lt_size e
 |ins C dx fs=>obtain ⟨_,_,_,e,_⟩:=x;exact Heap.lt_size e
 |own y=>obtain ⟨_,e⟩:=x;exact Heap.lt_size e
 |xd fs=>obtain ⟨_,⟨_,_,_,e,_⟩,_⟩:=x;exact Heap.lt_size e
 |rng lo hi=>obtain ⟨_,_,_,e⟩:=x;exact Heap.lt_size e
 |frz ob u=>obtain ⟨e,_⟩:=x;exact Heap.lt_size e
 |tbl ps=>exact Heap.lt_size (show h.get? a=some _ from x)
 |met f y=>exact Heap.lt_size (show h.get? a=some _ from x)
 |ext φ=>obtain ⟨_,⟨_,e⟩,_⟩:=x;exact Heap.lt_size e
theorem Paired.mapP{α β:Type}{F G:α->β->Prop}:∀ {l₁:List α} {l₂:List β},Paired F l₁ l₂->(∀ a b,F a b->G a b)->Paired G l₁ l₂
 |_,_,.nil,_=>.nil
 |_,_,.cons r t,f=>.cons (f _ _ r) (Paired.mapP t f)
theorem ObjOk.stay(x:ObjOk P w H h a o)(k:∀ b u,(b=a\/H b=some (.own a))->h.get? b=some u->h'.get? b=some u)
  (ho:∀ b,H b=some (.own a)->H' b=some (.own a)) (ht:∀ b xs,H b=some (.tup xs)->H' b=some (.tup xs)):ObjOk P w H' h' a o:=by
 induction o with
 |lst xs=>obtain ⟨z,its,n,r,e⟩:=x;exact⟨z,its,n,r,k _ _ (.inl rfl) e⟩
 |tup xs=>obtain ⟨z,its,r,ob,e,c⟩:=x;exact⟨z,its,r,ob,k _ _ (.inl rfl) e,c⟩
 |dK kvs=>obtain ⟨z,y,vs,r,ob,es,ep,e,c⟩:=x;exact⟨z,y,vs,r,ob,es,ep,k _ _ (.inl rfl) e,c⟩
 |dT kvs=>
  obtain ⟨z,y,xs,r,ob,es,ep,e,c⟩:=x
  exact⟨z,y,xs,Paired.mapP r fun p q z=>⟨z.1,ht _ _ z.2.1,z.2.2⟩,ob,es,ep,k _ _ (.inl rfl) e,c⟩
 |set S n=>obtain ⟨ob,es,ep,t,e,c⟩:=x;exact⟨ob,es,ep,t,k _ _ (.inl rfl) e,c⟩
 |ins C dx fs=>
  obtain ⟨d,z,ne,e,mA,⟨od,es,ep,e2,c⟩,r⟩:=x
  exact⟨ho _ d,z,ne,k _ _ (.inl rfl) e,mA,⟨od,es,ep,k _ _ (.inr d) e2,c⟩,r⟩
 |own y=>obtain ⟨ob,e⟩:=x;exact⟨ob,k _ _ (.inl rfl) e⟩
 |xd fs=>obtain ⟨mA,⟨od,es,ep,e,c⟩,r⟩:=x;exact⟨mA,⟨od,es,ep,k _ _ (.inl rfl) e,c⟩,r⟩
 |rng lo hi=>obtain ⟨t,u,v,e⟩:=x;exact⟨t,u,v,k _ _ (.inl rfl) e⟩
 |frz ob u ih=>obtain ⟨e,q⟩:=x;exact⟨k _ _ (.inl rfl) e,ih q⟩
 |tbl ps=>have e:h.get? a=some { cls:=.none,data:=.fields ps }:=x;show h'.get? a=some { cls:=.none,data:=.fields ps };exact k a _ (.inl rfl) e
 |met f y=>have e:h.get? a=some (PySem.W.methodObj (.ref f) (.ref y)):=x;show h'.get? a=some (PySem.W.methodObj (.ref f) (.ref y));exact k a _ (.inl rfl) e
 |ext φ=>obtain ⟨p,⟨o,e⟩,st⟩:=x;exact⟨st _ _ p fun o q=>k _ _ (.inl rfl) q,⟨o,k _ _ (.inl rfl) e⟩,st⟩
theorem HOk.lt(x:HOk P w H h)(e:H a=some o):a<h.objs.size:=(x a o e).lt
theorem HOk.fresh(x:HOk P w H h)(e:h.objs.size<=a):H a=none:=by
 cases q:H a with
 |none=>rfl
 |some u=>exact absurd (Nat.lt_of_lt_of_le (x.lt q) e) (Nat.lt_irrefl _)
theorem HOk.kept(x:HOk P w H h)(k:∀ b u,h.get? b=some u->h'.get? b=some u):HOk P w H h':=fun a o e=>
 (x a o e).stay (fun b u _ q=>k b u q) (fun _ q=>q) fun _ _ q=>q
theorem HOk.laid(x:HOk P w H h)(k:∀ b u,h.get? b=some u->h'.get? b=some u)(hp:h.objs.size<=a)(new:ObjOk P w (upd H a o) h' a o):HOk P w (upd H a o) h':=fun b u e=>by
 have hn:=x.fresh hp
 by_cases hb:b=a
 ·subst hb;rw[qL] at e;cases e;exact new
 ·rw[qH hb] at e;exact (x b u e).stay (fun c v _ q=>k c v q) (fun c q=>by rw[qH (ne_of_none q hn)];exact q) fun c xs q=>by rw[qH (ne_of_none q hn)];exact q
end
def Rd(H:Hp)(a:Addr)(u:HO):Prop:=H a=some u\/∃ o,H a=some (.frz o u)
theorem Rd.ok(r:Rd H a u)(x:HOk P w H h):ObjOk P w H h a u:=by
 rcases r with r | ⟨o,r⟩
 ·exact x a u r
 ·obtain ⟨_,q⟩:=x a _ r;exact q
def Mut:Option HO->Prop
 |some (.lst _)=>True
 |some (.dK _)=>True
 |some (.dT _)=>True
 |some (.set _ _)=>True
 |some (.ins _ _ _)=>True
 |some (.ext _)=>True
 |_=>False
section
variable {P:Program}{w:World}{H:Hp}{h h':Heap}{x e:Addr}{o':HO}
theorem HOk.write(ok:HOk P w H h)(mu:Mut (H x))(he:e=x\/H e=some (.own x))(k:∀ b u,b≠e->h.get? b=some u->h'.get? b=some u)(heo:∃ u,h'.get? e=some u)
  (new:ObjOk P w (upd H x o') h' x o'):HOk P w (upd H x o') h':=fun b u q=>by
 have nown:∀ c y,H c=some (.own y)->c≠x:=fun c y r z=>by subst z;rw[r] at mu;exact mu
 have ntup:∀ c xs,H c=some (.tup xs)->c≠x:=fun c xs r z=>by subst z;rw[r] at mu;exact mu
 by_cases hb:b=x
 ·subst hb;rw[qL] at q;cases q;exact new
 ·rw[qH hb] at q
  by_cases hbe:b=e
  ·have q':H b=some (.own x):=by
    rcases he with z | z
    ·exact absurd (hbe.trans z) hb
    ·rw[hbe];exact z
   rw[q] at q';cases q';obtain ⟨v,hv⟩:=heo
   exact⟨v,by rw[hbe];exact hv⟩
  ·refine (ok b u q).stay (fun c v hc r=>k c v ?_ r) (fun c r=>by rw[qH (nown c b r)];exact r) fun c xs r=>by rw[qH (ntup c xs r)];exact r
   rcases hc with rfl | hc
   ·exact hbe
   ·rintro rfl
    rcases he with z | z
    ·exact nown c b hc z
    ·rw[hc] at z;cases z;exact hb rfl
end
structure Un (fs ex:List Addr) (H H':Hp) (h h':Heap):Prop where
 keep:∀ b o,h.get? b=some o->H b=none->b∉fs->b∉ex->h'.get? b=some o
 slot:∀ b o,h.get? b=some o->H b=none->b∈fs->b∉ex->∃ sl,h'.get? b=some { o with slots:=sl }
 free:∀ b o,h.get? b=some o->H b=none->b∉ex->H' b=none
 there:∀ b o,h.get? b=some o->b∉ex->∃ o',h'.get? b=some o'
 tups:∀ b xs,H b=some (.tup xs)->H' b=some (.tup xs)
 frzs:∀ b o u,H b=some (.frz o u)->H' b=some (.frz o u)
 tbls:∀ b ps,H b=some (.tbl ps)->∃ more,H' b=some (.tbl (ps++more))
section
variable {fs fs' ex ex':List Addr}{H H1 H2:Hp}{h h1 h2 h':Heap}{a x e:Addr}{o:HO}
theorem Un.any(u:Un fs ex H H1 h h1)(q:h.get? b=some ob)(n:H b=none)(hx:b∉ex):∃ sl,h1.get? b=some { ob with slots:=sl }:=by
 by_cases hb:b∈fs
 ·exact u.slot b ob q n hb hx
 ·exact⟨ob.slots,u.keep b ob q n hb hx⟩
theorem Un.trans(a:Un fs ex H H1 h h1)(b:Un fs ex H1 H2 h1 h2):Un fs ex H H2 h h2 where
 keep:=fun c ob q n hc hx=>b.keep c ob (a.keep c ob q n hc hx) (a.free c ob q n hx) hc hx
 slot:=fun c ob q n hc hx=>by
  obtain ⟨sl,e1⟩:=a.slot c ob q n hc hx;obtain ⟨sl',e2⟩:=b.slot c _ e1 (a.free c ob q n hx) hc hx
  exact⟨sl',e2⟩
 free:=fun c ob q n hx=>by
  obtain ⟨o',e1⟩:=a.there c ob q hx;exact b.free c o' e1 (a.free c ob q n hx) hx
 there:=fun c ob q hx=>by
  obtain ⟨o',e1⟩:=a.there c ob q hx;exact b.there c o' e1 hx
 tups:=fun c xs q=>b.tups c xs (a.tups c xs q)
 frzs:=fun c ob xs q=>b.frzs c ob xs (a.frzs c ob xs q)
 tbls:=fun c ps q=>by
  obtain ⟨m1,e1⟩:=a.tbls c ps q;obtain ⟨m2,e2⟩:=b.tbls c _ e1
  exact⟨m1++m2,by rw[e2,Array.append_assoc]⟩
theorem Un.kept(k:∀ b u,h.get? b=some u->h'.get? b=some u):Un fs ex H H h h':=
 ⟨fun b ob q _ _ _=>k b ob q,fun b ob q _ _ _=>⟨ob.slots,k b ob q⟩,fun _ _ _ n _=>n,fun b ob q _=>⟨ob,k b ob q⟩,fun _ _ q=>q,fun _ _ _ q=>q,fun _ ps q=>⟨#[],by rw[q];simp⟩⟩
theorem Un.refl:Un fs ex H H h h:=Un.kept fun _ _ q=>q
theorem Un.laid(k:∀ b u,h.get? b=some u->h'.get? b=some u)(hp:h.objs.size<=a)(hn:H a=none):Un fs ex H (upd H a o) h h' where
 keep:=fun b u q _ _ _=>k b u q
 slot:=fun b u q _ _ _=>⟨u.slots,k b u q⟩
 free:=fun b u q n _=>by rw[qH (Nat.ne_of_lt (Nat.lt_of_lt_of_le (Heap.lt_size q) hp))];exact n
 there:=fun b u q _=>⟨u,k b u q⟩
 tups:=fun b xs q=>by rw[qH (ne_of_none q hn)];exact q
 frzs:=fun b u xs q=>by rw[qH (ne_of_none q hn)];exact q
 tbls:=fun b ps q=>⟨#[],by rw[qH (ne_of_none q hn),q];simp⟩
theorem Un.write(mu:Mut (H x))(he:e=x\/H e=some (.own x))(k:∀ b u,b≠e->h.get? b=some u->h'.get? b=some u)(heo:∃ u,h'.get? e=some u):Un fs ex H (upd H x o) h h':=by
 have hx:∀ b,H b=none->b≠x:=fun b n z=>by subst z;rw[n] at mu;exact mu
 have hb:∀ b,H b=none->b≠e:=fun b n z=>by
  subst z;rcases he with r | r
  ·exact hx b n r
  ·rw[n] at r;cases r
 have hm:∀ b u,H b=some u->¬ Mut (some u)->b≠x:=fun b u q nm z=>by subst z;rw[q] at mu;exact nm mu
 refine⟨fun b u q n _ _=>k b u (hb b n) q,fun b u q n _ _=>⟨u.slots,k b u (hb b n) q⟩,fun b u q n _=>by rw[qH (hx b n)];exact n,fun b u q _=>?_,
  fun b xs q=>by rw[qH (hm b _ q fun z=>z)];exact q,fun b u xs q=>by rw[qH (hm b _ q fun z=>z)];exact q,fun b ps q=>⟨#[],by rw[qH (hm b _ q fun z=>z),q];simp⟩⟩
 by_cases hbe:b=e
 ·subst hbe;exact heo
 ·exact⟨u,k b u hbe q⟩
theorem Un.mono(u:Un fs ex H H1 h h1)(hs:∀ b∈fs,b∈fs')(hx:∀ b∈ex,b∈ex'):Un fs' ex' H H1 h h1:=
 ⟨fun b ob q n hb he=>u.keep b ob q n (fun z=>hb (hs b z)) fun z=>he (hx b z),fun _ _ q n _ he=>u.any q n fun z=>he (hx _ z),fun b ob q n he=>u.free b ob q n fun z=>he (hx b z),fun b ob q he=>u.there b ob q fun z=>he (hx b z),u.tups,u.frzs,u.tbls⟩
end
def trk(h:Heap)(H:Hp):List Addr:=(List.range h.objs.size).filter fun a=>(H a).isSome
def vV(h:Heap)(H:Hp):Heap:=PySem.W.hideAll h (trk h H)
theorem qOT(h:Heap)(H:Hp):(vV h H).objs.size=h.objs.size:=PySem.W.hideAll_size _ _
theorem qOU(e:h.get? b=some o)(n:H b=none):(vV h H).get? b=some o:=
 PySem.W.hideAll_get _ e fun hm=>by
  have q:(H b).isSome=true:=(List.mem_filter.mp hm).2;rw[n] at q;simp at q
theorem qJb(e:(vV h H).get? b=some o):h.get? b=some o/\H b=none:=by
 have e':h.get? b=some o:=PySem.W.of_hideAll (trk h H) e;refine⟨e',?_⟩;cases q:H b with
 |none=>rfl
 |some x=>have hm:b∈trk h H:=List.mem_filter.mpr ⟨List.mem_range.mpr (Heap.lt_size e'),by simp[q]⟩;have z:(vV h H).get? b=none:=PySem.W.hideAll_none (trk h H) hm;rw[z] at e;cases e
def qUD(g h:Heap)(L:Addr):List (Addr × Obj):=(List.range h.objs.size).filterMap fun a=>if a=L\/(g.get? a).isSome=true then none else (h.get? a).map fun o=>(a,o)
def rest(g h:Heap)(L d:Addr):List (Addr × Obj):=(qUD g h L).filter fun p=>decide (p.1≠d)
structure Mod (K:PySem.W.Frag) (mg:Str->Option Value) (base:Heap):Prop where
 kin:K.In base
 glob:base.Ns mainGlobals mg
 blt:∃ mb,base.Ns builtinsNs mb/\∀ x:Str,x≠"__name__"->mb x=bootBuiltins x
 nolimit:base.NoLimit
structure Cx where
 prog:Program
 w:World
 K:PySem.W.Frag
 mg:Str->Option Value
 base:Heap
 A:Around
 N:List Str
 s₀:Shared
 H₀:Hp
 env:Env
 outer:List Env
 stack:List Env
 ex:List Addr
 fn:Str->Bool
 calm:Bool
 pn:List (Addr × Obj)
 xe:Value->Shared->Prop
def frs(l:List Env):List Addr:=l.filterMap (·.frame)
abbrev Cx.fs(X:Cx):List Addr:=frs X.outer
def Vis(sc:Scope)(x:Str):Prop:=sc.names.lookup x=some .local\/sc.names.lookup x=some .cell\/sc.names.lookup x=some .free
def Loc(sc:Scope)(x:Str):Prop:=sc.names.lookup x=some .local\/sc.names.lookup x=some .cell
def Look(env:Env)(h:Heap)(m:Str->Option Value)(x:Str)(u:Value):Prop:=
 (env.kindOf x=some .local/\m x=some u)\/((env.kindOf x=some .cell\/env.kindOf x=some .free)/\∃ c,env.cells.lookup x=some c/\h.IsCell c (some u))
structure Cx.Ok (X:Cx):Prop where
 mod:Mod X.K X.mg X.base
 kind:X.env.scope.kind=.function
 glob:X.env.globals=mainGlobals
 blt:X.env.builtins=builtinsNs
 above:X.s₀.heap.objs.size<=X.env.locals
 inj:∀ x y c,X.env.cells.lookup x=some c->X.env.cells.lookup y=some c->x=y
 has:∀ x,(X.env.kindOf x=some .cell\/X.env.kindOf x=some .free)->∃ c,X.env.cells.lookup x=some c
 cab:∀ x c,X.fn x=true->X.env.cells.lookup x=some c->X.s₀.heap.objs.size<=c
 hd:X.calm=true->X.A.handled=none
 frames:X.A.frames=some X.stack
 stk:X.stack=X.outer\/(X.stack=X.env::X.outer/\X.env.frame=some X.env.locals)
 exf:∀ b∈X.ex,b≠X.env.locals/\∀ x c,X.env.cells.lookup x=some c->c≠b
 bs:∀ b o,X.base.get? b=some o->X.s₀.heap.get? b=some o/\X.H₀ b=none
 bsz:X.base.objs.size<=X.s₀.heap.objs.size
 noex:∀ b o,X.base.get? b=some o->b∉X.ex
 exfs:∀ b∈X.ex,b∉X.fs
 funs:X.s₀.heap.FunFrames X.base X.outer
 frf:∀ b∈X.fs,X.H₀ b=none
structure Inv (X:Cx) (pins:List (Addr × Obj)) (U:List (Option V)) (H:Hp) (s:Shared):Prop where
 ok:X.Ok
 os:s.os=X.s₀.os
 bare:AllBare s.gens
 base:Un X.fs X.ex X.H₀ H X.s₀.heap s.heap
 loc:∃ m,s.heap.Ns X.env.locals m/\∀ (i:Nat) (x:Str) (v:V),X.N[i]?=some x->U[i]?=some (some v)->Vis X.env.scope x->∃ u,RelV v u/\Look X.env s.heap m x u
 cell:∀ x c,X.env.cells.lookup x=some c->∃ v,s.heap.IsCell c v
 free:H X.env.locals=none
 freeC:∀ x c,X.env.cells.lookup x=some c->H c=none
 pin:∀ p∈X.pn++pins,s.heap.get? p.1=some p.2/\H p.1=none/\p.1≠X.env.locals/\p.1∉X.fs/\∀ v,p.2.data≠.cell v
 hok:HOk X.prog X.w H s.heap
 len:U.length=X.N.length
section
variable {X:Cx}{pins:List (Addr × Obj)}{U:List (Option V)}{H H':Hp}{s:Shared}{h':Heap}
theorem Cx.Ok.nofr(ok:X.Ok)(e:X.base.get? b=some o):b∉X.fs:=fun hb=>by
 have:=(ok.funs.mem hb).1
 rw[e] at this;cases this
theorem Inv.bs(I:Inv X pins U H s):∀ b o,X.base.get? b=some o->s.heap.get? b=some o/\H b=none:=fun b o e=>
 ⟨I.base.keep b o (I.ok.bs b o e).1 (I.ok.bs b o e).2 (I.ok.nofr e) (I.ok.noex b o e),I.base.free b o (I.ok.bs b o e).1 (I.ok.bs b o e).2 (I.ok.noex b o e)⟩
theorem Inv.bk(I:Inv X pins U H s):∀ b o,X.base.get? b=some o->s.heap.get? b=some o:=fun b o e=>(I.bs b o e).1
theorem Inv.mod(I:Inv X pins U H s):Mod X.K X.mg X.base:=I.ok.mod
theorem Inv.kIn(I:Inv X pins U H s):X.K.In s.heap:=I.ok.mod.kin.keeps I.bk
theorem Inv.lt(I:Inv X pins U H s):X.env.locals<s.heap.objs.size:=let ⟨_,hn,_⟩:=I.loc;hn.lt
theorem Inv.sz(I:Inv X pins U H s):X.s₀.heap.objs.size<=s.heap.objs.size:=Nat.le_trans I.ok.above (Nat.le_of_lt I.lt)
theorem Inv.nofs(I:Inv X pins U H s)(h:s.heap.objs.size<=a):a∉X.fs:=fun hb=>by
 obtain ⟨_,o,ho,_⟩:=I.ok.funs.mem hb;exact absurd (Nat.lt_of_lt_of_le (Heap.lt_size ho) (Nat.le_trans I.sz h)) (Nat.lt_irrefl _)
theorem Inv.cne(I:Inv X pins U H s):∀ x c,X.env.cells.lookup x=some c->c≠X.env.locals:=fun x c e z=>by
 obtain ⟨v,o,ho,hd⟩:=I.cell x c e;obtain ⟨m,⟨o',es,ep,ho',hd',_⟩,_⟩:=I.loc;rw[z,ho'] at ho;cases ho;rw[hd'] at hd;cases hd
theorem Inv.funs(I:Inv X pins U H s):s.heap.FunFrames X.base X.outer:=by
 have all:∀ (l:List Env),(∀ b∈frs l,b∈X.fs)->X.s₀.heap.FunFrames X.base l->s.heap.FunFrames X.base l:=by
  intro l
  induction l with
  |nil=>intro _ _;trivial
  |cons env r ih=>
   intro hs hl;obtain ⟨hk,⟨L,o,hf,hn,ho,hd⟩,hr⟩:=hl;have hL:L∈X.fs:=hs L (by unfold frs;rw[List.filterMap_cons,hf];exact List.mem_cons_self);obtain ⟨sl,e⟩:=I.base.slot L o ho (I.ok.frf L hL) hL fun z=>I.ok.exfs L z hL
   exact⟨hk,⟨L,_,hf,hn,e,hd⟩,ih (fun b hb=>hs b (by unfold frs;rw[List.filterMap_cons,hf];exact List.mem_cons_of_mem _ hb)) hr⟩
 exact all X.outer (fun _ hb=>hb) I.ok.funs
theorem Inv.stack(I:Inv X pins U H s):s.heap.FunFrames X.base X.stack:=by
 rcases I.ok.stk with e | ⟨e,hf⟩
 ·rw[e];exact I.funs
 ·rw[e];obtain ⟨m,hn,_⟩:=I.loc;refine .cons (by rw[I.ok.kind];decide) hf hn ?_ I.funs;exact Heap.get?_none_of_le (Nat.le_trans I.ok.bsz I.ok.above)
theorem Inv.stkSub(I:Inv X pins U H s):∀ b∈frs X.stack,b∈X.env.locals::X.fs:=fun b hb=>by
 rcases I.ok.stk with e | ⟨e,hf⟩
 ·rw[e] at hb;exact List.mem_cons_of_mem _ hb
 ·rw[e] at hb;unfold frs at hb;rw[List.filterMap_cons,hf] at hb;exact hb
theorem Inv.stkFree(I:Inv X pins U H s):∀ b∈frs X.stack,H b=none:=fun b hb=>by
 rcases List.mem_cons.mp (I.stkSub b hb) with e | hb
 ·rw[e];exact I.free
 ·obtain ⟨_,o,ho,_⟩:=I.ok.funs.mem hb;exact I.base.free b o ho (I.ok.frf b hb) fun z=>I.ok.exfs b z hb
theorem Inv.step{ch:List Addr}(I:Inv X pins U H s)
  (hch:∀ b∈ch,(b∈X.ex\/X.s₀.heap.objs.size<=b)/\b≠X.env.locals/\(∀ x c,X.env.cells.lookup x=some c->c≠b)/\∀ p∈X.pn++pins,p.1≠b)
  (keep:∀ b o,b≠X.env.locals->b∉X.fs->b∉ch->s.heap.get? b=some o->H b=none->h'.get? b=some o)
  (slot:∀ b o,b≠X.env.locals->b∈X.fs->b∉ch->s.heap.get? b=some o->H b=none->∃ sl,h'.get? b=some { o with slots:=sl }) (free:∀ b o,b∉ch->s.heap.get? b=some o->H b=none->H' b=none)
  (there:∀ b o,b∉ch->s.heap.get? b=some o->∃ o',h'.get? b=some o')
  (tups:∀ b xs,H b=some (.tup xs)->H' b=some (.tup xs)) (frzs:∀ b o u,H b=some (.frz o u)->H' b=some (.frz o u)) (tbls:∀ b ps,H b=some (.tbl ps)->∃ more,H' b=some (.tbl (ps++more)))
  (ns:∀ m,s.heap.Ns X.env.locals m->h'.Ns X.env.locals m) (hok:HOk X.prog X.w H' h') (hg:AllBare g') :
  Inv X pins U H' { s with heap:=h',gens:=g',drawn:=d',toks:=t' }:=by
 have neL:∀ b o,X.s₀.heap.get? b=some o->b≠X.env.locals:=fun b o e=>Nat.ne_of_lt (Nat.lt_of_lt_of_le (Heap.lt_size e) I.ok.above)
 have neC:∀ b o,X.s₀.heap.get? b=some o->b∉X.ex->b∉ch:=fun b o e hx hb=>by
  rcases (hch b hb).1 with z | z
  ·exact hx z
  ·exact absurd (Nat.lt_of_lt_of_le (Heap.lt_size e) z) (Nat.lt_irrefl _)
 have cellK:∀ x c,X.env.cells.lookup x=some c->∀ v,s.heap.IsCell c v->h'.IsCell c v:=fun x c e v ⟨o,ho,hd⟩=>by
  have nch:c∉ch:=fun z=>(hch c z).2.2.1 x c e rfl
  by_cases hc:c∈X.fs
  ·obtain ⟨sl,q⟩:=slot c o (I.cne x c e) hc nch ho (I.freeC x c e)
   exact⟨_,q,hd⟩
  ·exact⟨o,keep c o (I.cne x c e) hc nch ho (I.freeC x c e),hd⟩
 refine⟨I.ok,I.os,hg,⟨fun b o e n hb hx=>?_,fun b o e n hb hx=>?_,fun b o e n hx=>?_,fun b o e hx=>?_,fun b xs e=>tups b xs (I.base.tups b xs e),fun b o xs e=>frzs b o xs (I.base.frzs b o xs e),fun b ps e=>?_⟩,?_,fun x c e=>?_,?_,fun x c e=>?_,fun p hp=>?_,hok,I.len⟩
 ·exact keep b o (neL b o e) hb (neC b o e hx) (I.base.keep b o e n hb hx) (I.base.free b o e n hx)
 ·obtain ⟨sl,e1⟩:=I.base.slot b o e n hb hx;obtain ⟨sl',e2⟩:=slot b _ (neL b o e) hb (neC b o e hx) e1 (I.base.free b o e n hx)
  exact⟨sl',e2⟩
 ·obtain ⟨o',e1⟩:=I.base.there b o e hx;exact free b o' (neC b o e hx) e1 (I.base.free b o e n hx)
 ·obtain ⟨o',e1⟩:=I.base.there b o e hx;exact there b o' (neC b o e hx) e1
 ·obtain ⟨m1,e1⟩:=I.base.tbls b ps e;obtain ⟨m2,e2⟩:=tbls b _ e1
  exact⟨m1++m2,by rw[e2,Array.append_assoc]⟩
 ·obtain ⟨m,hn,hl⟩:=I.loc;refine⟨m,ns m hn,fun i x v e1 e2 e3=>?_⟩;obtain ⟨u,r,l⟩:=hl i x v e1 e2 e3;refine⟨u,r,?_⟩;rcases l with l | ⟨k,c,e,z⟩
  ·exact .inl l
  ·exact .inr ⟨k,c,e,cellK x c e _ z⟩
 ·obtain ⟨v,z⟩:=I.cell x c e
  exact⟨v,cellK x c e v z⟩
 ·obtain ⟨m,⟨o,_,_,ho,_⟩,_⟩:=I.loc;exact free _ o (fun z=>(hch _ z).2.1 rfl) ho I.free
 ·obtain ⟨v,o,ho,hd⟩:=I.cell x c e;exact free c o (fun z=>(hch c z).2.2.1 x c e rfl) ho (I.freeC x c e)
 ·obtain ⟨e,n,ne,nf,d⟩:=I.pin p hp;have nch:p.1∉ch:=fun z=>(hch p.1 z).2.2.2 p hp rfl
  exact⟨keep p.1 p.2 ne nf nch e n,free p.1 p.2 nch e n,ne,nf,d⟩
theorem Inv.un(I:Inv X pins U H s)(u:Un X.fs [] H H' s.heap h')(hok:HOk X.prog X.w H' h'):Inv X pins U H' { s with heap:=h',toks:=t' }:=by
 obtain ⟨m,⟨o,es,ep,ho,r⟩,_⟩:=id I.loc;obtain ⟨sl,hL⟩:=u.any ho I.free (by simp)
 exact I.step (g':=s.gens) (d':=s.drawn) (ch:=[]) (fun _ z=>nomatch z) (fun b o _ hb _ e n=>u.keep b o e n hb (by simp)) (fun b o _ hb _ e n=>u.slot b o e n hb (by simp)) (fun b o _ e n=>u.free b o e n (by simp)) (fun b o _ e=>u.there b o e (by simp)) u.tups u.frzs u.tbls (fun m' hm=>by
  obtain ⟨o',es',ep',ho',r'⟩:=hm;rw[ho] at ho';cases ho'
  exact⟨_,es',ep',hL,r'⟩) hok I.bare
theorem Inv.call(I:Inv X pins U H s)(u:Un (frs X.stack) ch H H' s.heap h')(hok:HOk X.prog X.w H' h')(hg:AllBare g')
  (hch:∀ b∈ch,(b∈X.ex\/X.s₀.heap.objs.size<=b)/\b≠X.env.locals/\(∀ x c,X.env.cells.lookup x=some c->c≠b)/\∀ p∈X.pn++pins,p.1≠b) :
  Inv X pins U H' { s with heap:=h',gens:=g',drawn:=d',toks:=t' }:=by
 obtain ⟨m,⟨o,es,ep,ho,r⟩,_⟩:=id I.loc;obtain ⟨sl,hL⟩:=u.any ho I.free fun z=>(hch _ z).2.1 rfl
 exact I.step (ch:=ch) hch (fun b o hL hb hc e n=>u.keep b o e n (fun z=>(List.mem_cons.mp (I.stkSub b z)).elim hL hb) hc) (fun b o _ _ hc e n=>u.any e n hc) (fun b o hc e n=>u.free b o e n hc) (fun b o hc e=>u.there b o e hc) u.tups u.frzs u.tbls (fun m' hm=>by
  obtain ⟨o',es',ep',ho',r'⟩:=hm;rw[ho] at ho';cases ho'
  exact⟨_,es',ep',hL,r'⟩) hok hg
theorem Inv.turned(I:Inv X pins U H s)(k:∀ b o,b≠it->s.heap.get? b=some o->h'.get? b=some o)(hn:H it=none)(hL:it≠X.env.locals)
  (h1:it∈X.ex\/X.s₀.heap.objs.size<=it) (h2:∀ x c,X.env.cells.lookup x=some c->c≠it) (h3:∀ p∈X.pn++pins,p.1≠it):Inv X pins U H { s with heap:=h',toks:=t' }:=by
 have nit:∀ b u,H b=some u->b≠it:=fun b u e z=>by rw[z,hn] at e;cases e
 refine I.step (g':=s.gens) (d':=s.drawn) (ch:=[it]) (fun b hb=>?_) (fun b o _ _ hc e _=>k b o (fun z=>hc (by simp[z])) e) (fun b o _ _ hc e _=>⟨o.slots,k b o (fun z=>hc (by simp[z])) e⟩) (fun _ _ _ _ n=>n)
  (fun b o hc e=>⟨o,k b o (fun z=>hc (by simp[z])) e⟩) (fun _ _ e=>e) (fun _ _ _ e=>e) (fun b ps e=>⟨#[],by rw[e];simp⟩) (fun m hm=>?_) (fun b u e=>?_) I.bare
 ·have e:b=it:=by simpa using hb
  subst e
  exact⟨h1,hL,h2,h3⟩
 ·obtain ⟨o,es,ep,ho,r⟩:=hm
  exact⟨o,es,ep,k _ o (Ne.symm hL) ho,r⟩
 ·refine (I.hok b u e).stay (fun c v hc q=>k c v ?_ q) (fun _ q=>q) fun _ _ q=>q;rcases hc with z | z
  ·rw[z];exact nit b u e
  ·exact nit c _ z
theorem Inv.tok(I:Inv X pins U H s)(t:Nat):Inv X pins U H { s with toks:=t }:=I.un (h':=s.heap) (t':=t) Un.refl I.hok
theorem Inv.kept(I:Inv X pins U H s)(k:∀ b u,s.heap.get? b=some u->h'.get? b=some u):Inv X pins U H { s with heap:=h',toks:=t' }:=I.un (Un.kept k) (I.hok.kept k)
theorem Inv.laid(I:Inv X pins U H s)(k:∀ b u,s.heap.get? b=some u->h'.get? b=some u)(hp:s.heap.objs.size<=a)(new:ObjOk X.prog X.w (upd H a o) h' a o) :
  Inv X pins U (upd H a o) { s with heap:=h',toks:=t' }:=I.un (Un.laid k hp (I.hok.fresh hp)) (I.hok.laid k hp new)
theorem Inv.write(I:Inv X pins U H s)(mu:Mut (H x))(he:e=x\/H e=some (.own x))(k:∀ b u,b≠e->s.heap.get? b=some u->h'.get? b=some u)(heo:∃ u,h'.get? e=some u)
  (new:ObjOk X.prog X.w (upd H x o) h' x o):Inv X pins U (upd H x o) { s with heap:=h',toks:=t' }:=I.un (Un.write mu he k heo) (I.hok.write mu he k heo new)
theorem Inv.pins_of(I:Inv X pins U H s)(h:∀ p∈pins',s.heap.get? p.1=some p.2/\H p.1=none/\p.1≠X.env.locals/\p.1∉X.fs/\∀ v,p.2.data≠.cell v):Inv X pins' U H s:=
 ⟨I.ok,I.os,I.bare,I.base,I.loc,I.cell,I.free,I.freeC,fun p hp=>(List.mem_append.mp hp).elim (fun z=>I.pin p (List.mem_append_left _ z)) (h p),I.hok,I.len⟩
theorem qC3{N:List Str}(hN:N.Nodup){j:Nat}(a:N[i]?=some x)(b:N[j]?=some x):i=j:=by
 obtain ⟨h1,e1⟩:=List.getElem?_eq_some_iff.mp a;obtain ⟨h2,e2⟩:=List.getElem?_eq_some_iff.mp b;exact (List.getElem_inj hN).mp (e1.trans e2.symm)
theorem qHx(I:Inv X pins U H s)(hN:X.N.Nodup)(hi:X.N[i]?=some x)(hx:Loc X.env.scope x)(r:RelV v u)
  (h:∀ s',Inv X pins (U.set i (some v)) H s'->(∃ a,Heap.SameBut a s.heap s'.heap/\(a=X.env.locals\/X.env.cells.lookup x=some a))->Q () s') (hf:X.fn x=true\/X.env.scope.names.lookup x=some .local:=by first | exact .inl rfl | exact .inr rfl | assumption):wpAny M A (storeName X.env x u) Q E s:=by
 obtain ⟨m,hn,hl⟩:=id I.loc;have hcls:(X.env.scope.kind == .class || (X.env.scope.kind == .module&&X.env.locals != X.env.globals))=false:=by rw[I.ok.kind];rfl
 have hiU:i<U.length:=by rw[I.len];exact (List.getElem?_eq_some_iff.mp hi).1
 have cne:=I.cne
 have tracked:∀ {a:Addr} {h':Heap},(∃ o,s.heap.get? a=some o/\H a=none)->Heap.SameBut a s.heap h'->HOk X.prog X.w H h':=fun {a h'} ha hs b ob e=>by
  obtain ⟨_,_,hfree⟩:=ha;refine (I.hok b ob e).stay (fun c w' hc q=>(hs.2 c ?_).trans q) (fun _ q=>q) fun _ _ q=>q
  rintro rfl
  rcases hc with rfl | hc
  ·rw[hfree] at e;cases e
  ·rw[hfree] at hc;cases hc
 rcases hx with hk | hk
 ·refine wpAny_storeName_local hk hn (fun h' hn' hs=>?_) hcls;obtain ⟨oL,_,_,hoL,_⟩:=id hn;refine h _ ⟨I.ok,I.os,I.bare,⟨fun b o e n hb hx=>?_,fun b o e n hb hx=>?_,I.base.free,fun b o e hx=>?_,I.base.tups,I.base.frzs,I.base.tbls⟩,⟨_,hn',fun j y v' e1 e2 e3=>?_⟩,fun y c e=>?_,I.free,I.freeC,fun p hp=>?_,tracked ⟨oL,hoL,I.free⟩ hs,by simpa using I.len⟩ ⟨_,hs,.inl rfl⟩
  ·exact (hs.2 b (Nat.ne_of_lt (Nat.lt_of_lt_of_le (Heap.lt_size e) I.ok.above))).trans (I.base.keep b o e n hb hx)
  ·obtain ⟨sl,e1⟩:=I.base.slot b o e n hb hx
   exact⟨sl,(hs.2 b (Nat.ne_of_lt (Nat.lt_of_lt_of_le (Heap.lt_size e) I.ok.above))).trans e1⟩
  ·obtain ⟨o',e1⟩:=I.base.there b o e hx
   exact⟨o',(hs.2 b (Nat.ne_of_lt (Nat.lt_of_lt_of_le (Heap.lt_size e) I.ok.above))).trans e1⟩
  ·by_cases hj:j=i
   ·subst hj;rw[hi] at e1;cases e1;rw[List.getElem?_set_self hiU] at e2;cases e2
    exact⟨u,r,.inl ⟨hk,by simp⟩⟩
   ·rw[List.getElem?_set_ne (Ne.symm hj)] at e2;obtain ⟨u',r',q⟩:=hl j y v' e1 e2 e3;refine⟨u',r',?_⟩;rcases q with⟨k,e⟩ | ⟨k,c,e,z⟩
    ·refine .inl ⟨k,?_⟩
     have:y≠x:=fun e=>hj (qC3 hN e1 (e ▸ hi))
     simp[this,e]
    ·exact .inr ⟨k,c,e,z.sameBut hs (cne y c e)⟩
  ·obtain ⟨w',z⟩:=I.cell y c e
   exact⟨w',z.sameBut hs (cne y c e)⟩
  ·obtain ⟨e,n,ne,nf,d⟩:=I.pin p hp
   exact⟨(hs.2 p.1 ne).trans e,n,ne,nf,d⟩
 ·have hfn:X.fn x=true:=by
   rcases hf with z | z
   ·exact z
   ·rw[z] at hk;cases hk
  obtain ⟨c,hc⟩:=I.ok.has x (.inl hk);obtain ⟨w',z⟩:=I.cell x c hc;refine wpAny_storeName_cell I.ok.kind hk hc z (fun h' hc' hs=>?_);obtain ⟨oc,hoc,hocd⟩:=id z;refine h { s with heap:=h' } ⟨I.ok,I.os,I.bare,⟨fun b o e n hb hx=>?_,fun b o e n hb hx=>?_,I.base.free,fun b o e hx=>?_,I.base.tups,I.base.frzs,I.base.tbls⟩,⟨m,hn.sameBut hs (Ne.symm (cne x c hc)),fun j y v' e1 e2 e3=>?_⟩,fun y c' e=>?_,I.free,I.freeC,fun p hp=>?_,tracked ⟨oc,hoc,I.freeC x c hc⟩ hs,by simpa using I.len⟩ ⟨c,hs,.inr hc⟩
  ·exact (hs.2 b (Nat.ne_of_lt (Nat.lt_of_lt_of_le (Heap.lt_size e) (I.ok.cab x c hfn hc)))).trans (I.base.keep b o e n hb hx)
  ·obtain ⟨sl,e1⟩:=I.base.slot b o e n hb hx
   exact⟨sl,(hs.2 b (Nat.ne_of_lt (Nat.lt_of_lt_of_le (Heap.lt_size e) (I.ok.cab x c hfn hc)))).trans e1⟩
  ·obtain ⟨o',e1⟩:=I.base.there b o e hx
   exact⟨o',(hs.2 b (Nat.ne_of_lt (Nat.lt_of_lt_of_le (Heap.lt_size e) (I.ok.cab x c hfn hc)))).trans e1⟩
  ·by_cases hj:j=i
   ·subst hj;rw[hi] at e1;cases e1;rw[List.getElem?_set_self hiU] at e2;cases e2
    exact⟨u,r,.inr ⟨.inl hk,c,hc,hc'⟩⟩
   ·rw[List.getElem?_set_ne (Ne.symm hj)] at e2;obtain ⟨u',r',q⟩:=hl j y v' e1 e2 e3;refine⟨u',r',?_⟩;rcases q with q | ⟨k,c',e,z'⟩
    ·exact .inl q
    ·refine .inr ⟨k,c',e,z'.sameBut hs ?_⟩
     rintro rfl
     exact hj (qC3 hN e1 (I.ok.inj _ _ _ e hc ▸ hi))
  ·by_cases hcc:c'=c
   ·subst hcc;exact⟨_,hc'⟩
   ·obtain ⟨w2,z2⟩:=I.cell y c' e
    exact⟨w2,z2.sameBut hs hcc⟩
  ·obtain ⟨e,n,ne,nf,d⟩:=I.pin p hp;refine⟨(hs.2 p.1 ?_).trans e,n,ne,nf,d⟩;intro q;rw[q,hoc] at e;have q':oc=p.2:=Option.some.inj e;exact d w' (by rw[<- q'];exact hocd)
theorem uB(I:Inv X pins U H s)(hN:X.N.Nodup)(hi:X.N[i]?=some x)(hx:Loc X.env.scope x)(r:RelV v u)
  (h:∀ s',Inv X pins (U.set i (some v)) H s'->Q () s') (hf:X.fn x=true\/X.env.scope.names.lookup x=some .local:=by first | exact .inl rfl | exact .inr rfl | assumption):wpAny M A (storeName X.env x u) Q E s:=
 qHx I hN hi hx r (fun s' I' _=>h s' I') hf
theorem Inv.call'(I:Inv X pins U H s)(ho:s'.os=s.os)(u:Un (frs X.stack) ch H H' s.heap s'.heap)(hok:HOk X.prog X.w H' s'.heap)(hg:AllBare s'.gens)
  (hch:∀ b∈ch,(b∈X.ex\/X.s₀.heap.objs.size<=b)/\b≠X.env.locals/\(∀ x c,X.env.cells.lookup x=some c->c≠b)/\∀ p∈X.pn++pins,p.1≠b):Inv X pins U H' s':=by
 obtain ⟨h',g',d',t',o'⟩:=s';have e:o'=s.os:=ho;subst e;exact I.call (g':=g') (t':=t') (d':=d') u hok hg hch
end
abbrev XK:=Value->Option Addr->Hp->Prop
abbrev St:=List (Option V)
abbrev VK:=V->Hp->Prop
abbrev TE:=St->Hp->VK->Prop
abbrev TT:=St->Hp->(Bool->Hp->Prop)->Prop
abbrev TA:=St->Hp->(List V->Hp->Prop)->Prop
structure Ends where
 nx:St->Hp->Prop
 rt:VK
 bk:St->Hp->Prop:=fun _ _=>False
 ct:St->Hp->Prop:=fun _ _=>False
abbrev TS:=Ends->St->Hp->Prop
def EP(X:Cx)(pins:List (Addr × Obj))(U:St)(Q:VK)(u:Value)(s':Shared):Prop:=∃ v H',Inv X pins U H' s'/\RelV v u/\Q v H'
def TP(X:Cx)(pins:List (Addr × Obj))(U:St)(Q:Bool->Hp->Prop)(b:Bool)(s':Shared):Prop:=∃ H',Inv X pins U H' s'/\Q b H'
def AP(X:Cx)(pins:List (Addr × Obj))(U:St)(Q:List V->Hp->Prop)(us:List Value)(s':Shared):Prop:=∃ vs H',Inv X pins U H' s'/\Vals vs us/\Q vs H'
def SP(X:Cx)(pins:List (Addr × Obj))(D:Ends)(f:Flow)(s':Shared):Prop:=
 match f with
 | .next=>∃ U' H',Inv X pins U' H' s'/\D.nx U' H'
 | .brk=>∃ U' H',Inv X pins U' H' s'/\D.bk U' H'
 | .cont=>∃ U' H',Inv X pins U' H' s'/\D.ct U' H'
 | .ret u=>∃ v U' H',Inv X pins U' H' s'/\RelV v u/\D.rt v H'
def PE(X:Cx)(e:Expr)(t:TE):Prop:=
 ∀ (pins:List (Addr × Obj)) (s:Shared) (U:St) (H:Hp) (Q:VK),Inv X pins U H s->t U H Q->wpAny (model X.prog X.w) X.A (eval e X.env) (EP X pins U Q) X.xe s
def PT(X:Cx)(e:Expr)(t:TT):Prop:=
 ∀ (pins:List (Addr × Obj)) (s:Shared) (U:St) (H:Hp) (Q:Bool->Hp->Prop),Inv X pins U H s->t U H Q->wpAny (model X.prog X.w) X.A (isTrue e X.env (eval e X.env)) (TP X pins U Q) X.xe s
def PW(X:Cx)(e:Expr)(t:TT):Prop:=
 ∀ (whole:Sem Value) (pins:List (Addr × Obj)) (s:Shared) (U:St) (H:Hp) (Q:Bool->Hp->Prop),Inv X pins U H s->t U H Q->wpAny (model X.prog X.w) X.A (isTrue e X.env whole) (TP X pins U Q) X.xe s
theorem PW.pt(h:PW X e t):PT X e t:=h _
def PA(X:Cx)(es:List Expr)(t:TA):Prop:=
 ∀ (pos:Pos) (pins:List (Addr × Obj)) (s:Shared) (U:St) (H:Hp) (Q:List V->Hp->Prop),Inv X pins U H s->t U H Q->wpAny (model X.prog X.w) X.A (spliced (backTo pos (starEach es X.env))) (AP X pins U Q) X.xe s
def PS(X:Cx)(st:Stmt)(t:TS):Prop:=
 ∀ (pins:List (Addr × Obj)) (s:Shared) (U:St) (H:Hp) (D:Ends),Inv X pins U H s->t D U H->wpAny (model X.prog X.w) X.A (exec st X.env) (SP X pins D) X.xe s
def PSs(X:Cx)(st:List Stmt)(t:TS):Prop:=
 ∀ (pins:List (Addr × Obj)) (s:Shared) (U:St) (H:Hp) (D:Ends),Inv X pins U H s->t D U H->wpAny (model X.prog X.w) X.A (execs st X.env) (SP X pins D) X.xe s
theorem thn{α:Type}{t:Sem α}{Q Q':α->Shared->Prop}(h:wpAny M A t Q E s)(hQ:∀ a s,Q a s->Q' a s):wpAny M A t Q' E s:=wpAny_mono h hQ fun _ _ x=>x
section
variable {X:Cx}
def tVar(i:Nat):TE:=fun U H Q=>∃ v,U[i]?=some (some v)/\Q v H
def tC(v:V):TE:=fun _ H Q=>Q v H
theorem pe_var (hN:X.N[i]?=some x) (hv:Vis X.env.scope x) (hd:(x == ("__debug__":Str))=false:=by decide) (hcd:(x == ("__classdict__":Str))=false:=by decide):PE X (.Name x pos) (tVar i):=by
 intro pins s U H Q I h;obtain ⟨v,e,h⟩:=h;obtain ⟨m,hn,hl⟩:=I.loc;obtain ⟨u,r,l⟩:=hl i x v hN e hv;have fin:EP X pins U Q u s:=⟨v,H,I,r,h⟩;rcases l with⟨hk,hm⟩ | ⟨hk,c,hc,hcell⟩
 ·exact wpAny_Name (wpAny_loadName_local I.ok.kind hk hn hm fin) hd
 ·rcases hk with hk | hk
  ·exact wpAny_Name (wpAny_loadName_cell I.ok.kind hk hc hcell fin) hd
  ·exact wpAny_Name (wpAny_loadName_free I.ok.kind hk hc hcell fin hcd) hd
theorem pe_int{i j pos}:PE X (.Constant (.int i) j pos) (tC (.int i)):=fun _ _ _ H _ I h=>wpAny_Constant_int ⟨.int i,H,I.tok _,⟨_,rfl⟩,h⟩
theorem pe_bl{b j pos}:PE X (.Constant (.bool b) j pos) (tC (.bl b)):=fun _ _ _ H _ I h=>Constant_bool ⟨.bl b,H,I,rfl,h⟩
theorem pe_non{j pos}:PE X (.Constant .none j pos) (tC .non):=fun _ _ _ H _ I h=>Constant_none ⟨.non,H,I,rfl,h⟩
theorem pe_str{x j pos}:PE X (.Constant (.str x) j pos) (tC (.str x)):=fun _ _ _ H _ I h=>Calls.Constant_str ⟨.str x,H,I.tok _,⟨_,rfl⟩,h⟩
def Gl(X:Cx)(x:Str):Prop:=X.env.kindOf x=some .globalImplicit
theorem ld_glob(I:Inv X pins U H s)(hg:Gl X x)(hm:X.mg x=some u)(h:Q u s)
  (hd:(x == ("__debug__":Str))=false:=by decide):wpAny (model X.prog X.w) X.A (eval (.Name x pos) X.env) Q E s:=
 Calls.Name_function_global I.ok.kind hg (Calls.loadGlobal_global (by rw[I.ok.glob];exact I.mod.glob.keeps I.bk) hm h) hd
theorem ld_blt(I:Inv X pins U H s)(hg:Gl X x)(hm:X.mg x=none)(hv:bootBuiltins x=some u)(h:Q u s)
  (hn:x≠"__name__":=by decide) (hd:(x == ("__debug__":Str))=false:=by decide):wpAny (model X.prog X.w) X.A (eval (.Name x pos) X.env) Q E s:=by
 obtain ⟨mb,h1,h2⟩:=I.mod.blt;exact Calls.Name_function_global I.ok.kind hg (Calls.loadGlobal_builtin (by rw[I.ok.glob];exact I.mod.glob.keeps I.bk) hm (by rw[I.ok.blt];exact h1.keeps I.bk) ((h2 x hn).trans hv) h) hd
theorem pe_glob (hg:Gl X x) (hm:X.mg x=some u) (r:RelV v u) (hd:(x == ("__debug__":Str))=false:=by decide):PE X (.Name x pos) (tC v):=
 fun _ _ _ H _ I h=>ld_glob I hg hm ⟨v,H,I,r,h⟩ hd
theorem pe_bltn (hg:Gl X x) (hm:X.mg x=none) (hv:bootBuiltins x=some u) (r:RelV v u) (hn:x≠"__name__":=by decide) (hd:(x == ("__debug__":Str))=false:=by decide):PE X (.Name x pos) (tC v):=
 fun _ _ _ H _ I h=>ld_blt I hg hm hv ⟨v,H,I,r,h⟩ hn hd
variable {a b:Expr}{ta tb:TE}{pos:Pos}
def PC(X:Cx)(op:CmpOp)(a b:Expr)(t:TE):Prop:=
 ∀ (pins:List (Addr × Obj)) (s:Shared) (U:St) (H:Hp) (Q:VK),Inv X pins U H s->t U H Q ->
  wpAny (model X.prog X.w) X.A (eval a X.env) (fun v s₁=>wpAny (model X.prog X.w) X.A (eval b X.env) (fun u s₂=>wpAny (model X.prog X.w) X.A (compareOp op v u) (EP X pins U Q) X.xe s₂) X.xe s₁) X.xe s
theorem qC4(b:Expr)(h:op≠.In)(h2:op≠.NotIn):behindInMarks op b=false:=by
 have e1:(op == CmpOp.In)=false:=by cases op <;> first | rfl | exact absurd rfl h
 have e2:(op == CmpOp.NotIn)=false:=by cases op <;> first | rfl | exact absurd rfl h2
 cases b <;> simp[behindInMarks,e1,e2]
def tIsN(ta:TE):TE:=fun U H Q=>ta U H fun x H1=>Q (.bl (decide (x=.non))) H1
def tNotN(ta:TE):TE:=fun U H Q=>ta U H fun x H1=>Q (.bl (!decide (x=.non))) H1
theorem RelV.none_iff(r:RelV x v):(v == Value.none)=decide (x=.non):=by
 cases x with
 |non=>cases r;rfl
 |bl _=>cases r;rfl
 |int _=>obtain ⟨t,rfl⟩:=r;rfl
 |str _=>obtain ⟨t,rfl⟩:=r;rfl
 |byt _=>obtain ⟨t,rfl⟩:=r;rfl
 |flt _=>obtain ⟨t,rfl⟩:=r;rfl
 |ref _=>cases r;rfl
 |ty _=>cases r;rfl
theorem pc_isN{j pos'}(ha:PE X a ta):PC X .Is a (.Constant .none j pos') (tIsN ta):=by
 intro pins s U H Q I h;refine thn (ha pins s U H _ I h) fun v s1 ⟨x,H1,I1,r1,q1⟩=>?_;exact Constant_none (is_none_gen ⟨.bl _,H1,I1,by rw[r1.none_iff];rfl,q1⟩)
theorem pc_notN{j pos'}(ha:PE X a ta):PC X .IsNot a (.Constant .none j pos') (tNotN ta):=by
 intro pins s U H Q I h;refine thn (ha pins s U H _ I h) fun v s1 ⟨x,H1,I1,r1,q1⟩=>?_;exact Constant_none (isnot_none_gen ⟨.bl _,H1,I1,by rw[r1.none_iff];rfl,q1⟩)
def tB(t:TE):TT:=fun U H Q=>t U H fun x H1=>∃ c,x=.bl c/\Q c H1
theorem pe_cmp(h:PC X op a b t)(h1:behindInMarks op b=false:=by first | exact qC4 _ (by decide) (by decide) | rfl):PE X (.Compare a [op] [b] pos) t:=fun pins s U H Q I hw=>wpAny_Compare1 (h pins s U H Q I hw) h1
theorem pt_cmp(h:PC X op a b t)(h1:behindInMarks op b=false:=by first | exact qC4 _ (by decide) (by decide) | rfl):PT X (.Compare a [op] [b] pos) (tB t):=by
 intro pins s U H Q I hw;refine wpAny_isTrue_Compare1 (thn (h pins s U H _ I hw) fun v s1 h1=>thn h1 fun u s2 h2=>thn h2 fun c s3 ⟨x,H1,I1,r1,q1⟩=>?_) h1;obtain ⟨d,rfl,q⟩:=q1;cases r1;exact wpAny_truthy_bool ⟨H1,I1,q⟩
variable {tA tB':TT}{rest:List Expr}
def qHv(t u:TT):TT:=fun U H Q=>t U H fun c H1=>if c=true then u U H1 Q else Q false H1
def tOr(t u:TT):TT:=fun U H Q=>t U H fun c H1=>if c=true then Q true H1 else u U H1 Q
def qHj(t:TT):TT:=fun U H Q=>t U H fun c H1=>Q (!c) H1
theorem pw_and1(ha:PT X a tA):PW X (.BoolOp .And [a] pos) tA:=by
 intro wh pins s U H Q I h;refine isTrue_and (thn (ha pins s U H Q I h) fun c s1 e=>?_);cases c with
 |true=>exact isTrue_and_nil e
 |false=>exact e
theorem pw_or1(ha:PT X a tA):PW X (.BoolOp .Or [a] pos) tA:=by
 intro wh pins s U H Q I h;refine isTrue_or (thn (ha pins s U H Q I h) fun c s1 e=>?_);cases c with
 |false=>exact isTrue_or_nil e
 |true=>exact e
theorem pw_and(ha:PT X a tA)(hb:PW X (.BoolOp .And (b::rest) pos) tB'):PW X (.BoolOp .And (a::b::rest) pos) (qHv tA tB'):=by
 intro wh pins s U H Q I h;refine isTrue_and (thn (ha pins s U H _ I h) fun c s1 ⟨H1,I1,q1⟩=>?_);cases c with
 |true=>exact hb wh pins s1 U H1 Q I1 q1
 |false=>exact⟨H1,I1,q1⟩
theorem pw_or(ha:PT X a tA)(hb:PW X (.BoolOp .Or (b::rest) pos) tB'):PW X (.BoolOp .Or (a::b::rest) pos) (tOr tA tB'):=by
 intro wh pins s U H Q I h;refine isTrue_or (thn (ha pins s U H _ I h) fun c s1 ⟨H1,I1,q1⟩=>?_);cases c with
 |true=>exact⟨H1,I1,q1⟩
 |false=>exact hb wh pins s1 U H1 Q I1 q1
theorem pt_not(ha:PT X a tA):PT X (.UnaryOp .Not a pos) (qHj tA):=by
 intro pins s U H Q I h;exact isTrue_not (ha pins s U H (fun c H1=>Q (!c) H1) I h)
def qHu(ta tb:TE):TE:=fun U H Q=>ta U H fun x H1=>∃ c,x=.bl c/\if c=true then tb U H1 Q else Q (.bl false) H1
def qHi(ta tb:TE):TE:=fun U H Q=>ta U H fun x H1=>∃ c,x=.bl c/\if c=true then Q (.bl true) H1 else tb U H1 Q
theorem pe_one{op}(h:PE X a t):PE X (.BoolOp op [a] pos) t:=fun pins s U H Q I hw=>BoolOp_one (h pins s U H Q I hw)
theorem pe_and(ha:PE X a ta)(hb:PE X (.BoolOp .And (b::rest) pos) tb):PE X (.BoolOp .And (a::b::rest) pos) (qHu ta tb):=by
 intro pins s U H Q I h;refine BoolOp_and (thn (ha pins s U H _ I h) fun v s1 ⟨x,H1,I1,r1,q1⟩=>?_);obtain ⟨c,rfl,q1⟩:=q1;cases r1;refine wpAny_truthy_bool ?_;cases c with
 |true=>exact hb pins s1 U H1 Q I1 q1
 |false=>exact⟨.bl false,H1,I1,rfl,q1⟩
theorem pe_or(ha:PE X a ta)(hb:PE X (.BoolOp .Or (b::rest) pos) tb):PE X (.BoolOp .Or (a::b::rest) pos) (qHi ta tb):=by
 intro pins s U H Q I h;refine BoolOp_or (thn (ha pins s U H _ I h) fun v s1 ⟨x,H1,I1,r1,q1⟩=>?_);obtain ⟨c,rfl,q1⟩:=q1;cases r1;refine wpAny_truthy_bool ?_;cases c with
 |false=>exact hb pins s1 U H1 Q I1 q1
 |true=>exact⟨.bl true,H1,I1,rfl,q1⟩
def tIf(t:TT)(ta tb:TE):TE:=fun U H Q=>t U H fun c H1=>if c=true then ta U H1 Q else tb U H1 Q
theorem pe_ifExp(hc:PT X c tA)(ha:PE X a ta)(hb:PE X b tb):PE X (.IfExp c a b pos) (tIf tA ta tb):=by
 intro pins s U H Q I h;refine wpAny_IfExp (thn (hc pins s U H _ I h) fun d s1 ⟨H1,I1,q1⟩=>?_);cases d with
 |true=>exact ha pins s1 U H1 Q I1 q1
 |false=>exact hb pins s1 U H1 Q I1 q1
end
def SqL(K:PySem.W.Frag)(H:Hp)(a:Addr)(xs:List V):Prop:=
 Rd H a (.lst xs) \/
  ∃ (o:Obj) (its:Array Value) (n:Nat),K.lookup a=some o/\o.cls=.type "list"/\o.dict=none/\o.data=.seq its n/\its.size<=sizeLine/\Vals xs its.toList
def SqT(K:PySem.W.Frag)(H:Hp)(a:Addr)(xs:List V):Prop:=
 Rd H a (.tup xs) \/
  ∃ (o:Obj) (its:Array Value) (n:Nat),K.lookup a=some o/\o.cls=.type "tuple"/\o.data=.seq its n/\its.size<=sizeLine/\Vals xs its.toList
def qUG:Value->Option V
 | .none=>some .non
 | .bool b=>some (.bl b)
 | .int i _=>some (.int i)
 | .str x _=>some (.str x)
 | .bytes b _=>some (.byt b)
 | .float b _=>some (.flt b)
 | .ref a=>some (.ref a)
 | .type n=>some (.ty n)
 |_=>none
theorem RelV.abs(r:RelV x u):qUG u=some x:=by
 cases x with
 |non=>cases r;rfl
 |bl _=>cases r;rfl
 |int _=>obtain ⟨t,rfl⟩:=r;rfl
 |str _=>obtain ⟨t,rfl⟩:=r;rfl
 |byt _=>obtain ⟨t,rfl⟩:=r;rfl
 |flt _=>obtain ⟨t,rfl⟩:=r;rfl
 |ref _=>cases r;rfl
 |ty _=>cases r;rfl
theorem RelV.inj(r:RelV x u)(q:RelV y u):x=y:=Option.some.inj (r.abs.symm.trans q.abs)
theorem Vals.inj:∀ {xs ys:List V} {us:List Value},Vals xs us->Vals ys us->xs=ys
 |_,_,_,.nil,.nil=>rfl
 |_,_,_,.cons r t,.cons r' t'=>by rw[r.inj r',Vals.inj t t']
section
variable {X:Cx}{pins:List (Addr × Obj)}{U:St}{H:Hp}{s:Shared}{a:Addr}{xs ys:List V}
theorem SqL.of{K:PySem.W.Frag}(h:H a=some (.lst xs)):SqL K H a xs:=.inl (.inl h)
theorem SqT.of{K:PySem.W.Frag}(h:H a=some (.tup xs)):SqT K H a xs:=.inl (.inl h)
theorem Inv.list(I:Inv X pins U H s)(h:SqL X.K H a xs):∃ its:List Value,Vals xs its/\PlainL s.heap a its.toArray/\xs.length<=sizeLine:=by
 rcases h with h | ⟨o,its,n,hk,hc,hd,hs,hz,r⟩
 ·obtain ⟨z,its,n,r,e⟩:=h.ok I.hok
  exact⟨its,r,⟨_,n,e,rfl,rfl,rfl⟩,z⟩
 ·refine⟨its.toList,r,⟨o,n,I.kIn a o hk,hc,hd,by simpa using hs⟩,?_⟩;have e:=r.length;simp only[Array.length_toList] at e
  lia
theorem Inv.tuple(I:Inv X pins U H s)(h:SqT X.K H a xs):∃ its:List Value,Vals xs its/\IsTup s.heap a its.toArray/\xs.length<=sizeLine:=by
 rcases h with h | ⟨o,its,n,hk,hc,hs,hz,r⟩
 ·obtain ⟨z,its,r,p⟩:=h.ok I.hok
  exact⟨its,r,p,z⟩
 ·refine⟨its.toList,r,⟨o,I.kIn a o hk,hc,n,by simpa using hs⟩,?_⟩;have e:=r.length;simp only[Array.length_toList] at e
  lia
theorem Inv.list_inj(I:Inv X pins U H s)(h:SqL X.K H a xs)(h':SqL X.K H a ys):xs=ys:=by
 obtain ⟨its,r,⟨o,n,e,_,_,d⟩,_⟩:=I.list h;obtain ⟨its',r',⟨o',n',e',_,_,d'⟩,_⟩:=I.list h';rw[e] at e';cases e';rw[d] at d';injection d' with d1 _
 have:its=its':=by simpa using congrArg Array.toList d1
 subst this;exact r.inj r'
theorem Inv.tuple_inj(I:Inv X pins U H s)(h:SqT X.K H a xs)(h':SqT X.K H a ys):xs=ys:=by
 obtain ⟨its,r,⟨o,e,_,n,d⟩,_⟩:=I.tuple h;obtain ⟨its',r',⟨o',e',_,n',d'⟩,_⟩:=I.tuple h';rw[e] at e';cases e';rw[d] at d';injection d' with d1 _
 have:its=its':=by simpa using congrArg Array.toList d1
 subst this;exact r.inj r'
end
abbrev Cx.wish(X:Cx)(E:Value->Shared->Prop):Cx:={ X with xe:=E }
abbrev Cx.nox(X:Cx):Cx:=X.wish fun _ _=>False
theorem Cx.Ok.wish{X:Cx}(ok:X.Ok)(E:Value->Shared->Prop):(X.wish E).Ok:=
 ⟨ok.mod,ok.kind,ok.glob,ok.blt,ok.above,ok.inj,ok.has,ok.cab,ok.hd,ok.frames,ok.stk,ok.exf,ok.bs,ok.bsz,ok.noex,ok.exfs,ok.funs,ok.frf⟩
theorem Cx.Ok.unwish{X:Cx}(ok:(X.wish E).Ok):X.Ok:=
 ⟨ok.mod,ok.kind,ok.glob,ok.blt,ok.above,ok.inj,ok.has,ok.cab,ok.hd,ok.frames,ok.stk,ok.exf,ok.bs,ok.bsz,ok.noex,ok.exfs,ok.funs,ok.frf⟩
section
variable {X:Cx}{pins:List (Addr × Obj)}{U:St}{H:Hp}{s:Shared}{E:Value->Shared->Prop}
theorem Inv.wish(I:Inv X pins U H s)(E:Value->Shared->Prop):Inv (X.wish E) pins U H s:=⟨I.ok.wish E,I.os,I.bare,I.base,I.loc,I.cell,I.free,I.freeC,I.pin,I.hok,I.len⟩
theorem Inv.unwish(I:Inv (X.wish E) pins U H s):Inv X pins U H s:=⟨I.ok.unwish,I.os,I.bare,I.base,I.loc,I.cell,I.free,I.freeC,I.pin,I.hok,I.len⟩
theorem SP.unwish(h:SP (X.wish E) pins D f s'):SP X pins D f s':=by
 cases f with
 |next=>obtain ⟨U',H',I,q⟩:=h;exact⟨U',H',I.unwish,q⟩
 |brk=>obtain ⟨U',H',I,q⟩:=h;exact⟨U',H',I.unwish,q⟩
 |cont=>obtain ⟨U',H',I,q⟩:=h;exact⟨U',H',I.unwish,q⟩
 |ret u=>obtain ⟨v,U',H',I,r,q⟩:=h;exact⟨v,U',H',I.unwish,r,q⟩
end
section
variable {X:Cx}{st:Stmt}{rest:List Stmt}{t u:TS}{e:Expr}{te:TE}{pos:Pos}
def qBt:TS:=fun D U H=>D.nx U H
def qHe(t u:TS):TS:=fun D U H=>t { D with nx:=u D } U H
theorem pss_nil:PSs X [] qBt:=fun _ _ U H _ I h=>wpAny_execs_nil ⟨U,H,I,h⟩
theorem pss_cons(h1:PS X st t)(h2:PSs X rest u):PSs X (st::rest) (qHe t u):=by
 intro pins s U H D I h;refine wpAny_execs_cons (thn (h1 pins s U H { D with nx:=u D } I h) fun f s1 q=>?_);cases f with
 |next=>obtain ⟨U',H',I',q⟩:=q;exact h2 pins s1 U' H' D I' q
 |ret v=>exact q
 |brk=>exact q
 |cont=>exact q
theorem pss_one(h1:PS X st t):PSs X [st] t:=by
 intro pins s U H D I h;refine wpAny_execs_cons (thn (h1 pins s U H D I h) fun f s1 q=>?_);cases f with
 |next=>exact wpAny_execs_nil q
 |ret v=>exact q
 |brk=>exact q
 |cont=>exact q
def qHt:TS:=fun D U H=>D.bk U H
def qHs:TS:=fun D U H=>D.ct U H
theorem ps_pass:PS X (.Pass pos) qBt:=fun _ _ U H _ I h=>wpAny_Pass ⟨U,H,I,h⟩
theorem ps_break:PS X (.Break pos) qHt:=fun _ _ U H _ I h=>wpAny_Break ⟨U,H,I,h⟩
theorem ps_continue:PS X (.Continue pos) qHs:=fun _ _ U H _ I h=>wpAny_Continue ⟨U,H,I,h⟩
theorem Inv.quiet(I:Inv X pins U H s):interactive X.env=false:=by simp[interactive,I.ok.kind]
def qHp(te:TE):TS:=fun D U H=>te U H fun _ H1=>D.nx U H1
theorem ps_expr(he:PE X e te)(hs:swapsWith e none pos.line X.env=pure false:=by rfl):PS X (.Expr e pos) (qHp te):=by
 intro pins s U H D I h;exact wpAny_Expr_any (thn (he pins s U H _ I h) fun v s1 ⟨x,H1,I1,r1,q1⟩=>⟨U,H1,I1,q1⟩) I.quiet hs
def qHg(te:TE):TS:=fun D U H=>te U H D.rt
theorem ps_ret(he:PE X e te):PS X (.Return (some e) pos) (qHg te):=by
 intro pins s U H D I h;exact wpAny_Return_some (thn (he pins s U H _ I h) fun v s1 ⟨x,H1,I1,r1,q1⟩=>⟨x,U,H1,I1,r1,q1⟩)
def qHf:TS:=fun D _ H=>D.rt .non H
theorem ps_retN:PS X (.Return none pos) qHf:=fun _ _ U H _ I h=>wpAny_Return_none ⟨.non,U,H,I,rfl,h⟩
def qHm(c:TT)(t u:TS):TS:=fun D U H=>c U H fun b H1=>if b=true then t D U H1 else u D U H1
theorem ps_if(hc:PT X c tc)(ha:PSs X a t)(hb:PSs X b u):PS X (.If c a b pos) (qHm tc t u):=by
 intro pins s U H D I h;refine wpAny_If (thn (hc pins s U H _ I h) fun d s1 ⟨H1,I1,q1⟩=>?_);cases d with
 |true=>exact ha pins s1 U H1 D I1 q1
 |false=>exact hb pins s1 U H1 D I1 q1
end
abbrev TG:=V->St->Hp->(St->Hp->Prop)->Prop
abbrev TGs:=List V->St->Hp->(St->Hp->Prop)->Prop
def PG(X:Cx)(target:Expr)(t:TG):Prop:=
 ∀ (pins:List (Addr × Obj)) (s:Shared) (U:St) (H:Hp) (v:V) (u:Value) (Q:St->Hp->Prop),Inv X pins U H s->RelV v u->t v U H Q ->
  wpAny (model X.prog X.w) X.A (assign target X.env u) (fun _ s'=>∃ U' H',Inv X pins U' H' s'/\Q U' H') X.xe s
abbrev qGg:=V->V->V->Hp->(Hp->Prop)->Prop
def PSet(X:Cx)(t:qGg):Prop:=
 ∀ (pins:List (Addr × Obj)) (s:Shared) (U:St) (H:Hp) (o i v:V) (ov iv u:Value) (Q:Hp->Prop),Inv X pins U H s->RelV o ov->RelV i iv->RelV v u->t o i v H Q ->
  wpAny (model X.prog X.w) X.A (setItem ov iv u) (fun _ s'=>∃ H',Inv X pins U H' s'/\Q H') X.xe s
section
variable {X:Cx}{pos:Pos}
def gName(i:Nat):TG:=fun v U H Q=>Q (U.set i (some v)) H
theorem pg_name(hN:X.N.Nodup)(hi:X.N[i]?=some x)(hx:Loc X.env.scope x)(hf:X.fn x=true\/X.env.scope.names.lookup x=some .local:=by first | exact .inl rfl | exact .inr rfl | assumption):PG X (.Name x pos) (gName i):=by
 intro pins s U H v u Q I r h;exact wpAny_assign_Name (uB I hN hi hx r (fun s' I'=>⟨_,H,I',h⟩) hf)
def gNil:TGs:=fun vs U H Q=>vs=[]/\Q U H
def gCons(t:TG)(u:TGs):TGs:=fun vs U H Q=>∃ v r,vs=v::r/\t v U H fun U' H'=>u r U' H' Q
def gTup(K:PySem.W.Frag)(n:Nat)(t:TGs):TG:=fun v U H Q=>∃ a xs,v=.ref a/\SqT K H a xs/\xs.length=n/\t xs U H Q
def qOp(to ti:TE)(t:qGg):TG:=fun v U H Q=>to U H fun o H1=>ti U H1 fun i H2=>t o i v H2 fun H3=>Q U H3
theorem pg_sub(ho:PE X o to)(hi:PE X i ti)(hs:PSet X t)
  (ha:∀ v,assign (.Subscript o i pos) X.env v=(do
   let ov <- holding [v] (eval o X.env)
   let iv <- holding [v,ov] (eval i X.env)
   standAt pos
   holding [v,ov,iv] (setItem ov iv v)
   release [v,ov,iv] []):=by intro _;rfl):PG X (.Subscript o i pos) (qOp to ti t):=by
 intro pins s U H v u Q I r h;rw[ha];refine wpAny_bind (wpAny_holding (thn (ho pins s U H _ I h) fun ov s1 ⟨x,H1,I1,r1,q1⟩=>?_));refine wpAny_bind (wpAny_holding (thn (hi pins s1 U H1 _ I1 q1) fun iv s2 ⟨y,H2,I2,r2,q2⟩=>?_));refine wpAny_bind (wpAny_standAt (wpAny_bind (wpAny_holding (thn (hs pins s2 U H2 x y v ov iv u _ I2 r1 r2 r q2) fun _ s3 ⟨H3,I3,q3⟩=>?_))));exact wpAny_release ⟨U,H3,I3,q3⟩
def qBu(te:TE)(g:TG):TS:=fun D U H=>te U H fun x H1=>g x U H1 D.nx
theorem ps_asg(he:PE X e te)(hg:PG X tg g)(hs:swapsWithSole [tg] e pos.line X.env=pure false:=by rfl)(hw:swappedStores [tg] e X.env=pure none:=by rfl)
  (h1:(assignEach [tg] X.env).map (·.2)=[assign tg X.env]:=by rfl):PS X (.Assign [tg] e pos) (qBu te g):=by
 intro pins s U H D I h;refine wpAny_Assign_stores (thn (he pins s U H _ I h) fun v s1 ⟨x,H1,I1,r1,q1⟩=>?_) hs hw;rw[h1];exact thn (hg pins s1 U H1 x v _ I1 r1 q1) fun _ s2 q=>q
theorem ps_set(hN:X.N.Nodup)(hi:X.N[i]?=some x)(hx:Loc X.env.scope x)(he:PE X e te)(hs:swapsWith e (some (.Name x pos')) pos.line X.env=pure false:=by rfl)(hf:X.fn x=true\/X.env.scope.names.lookup x=some .local:=by first | exact .inl rfl | exact .inr rfl | assumption) :
  PS X (.Assign [.Name x pos'] e pos) (qBu te (gName i)):=by
 intro pins s U H D I h;refine wpAny_Assign_Name (thn (he pins s U H _ I h) fun v s1 ⟨y,H1,I1,r1,q1⟩=>?_) hs;exact uB I1 hN hi hx r1 (fun s2 I2=>⟨_,H1,I2,q1⟩) hf
end
section
variable {X:Cx}{pos:Pos}
def qHc(c:TT)(tb:TS):TS:=fun D U H=>∃ W:Nat->St->Hp->Prop,(∃ m,W m U H)/\∀ m U H,W m U H ->
 c U H fun b H1=>if b=true then ∃ N:St->Hp->Prop,(∀ U' H',N U' H'->∃ m',m'<m/\W m' U' H')/\tb { D with nx:=N,ct:=N,bk:=D.nx } U H1 else D.nx U H1
theorem ps_while(hp:PassesOwn (model X.prog X.w) X.A X.env X.xe)(hc:PT X c tc)(hb:PSs X body tb):PS X (.While c body [] pos) (qHc tc tb):=by
 intro pins s U H D I h;obtain ⟨W,⟨m0,w0⟩,turn⟩:=h;refine wpAny_While (codeAny_whileLoop (fun n s'=>∃ U' H',Inv X pins U' H' s'/\W n U' H') ?_ m0 ⟨U,H,I,w0⟩)
 rintro n s1 ⟨U1,H1,I1,w1⟩
 refine wpAny_passesOwn hp (thn (hc pins s1 U1 H1 _ I1 (turn n U1 H1 w1)) fun b s2 ⟨H2,I2,q2⟩=>?_);cases b with
 |true=>
  obtain ⟨N,hN,q2⟩:=q2;rw[if_pos rfl];refine wpAny_passesOwn hp (thn (hb pins s2 U1 H2 _ I2 q2) fun f s3 q3=>?_);cases f with
  |next=>
   obtain ⟨U3,H3,I3,n3⟩:=q3;obtain ⟨m',hm,w3⟩:=hN U3 H3 n3
   exact⟨m',hm,U3,H3,I3,w3⟩
  |cont=>
   obtain ⟨U3,H3,I3,n3⟩:=q3;obtain ⟨m',hm,w3⟩:=hN U3 H3 n3
   exact⟨m',hm,U3,H3,I3,w3⟩
  |brk=>exact q3
  |ret v=>exact q3
 |false=>rw[if_neg Bool.false_ne_true];exact wpAny_execs_nil ⟨U1,H2,I2,q2⟩
end
structure It where
 go:Nat->Hp->Prop
 yld:Nat->Hp->V->Hp->Prop
 stop:Nat->Hp->Prop
def qS(X:Cx)(pins:List (Addr × Obj))(H:Hp)(b:Addr):Prop:=
 H b=none/\b≠X.env.locals/\b∉X.fs/\(b∈X.ex\/X.s₀.heap.objs.size<=b)/\(∀ x c,X.env.cells.lookup x=some c->c≠b)/\∀ p∈X.pn++pins,p.1≠b
theorem Inv.fpOk(I:Inv X pins U H s)(hb:s.heap.objs.size<=b)(hn:H' b=none):qS X pins H' b:=by
 refine⟨hn,Nat.ne_of_gt (Nat.lt_of_lt_of_le I.lt hb),I.nofs hb,.inr (Nat.le_trans I.sz hb),fun x c e z=>?_,fun p hp z=>?_⟩
 ·obtain ⟨v,q⟩:=I.cell x c e;exact absurd (Nat.lt_of_lt_of_le q.lt (by rw[z];exact hb)) (Nat.lt_irrefl _)
 ·exact absurd (Nat.lt_of_lt_of_le (Heap.lt_size (I.pin p hp).1) (by rw[z];exact hb)) (Nat.lt_irrefl _)
structure Turn (P:Program) (w:World) (K:PySem.W.Frag) (tg:Expr) (J:It) (fp:List Addr) (it:Addr) (tn:Nat->Heap->Prop):Prop where
 mem:it∈fp
 obj:∀ i h,tn i h->∀ b∈fp,∃ o,h.get? b=some o/\∀ v,o.data≠.cell v
 keep:∀ i h h',tn i h->(∀ b∈fp,∀ o,h.get? b=some o->h'.get? b=some o)->tn i h'
 item:∀ (X:Cx),X.prog=P->X.w=w->X.K=K->X.calm=true->∀ (i:Nat) (pins:List (Addr × Obj)) (s:Shared) (U:St) (H:Hp) (E:Value->Shared->Prop),Inv X pins U H s->(∀ b∈fp,qS X pins H b)->tn i s.heap->J.go i H ->
  wpAny (model P w) X.A (pyNext (.ref it)) (fun r s1=>∃ u,r=some u /\
   wpAny (model P w) X.A (letOwnedTupleGo tg (.ref it) u) (fun _ s2=>∃ x H',Inv X pins U H' s2/\RelV x u/\J.yld i H x H'/\tn (i+1) s2.heap/\∀ b∈fp,H' b=none) E s1) E s
 done:∀ (X:Cx),X.prog=P->X.w=w->X.K=K->X.calm=true->∀ (i:Nat) (pins:List (Addr × Obj)) (s:Shared) (U:St) (H:Hp) (E:Value->Shared->Prop),Inv X pins U H s->(∀ b∈fp,qS X pins H b)->tn i s.heap->J.stop i H ->
  wpAny (model P w) X.A (pyNext (.ref it)) (fun r s1=>r=none/\Inv X pins U H s1) E s
 self:∀ (A:Around) (i:Nat) (s:Shared) (Q:Value->Shared->Prop) (E:Value->Shared->Prop),tn i s.heap->Q (.ref it) s->wpAny (model P w) A (pyIter (.ref it)) Q E s
abbrev TI:=St->Hp->(It->Hp->Prop)->Prop
def PIE(X:Cx)(pins:List (Addr × Obj))(U:St)(tg:Expr)(R:It->Hp->Prop)(itv:Value)(s2:Shared):Prop:=
 ∃ (it:Addr) (fp:List Addr) (tn:Nat->Heap->Prop) (J:It) (H':Hp),itv=.ref it/\Inv X pins U H' s2/\Turn X.prog X.w X.K tg J fp it tn/\tn 0 s2.heap/\(∀ b∈fp,qS X pins H' b)/\R J H'
def PI(X:Cx)(tg iter:Expr)(wi:TI):Prop:=
 ∀ (pins:List (Addr × Obj)) (s:Shared) (U:St) (H:Hp) (R:It->Hp->Prop),Inv X pins U H s->wi U H R ->
  wpAny (model X.prog X.w) X.A (eval iter X.env) (fun v s1=>wpAny (model X.prog X.w) X.A (pyIter v) (PIE X pins U tg R) X.xe s1) X.xe s
theorem go_of(ho:s.heap.get? it=some o)(hc:o.cls=.type n)(hd:o.data=.fields vs)
    (hn:["enumerate","zip","dict_itemiterator","dict_reverseitemiterator","odict_iterator","itertools.zip_longest","itertools.pairwise"].contains n=false) (hQ:Q () s):wpAny M A (letOwnedTupleGo tg (.ref it) u) Q E s:=by
  unfold letOwnedTupleGo
  cases tg <;> first
    |exact wpAny_pure hQ
    | (cases u <;> first
        |exact wpAny_pure hQ
        | (refine wpAny_bind (wpAny_load ho ?_)
           rw[hc,hd];show wpAny M A (if (["enumerate","zip","dict_itemiterator","dict_reverseitemiterator","odict_iterator","itertools.zip_longest","itertools.pairwise"].contains n&&vs[0]? == some (rawInt _))=true then _ else _) Q E s;rw[if_neg (by intro h;rw[hn,Bool.false_and] at h;cases h)]
           exact wpAny_pure hQ))
def Itl(K:PySem.W.Frag)(a:Addr):It:=
 ⟨fun i H=>∃ xs x,SqL K H a xs/\xs[i]?=some x,fun i H x H'=>H'=H/\∀ xs,SqL K H a xs->xs[i]?=some x,fun i H=>∃ xs,SqL K H a xs/\xs.length<=i⟩
def Itt(K:PySem.W.Frag)(a:Addr):It:=
 ⟨fun i H=>∃ xs x,SqT K H a xs/\xs[i]?=some x,fun i H x H'=>H'=H/\∀ xs,SqT K H a xs->xs[i]?=some x,fun i H=>∃ xs,SqT K H a xs/\xs.length<=i⟩
def Itr(lo:Int)(n:Nat):It:=⟨fun i _=>i<n,fun i H x H'=>H'=H/\x=.int (lo+i),fun i _=>n<=i⟩
theorem turn_list{P:Program}{w:World}{K:PySem.W.Frag}{tg:Expr}(a it:Addr):Turn P w K tg (Itl K a) [it] it (fun i h=>h.IsListIter it a i) where
 mem:=by simp
 obj:=fun i h st b hb=>by
  have e:b=it:=by simpa using hb
  subst e;obtain ⟨o,e,c,d⟩:=st
  exact⟨o,e,fun v z=>by rw[d] at z;cases z⟩
 keep:=fun i h h' st k=>st.at fun o e=>k it (by simp) o e
 item:=by
  intro X hP hw hK hc i pins s U H E I hf st hg;subst hP hw hK;obtain ⟨xs,x,hq,hx⟩:=hg;obtain ⟨its,rv,p,hz⟩:=I.list hq;obtain ⟨u,hu,ru⟩:=rv.get hx;obtain ⟨f0,f1,f2,f3,f4,f5⟩:=hf it (by simp);refine wpAny_pyNext_list_item st p.isList (x:=u) (by simpa using hu) fun h' st' sb=>?_;have I1:Inv X pins U H { s with heap:=h' }:=I.turned (t':=s.toks) (fun b o hb e=>(sb.2 b hb).trans e) f0 f1 f3 f4 f5;obtain ⟨o,e,c,d⟩:=id st'
  exact⟨u,rfl,go_of (s:={ s with heap:=h' }) e c d (by decide) ⟨x,H,I1,ru,⟨rfl,fun ys hy=>by rw[I.list_inj hy hq];exact hx⟩,st',fun b hb=>(hf b hb).1⟩⟩
 done:=by
  intro X hP hw hK hc i pins s U H E I hf st hg;subst hP hw hK;obtain ⟨xs,hq,hx⟩:=hg;obtain ⟨its,rv,p,hz⟩:=I.list hq;obtain ⟨f0,f1,f2,f3,f4,f5⟩:=hf it (by simp);have hl:=rv.length;exact wpAny_pyNext_list_end (I.ok.hd hc) st p.isList (by simp;lia) fun h' eb=>⟨rfl,I.turned (t':=s.toks) (fun b o hb e=>eb b o hb e) f0 f1 f3 f4 f5⟩
 self:=fun _ _ _ _ _ st h=>wpAny_pyIter_listiter st h
theorem turn_tuple{P:Program}{w:World}{K:PySem.W.Frag}{tg:Expr}(a it:Addr):Turn P w K tg (Itt K a) [it] it (fun i h=>h.IsTupleIter it a i) where
 mem:=by simp
 obj:=fun i h st b hb=>by
  have e:b=it:=by simpa using hb
  subst e;obtain ⟨o,e,c,d⟩:=st
  exact⟨o,e,fun v z=>by rw[d] at z;cases z⟩
 keep:=fun i h h' st k=>st.at fun o e=>k it (by simp) o e
 item:=by
  intro X hP hw hK hc i pins s U H E I hf st hg;subst hP hw hK;obtain ⟨xs,x,hq,hx⟩:=hg;obtain ⟨its,rv,p,hz⟩:=I.tuple hq;obtain ⟨u,hu,ru⟩:=rv.get hx;obtain ⟨f0,f1,f2,f3,f4,f5⟩:=hf it (by simp);refine wpAny_pyNext_tuple_item st (show s.heap.IsTuple a its.toArray from p) (x:=u) (by simpa using hu) fun h' st' sb=>?_;have I1:Inv X pins U H { s with heap:=h' }:=I.turned (t':=s.toks) (fun b o hb e=>(sb.2 b hb).trans e) f0 f1 f3 f4 f5;obtain ⟨o,e,c,d⟩:=id st'
  exact⟨u,rfl,go_of (s:={ s with heap:=h' }) e c d (by decide) ⟨x,H,I1,ru,⟨rfl,fun ys hy=>by rw[I.tuple_inj hy hq];exact hx⟩,st',fun b hb=>(hf b hb).1⟩⟩
 done:=by
  intro X hP hw hK hc i pins s U H E I hf st hg;subst hP hw hK;obtain ⟨xs,hq,hx⟩:=hg;obtain ⟨its,rv,p,hz⟩:=I.tuple hq;obtain ⟨f0,f1,f2,f3,f4,f5⟩:=hf it (by simp);have hl:=rv.length;exact wpAny_pyNext_tuple_end (I.ok.hd hc) st (show s.heap.IsTuple a its.toArray from p) (by simp;lia) fun h' eb=>⟨rfl,I.turned (t':=s.toks) (fun b o hb e=>eb b o hb e) f0 f1 f3 f4 f5⟩
 self:=fun _ _ _ _ _ st h=>wpAny_pyIter_tupleiter st h
theorem qHM{P:Program}{w:World}{K:PySem.W.Frag}{tg:Expr}(it:Addr)(lo:Int)(n:Nat):Turn P w K tg (Itr lo n) [it] it (fun i h=>IsRangeIter h it (lo+(i:Nat)*1) ((n:Int)-(i:Nat)) 1) where
 mem:=by simp
 obj:=fun i h st b hb=>by
  have e:b=it:=by simpa using hb
  subst e
  exact⟨_,st,fun v z=>by
   have z':Data.fields _=Data.cell v:=z
   cases z'⟩
 keep:=fun i h h' st k=>k it (by simp) _ st
 item:=by
  intro X hP hw hK hc i pins s U H E I hf st hg;subst hP hw hK;obtain ⟨f0,f1,f2,f3,f4,f5⟩:=hf it (by simp);have W:=Walks.range (prog:=X.prog) (w:=X.w) (I.ok.hd hc) it lo 1 n;refine W.item i s _ _ hg st fun v h' tk hv st' kk=>?_;obtain ⟨t,rfl⟩:=hv;have I1:Inv X pins U H { s with heap:=h',toks:=tk }:=I.turned (fun b o hb e=>kk b o (by simpa using hb) e) f0 f1 f3 f4 f5;refine⟨_,rfl,go_of (s:={ s with heap:=h',toks:=tk }) (n:="range_iterator") st' rfl rfl (by decide) ⟨.int (lo+i),H,I1,⟨t,?_⟩,⟨rfl,rfl⟩,st',fun b hb=>(hf b hb).1⟩⟩;rw[Int.mul_one]
 done:=by
  intro X hP hw hK hc i pins s U H E I hf st hg;subst hP hw hK;obtain ⟨f0,f1,f2,f3,f4,f5⟩:=hf it (by simp);exact wpAny_pyNext_range_end (I.ok.hd hc) st (by have:n<=i:=hg;lia) fun h' eb=>⟨rfl,I.turned (t':=s.toks) (fun b o hb e=>eb b o hb e) f0 f1 f3 f4 f5⟩
 self:=fun _ _ _ _ _ st h=>wpAny_pyIter_rangeiter st h
section
variable {X:Cx}{tg:Expr}
theorem qCd{lo:Int}(I:Inv X pins U H s)(h1:-(2 ^ 62)<=lo)(h2:lo<2 ^ 62)(h3:-(2 ^ 62)<=hi)(h4:hi<2 ^ 62)
  (q:R (Itr lo (hi-lo).toNat) H):wpAny (model X.prog X.w) X.A (pyIter (.ref s.heap.objs.size)) (PIE X pins U tg R) E { s with heap:=s.heap.push { cls:=.type "range",data:=.fields #[.int lo t,.int hi u,.int 1 v] },toks:=tk }:=by
 refine wpAny_pyIter_range (IsRange.new ..) (small_one h1 h2 h3 h4) ?_;have I1:Inv X pins U H { s with heap:=s.heap.push { cls:=.type "range",data:=.fields #[.int lo t,.int hi u,.int 1 v] },toks:=tk }:=I.kept fun b o e=>Heap.get?_push_of_some _ e
 refine⟨(s.heap.push { cls:=.type "range",data:=.fields #[.int lo t,.int hi u,.int 1 v] }).objs.size,[(s.heap.push { cls:=.type "range",data:=.fields #[.int lo t,.int hi u,.int 1 v] }).objs.size],_,_,H,rfl,
  I1.kept (t':=tk) fun b o e=>Heap.get?_push_of_some _ e,qHM _ lo (hi-lo).toNat,?_,fun b hb=>?_,q⟩
 ·have e1:lo+((0:Nat):Int)*1=lo:=by simp
  have e2:(((hi-lo).toNat:Nat):Int)-((0:Nat):Int)=Builtin.Range.rangeSize lo hi 1:=by rw[rangeSize_one];split <;> lia
  show IsRangeIter _ _ (lo+((0:Nat):Int)*1) ((((hi-lo).toNat:Nat):Int)-((0:Nat):Int)) 1;rw[e1,e2];exact Heap.get?_push_size _ rfl
 ·have e:b=(s.heap.push { cls:=.type "range",data:=.fields #[.int lo t,.int hi u,.int 1 v] }).objs.size:=by simpa using hb
  subst e;exact I1.fpOk (Nat.le_refl _) (I1.hok.fresh (Nat.le_refl _))
def qOG(ta:TA):TI:=fun U H R=>ta U H fun vs H1=>∃ j:Int,vs=[.int j]/\-(2 ^ 62)<=j/\j<2 ^ 62/\R (Itr 0 j.toNat) H1
def qOF(ta:TA):TI:=fun U H R=>ta U H fun vs H1=>∃ i j:Int,vs=[.int i,.int j]/\(-(2 ^ 62)<=i/\i<2 ^ 62/\-(2 ^ 62)<=j/\j<2 ^ 62)/\R (Itr i (j-i).toNat) H1
theorem pi_range1 (hg:Gl X "range") (hm:X.mg "range"=none) (ha:PA X [a] ta) (hs:starEach [a] X.env=[(false,eval a X.env)]:=by rfl):PI X tg (.Call (.Name "range" p) [a] [] pos) (qOG ta):=by
 intro pins s U H R I h;refine Call_ (ld_blt I hg hm boot_range (PyProof.Rows.callWith_type1 (thn (ha pos pins s U H _ I h) fun us s1 ⟨vs,H1,I1,r1,q1⟩=>?_) hs rfl));obtain ⟨j,e,q1,q2,q⟩:=q1;subst e;cases r1 with
 |cons r rr=>cases rr;obtain ⟨t,rfl⟩:=r;exact call_range_1 (qCd I1 (by lia) (by lia) q1 q2 (by simpa using q))
theorem pi_range2 (hg:Gl X "range") (hm:X.mg "range"=none) (ha:PA X [a,b] ta) (hs:starEach [a,b] X.env=[(false,eval a X.env),(false,eval b X.env)]:=by rfl) (hs2:starEach [b] X.env=[(false,eval b X.env)]:=by rfl) :
  PI X tg (.Call (.Name "range" p) [a,b] [] pos) (qOF ta):=by
 intro pins s U H R I h;refine Call_ (ld_blt I hg hm boot_range (PyProof.Rows.callWith_type1 (thn (ha pos pins s U H _ I h) fun us s1 ⟨vs,H1,I1,r1,q1⟩=>?_) (by rw[hs,hs2]) (by rw[hs2];rfl)));obtain ⟨i,j,e,⟨q1,q2,q3,q4⟩,q⟩:=q1;subst e;cases r1 with
 |cons r rr=>
  cases rr with
  |cons r' rr=>cases rr;obtain ⟨t,rfl⟩:=r;obtain ⟨t',rfl⟩:=r';exact call_range_2 (qCd I1 q1 q2 q3 q4 q)
def qHn(wi:TI)(g:TG)(tb:TS):TS:=fun D U H=>wi U H fun J H1=>∃ W:Nat->Nat->St->Hp->Prop,(∃ m,W 0 m U H1)/\∀ i m U H,W i m U H ->
 (J.stop i H/\D.nx U H)\/(J.go i H/\∃ N:St->Hp->Prop,(∀ U' H',N U' H'->∃ m',m'<m/\W (i+1) m' U' H')/\∀ x H',J.yld i H x H'->g x U H' fun U2 H2=>tb { D with nx:=N,ct:=N,bk:=D.nx } U2 H2)
def pinsAt(fp:List Addr)(h:Heap):List (Addr × Obj):=fp.filterMap fun b=>(h.get? b).map fun o=>(b,o)
theorem mem_pinsAt(hb:b∈fp)(e:h.get? b=some o):(b,o)∈pinsAt fp h:=List.mem_filterMap.mpr ⟨b,hb,by rw[e];rfl⟩
theorem qJa(hp:p∈pinsAt fp h):p.1∈fp/\h.get? p.1=some p.2:=by
 obtain ⟨b,hb,e⟩:=List.mem_filterMap.mp hp;cases q:h.get? b with
 |none=>rw[q] at e;cases e
 |some o=>
  rw[q] at e;have e':(b,o)=p:=Option.some.inj e;subst e'
  exact⟨hb,q⟩
theorem Inv.pinned(I:Inv X pins U H s)(hf:∀ b∈fp,qS X pins H b)(ho:∀ b∈fp,∃ o,s.heap.get? b=some o/\∀ v,o.data≠.cell v):Inv X (pins++pinsAt fp s.heap) U H s:=
 I.pins_of fun p hp=>(List.mem_append.mp hp).elim (fun z=>I.pin p (List.mem_append_right _ z)) fun z=>by
  obtain ⟨hb,e⟩:=qJa z;obtain ⟨f0,f1,f2,_⟩:=hf p.1 hb;obtain ⟨o,e',d⟩:=ho p.1 hb;rw[e] at e';cases e'
  exact⟨e,f0,f1,f2,d⟩
theorem Inv.unpinned(I:Inv X (pins++pl) U H s):Inv X pins U H s:=I.pins_of fun p hp=>I.pin p (List.mem_append_right _ (List.mem_append_left _ hp))
theorem ps_for(hp:PassesOwn (model X.prog X.w) X.A X.env X.xe)(hc:X.calm=true)(hi:PI X tg iter wi)(hg:PG X tg g)(hb:PSs X body tb)
  (hs:∀ x,foldedSetIterable iter X.env x=pure x:=by intro _;rfl):PS X (.For tg iter body [] pos) (qHn wi g tb):=by
 intro pins s U H D I h;refine wpAny_For (thn (hi pins s U H _ I h) fun v s1 h1=>thn h1 fun itv s2 h2=>?_) hs;obtain ⟨it,fp,tn,J,H2,e,I2,T,st2,f2,W,⟨m0,w0⟩,turn⟩:=h2;subst e;have stat:∀ {H':Hp},(∀ b∈fp,H' b=none)->∀ b∈fp,qS X pins H' b:=fun hn b hb=>⟨hn b hb,(f2 b hb).2⟩;refine codeAny_forLoop_any (fun n s'=>∃ i U' H',Inv X pins U' H' s'/\tn i s'.heap/\(∀ b∈fp,H' b=none)/\W i n U' H') ?_ m0 ⟨0,U,H2,I2,st2,fun b hb=>(f2 b hb).1,w0⟩
 rintro n s3 ⟨i,U3,H3,I3,st3,fr3,w3⟩
 rcases turn i n U3 H3 w3 with⟨stop,qn⟩ | ⟨go,N,hN,step⟩
 ·refine wpAny_passesOwn hp (thn (T.done X rfl rfl rfl hc i pins s3 U3 H3 X.xe I3 (stat fr3) st3 stop) fun r s4 ⟨hr,I4⟩=>?_);subst hr;exact wpAny_execs_nil ⟨U3,H3,I4,qn⟩
 ·refine wpAny_passesOwn hp (thn (T.item X rfl rfl rfl hc i pins s3 U3 H3 X.xe I3 (stat fr3) st3 go) fun r s4 ⟨u,hr,h4⟩=>?_);subst hr;refine wpAny_passesOwn hp (thn h4 fun _ s5 ⟨x,H5,I5,r5,y5,st5,fr5⟩=>?_);have I5':=I5.pinned (stat fr5) (T.obj _ _ st5);refine wpAny_passesOwn hp (thn (hg _ s5 U3 H5 x u _ I5' r5 (step x H5 y5)) fun _ s6 ⟨U6,H6,I6,q6⟩=>?_);refine wpAny_passesOwn hp (thn (hb _ s6 U6 H6 _ I6 q6) fun f s7 q7=>?_)
  have again:∀ {U7:St} {H7:Hp},Inv X (pins++pinsAt fp s5.heap) U7 H7 s7->N U7 H7->∃ m,m<n/\∃ i U' H',Inv X pins U' H' s7/\tn i s7.heap/\(∀ b∈fp,H' b=none)/\W i m U' H':=fun {U7 H7} I7 n7=>by
   obtain ⟨m',hm,w7⟩:=hN U7 H7 n7;refine⟨m',hm,i+1,U7,H7,I7.unpinned,T.keep _ _ _ st5 fun b hb o e=>(I7.pin (b,o) (List.mem_append_right _ (List.mem_append_right _ (mem_pinsAt hb e)))).1,fun b hb=>?_,w7⟩;obtain ⟨o,e,d⟩:=T.obj _ _ st5 b hb;exact (I7.pin (b,o) (List.mem_append_right _ (List.mem_append_right _ (mem_pinsAt hb e)))).2.1
  cases f with
  |next=>obtain ⟨U7,H7,I7,n7⟩:=q7;exact again I7 n7
  |cont=>obtain ⟨U7,H7,I7,n7⟩:=q7;exact again I7 n7
  |brk=>obtain ⟨U7,H7,I7,q7⟩:=q7;exact⟨U7,H7,I7.unpinned,q7⟩
  |ret v=>obtain ⟨x7,U7,H7,I7,r7,q7⟩:=q7;exact⟨x7,U7,H7,I7.unpinned,r7,q7⟩
end
abbrev R2:=V->V->Hp->VK->Prop
def OpR(X:Cx)(f:Value->Value->Sem Value)(r:R2):Prop:=
 ∀ (pins:List (Addr × Obj)) (s:Shared) (U:St) (H:Hp) (x y:V) (v u:Value) (Q:VK),Inv X pins U H s->RelV x v->RelV y u->r x y H Q ->
  wpAny (model X.prog X.w) X.A (f v u) (EP X pins U Q) X.xe s
def UnR(X:Cx)(f:Value->Sem Value)(r:V->Hp->VK->Prop):Prop:=
 ∀ (pins:List (Addr × Obj)) (s:Shared) (U:St) (H:Hp) (x:V) (v:Value) (Q:VK),Inv X pins U H s->RelV x v->r x H Q ->
  wpAny (model X.prog X.w) X.A (f v) (EP X pins U Q) X.xe s
def qN(X:Cx)(f:Value)(r:List V->Hp->VK->Prop):Prop:=
 ∀ (pins:List (Addr × Obj)) (s:Shared) (U:St) (H:Hp) (xs:List V) (us:List Value) (Q:VK),Inv X pins U H s->Vals xs us->r xs H Q ->
  wpAny (model X.prog X.w) X.A (call f us) (EP X pins U Q) X.xe s
def qUH(X:Cx)(r:V->Hp->(Bool->Hp->Prop)->Prop):Prop:=
 ∀ (pins:List (Addr × Obj)) (s:Shared) (U:St) (H:Hp) (x:V) (v:Value) (Q:Bool->Hp->Prop),Inv X pins U H s->RelV x v->r x H Q ->
  wpAny (model X.prog X.w) X.A (truthy v) (TP X pins U Q) X.xe s
def tOp(r:R2)(ta tb:TE):TE:=fun U H Q=>ta U H fun x H1=>tb U H1 fun y H2=>r x y H2 Q
def tUn(r:V->Hp->VK->Prop)(ta:TE):TE:=fun U H Q=>ta U H fun x H1=>r x H1 Q
def rI(C:Int->Int->Prop)(g:Int->Int->V):R2:=fun x y H Q=>∃ i j,x=.int i/\y=.int j/\C i j/\Q (g i j) H
def rI0(g:Int->Int->V):R2:=fun x y H Q=>∃ i j,x=.int i/\y=.int j/\Q (g i j) H
def rU(g:Int->V):V->Hp->VK->Prop:=fun x H Q=>∃ i,x=.int i/\Q (g i) H
section
variable {X:Cx}{a b c:Expr}{ta tb tc:TE}{pos:Pos}
theorem sQ(ha:PE X a ta)(hb:PE X b tb){R:V->V->Hp->Prop}(I:Inv X pins U H s)
  (h:ta U H fun x H1=>tb U H1 fun y H2=>R x y H2) {f:Value->Value->Sem Value}
  (hf:∀ v u s2 x y H2,Inv X pins U H2 s2->RelV x v->RelV y u->R x y H2->wpAny (model X.prog X.w) X.A (f v u) Q X.xe s2) :
  wpAny (model X.prog X.w) X.A (eval a X.env) (fun v s₁=>wpAny (model X.prog X.w) X.A (eval b X.env) (fun u s₂=>wpAny (model X.prog X.w) X.A (f v u) Q X.xe s₂) X.xe s₁) X.xe s:=by
 refine thn (ha pins s U H _ I h) fun v s1 ⟨x,H1,I1,r1,q1⟩=>?_;refine thn (hb pins s1 U H1 _ I1 q1) fun u s2 ⟨y,H2,I2,r2,q2⟩=>?_;exact hf v u s2 x y H2 I2 r1 r2 q2
theorem pe_op(ho:OpR X (binaryOp op) r)(ha:PE X a ta)(hb:PE X b tb):PE X (.BinOp a op b pos) (tOp r ta tb):=by
 intro pins s U H Q I h;exact wpAny_BinOp (sQ ha hb I h fun v u s2 x y H2 I2 rx ry q=>ho pins s2 U H2 x y v u Q I2 rx ry q)
theorem pe_un(ho:UnR X (unaryOp op) r)(ha:PE X a ta):PE X (.UnaryOp op a pos) (tUn r ta):=by
 intro pins s U H Q I h;exact UnaryOp_ (thn (ha pins s U H _ I h) fun v s1 ⟨x,H1,I1,r1,q1⟩=>ho pins s1 U H1 x v Q I1 r1 q1)
theorem opI{g:Int->Int->Int}
  (rule:∀ (i j:Int) (t u:Tok) (s:Shared) (Q:Value->Shared->Prop) (E:Value->Shared->Prop),C i j->Q (.int (g i j) s.toks) { s with toks:=s.toks+1 }->wpAny (model X.prog X.w) X.A (f (.int i t) (.int j u)) Q E s) :
  OpR X f (rI C fun i j=>.int (g i j)):=by
 intro pins s U H x y v u Q I rx ry h;obtain ⟨i,j,rfl,rfl,hc,q⟩:=h;obtain ⟨t,rfl⟩:=rx;obtain ⟨t',rfl⟩:=ry;exact rule i j t t' s _ _ hc ⟨.int (g i j),H,I.tok _,⟨_,rfl⟩,q⟩
theorem qCw{g:Int->Int->Int}
  (rule:∀ (i j:Int) (t u:Tok) (s:Shared) (Q:Value->Shared->Prop) (E:Value->Shared->Prop),Q (.int (g i j) s.toks) { s with toks:=s.toks+1 }->wpAny (model X.prog X.w) X.A (f (.int i t) (.int j u)) Q E s) :
  OpR X f (rI0 fun i j=>.int (g i j)):=by
 intro pins s U H x y v u Q I rx ry h;obtain ⟨i,j,rfl,rfl,q⟩:=h;obtain ⟨t,rfl⟩:=rx;obtain ⟨t',rfl⟩:=ry;exact rule i j t t' s _ _ ⟨.int (g i j),H,I.tok _,⟨_,rfl⟩,q⟩
theorem cL{g:Int->Int->Bool}
  (rule:∀ (i j:Int) (t u:Tok) (s:Shared) (Q:Value->Shared->Prop) (E:Value->Shared->Prop),Q (.bool (g i j)) s->wpAny (model X.prog X.w) X.A (f (.int i t) (.int j u)) Q E s) :
  OpR X f (rI0 fun i j=>.bl (g i j)):=by
 intro pins s U H x y v u Q I rx ry h;obtain ⟨i,j,rfl,rfl,q⟩:=h;obtain ⟨t,rfl⟩:=rx;obtain ⟨t',rfl⟩:=ry;exact rule i j t t' s _ _ ⟨.bl (g i j),H,I,rfl,q⟩
def qUK(i j:Int):Prop:=0<j/\j<1073741824
def CMul(i j:Int):Prop:=(-(2 ^ 64)<i/\i<2 ^ 64)\/(-(2 ^ 64)<j/\j<2 ^ 64)
theorem CMul.ok(h:CMul i j):IntMulOk i j:=by
 rcases h with⟨h1,h2⟩ | ⟨h1,h2⟩
 ·exact .of_left (intBits_le_64 h1 h2)
 ·exact .of_right (intBits_le_64 h1 h2)
theorem op_add:OpR X (binaryOp .Add) (rI0 fun i j=>.int (i+j)):=qCw fun _ _ _ _ _ _ _ q=>add_int q
theorem op_sub:OpR X (binaryOp .Sub) (rI0 fun i j=>.int (i-j)):=qCw fun _ _ _ _ _ _ _ q=>sub_int q
theorem op_mul:OpR X (binaryOp .Mult) (rI CMul fun i j=>.int (i*j)):=opI fun _ _ _ _ _ _ _ hc q=>mul_int q hc.ok
theorem op_fdiv:OpR X (binaryOp .FloorDiv) (rI qUK fun i j=>.int (i / j)):=opI fun i j _ _ _ _ _ hc q=>by
 have h1:(0:Int)<j:=hc.1;have h2:j<1073741824:=hc.2;exact floordiv_int (by lia) (by rw[Int.fdiv_eq_ediv_of_nonneg i (by lia)];exact q) (.inl (PyProof.noPylong_small (by lia)))
theorem op_mod:OpR X (binaryOp .Mod) (rI (fun _ j=>0<j) fun i j=>.int (i % j)):=opI fun i j _ _ _ _ _ hc q=>by
 have h1:(0:Int)<j:=hc;exact mod_int' (by lia) (by rw[Int.fmod_eq_emod_of_nonneg i (by lia)];exact q)
theorem unI{g:Int->Int}
  (rule:∀ (i:Int) (t:Tok) (s:Shared) (Q:Value->Shared->Prop) (E:Value->Shared->Prop),Q (.int (g i) s.toks) { s with toks:=s.toks+1 }->wpAny (model X.prog X.w) X.A (f (.int i t)) Q E s) :
  UnR X f (rU fun i=>.int (g i)):=by
 intro pins s U H x v Q I rx h;obtain ⟨i,rfl,q⟩:=h;obtain ⟨t,rfl⟩:=rx;exact rule i t s _ _ ⟨.int (g i),H,I.tok _,⟨_,rfl⟩,q⟩
theorem un_neg:UnR X (unaryOp .USub) (rU fun i=>.int (-i)):=unI fun _ _ _ _ _ q=>neg_int q
end
section
variable {X:Cx}{a b c:Expr}{ta tb tc:TE}{pos:Pos}
theorem op_lt:OpR X (compareOp .Lt) (rI0 fun i j=>.bl (decide (i<j))):=cL fun _ _ _ _ _ _ _ q=>lt_int q
theorem op_le:OpR X (compareOp .LtE) (rI0 fun i j=>.bl (decide (i<=j))):=cL fun _ _ _ _ _ _ _ q=>le_int q
theorem op_gt:OpR X (compareOp .Gt) (rI0 fun i j=>.bl (decide (j<i))):=cL fun _ _ _ _ _ _ _ q=>gt_int q
theorem op_ge:OpR X (compareOp .GtE) (rI0 fun i j=>.bl (decide (j<=i))):=cL fun _ _ _ _ _ _ _ q=>ge_int q
theorem qUM(b:Expr)(h:op≠.In:=by decide)(h2:op≠.NotIn:=by decide):behindInMarks op b=false:=by
 have e1:(op == CmpOp.In)=false:=by cases op <;> first | rfl | exact absurd rfl h
 have e2:(op == CmpOp.NotIn)=false:=by cases op <;> first | rfl | exact absurd rfl h2
 cases b <;> simp[behindInMarks,e1,e2]
theorem pe_cmpR(ho:OpR X (compareOp op) r)(ha:PE X a ta)(hb:PE X b tb)(hm:behindInMarks op b=false):PE X (.Compare a [op] [b] pos) (tOp r ta tb):=by
 intro pins s U H Q I h;exact wpAny_Compare1 (sQ ha hb I h fun v u s2 x y H2 I2 rx ry q=>ho pins s2 U H2 x y v u Q I2 rx ry q) hm
def qBs(t:TE):TT:=fun U H Q=>t U H fun x H'=>∃ k,x=.bl k/\Q k H'
theorem pt_cmpR(ho:OpR X (compareOp op) r)(ha:PE X a ta)(hb:PE X b tb)(hm:behindInMarks op b=false):PT X (.Compare a [op] [b] pos) (qBs (tOp r ta tb)):=by
 intro pins s U H Q I h
 refine wpAny_isTrue_Compare1 (thn (ha pins s U H _ I h) fun v s1 ⟨x,H1,I1,r1,q1⟩=>thn (hb pins s1 U H1 _ I1 q1) fun u s2 ⟨y,H2,I2,r2,q2⟩=>
  thn (ho pins s2 U H2 x y v u _ I2 r1 r2 q2) fun c s3 ⟨z,H3,I3,r3,k,e,q3⟩=>?_) hm
 subst e;cases r3;exact wpAny_truthy_bool ⟨H3,I3,q3⟩
def tChain(r r':R2)(ta tb tc:TE):TE:=fun U H Q=>ta U H fun x H1=>tb U H1 fun y H2=>r x y H2 fun z H3=>∃ k,z=.bl k /\
 (if k=true then tc U H3 fun w' H4=>r' y w' H4 Q else Q (.bl false) H3)
theorem pe_chain(ho:OpR X (compareOp op) r)(ho':OpR X (compareOp op') r')(ha:PE X a ta)(hb:PE X b tb)(hc:PE X c tc)
  (hm:lastMarks [op,op'] [b,c]=false:=by with_unfolding_all rfl):PE X (.Compare a [op,op'] [b,c] pos) (tChain r r' ta tb tc):=by
 intro pins s U H Q I h
 refine Compare_chain (thn (ha pins s U H _ I h) fun v s1 ⟨x,H1,I1,r1,q1⟩=>chain_link (thn (hb pins s1 U H1 _ I1 q1) fun u s2 ⟨y,H2,I2,r2,q2⟩=>
  thn (ho pins s2 U H2 x y v u _ I2 r1 r2 q2) fun d s3 ⟨z,H3,I3,r3,k,e,q3⟩=>?_)) hm
 subst e;cases r3;refine wpAny_truthy_bool ?_;cases k with
 |false=>exact ite_ff ⟨.bl false,H3,I3,rfl,q3⟩
 |true=>exact ite_tt (chain_last (thn (hc pins s3 U H3 _ I3 q3) fun w' s4 ⟨z',H4,I4,r4,q4⟩=>ho' pins s4 U H4 y z' u w' Q I4 r2 r4 q4))
theorem pt_chain(ho:OpR X (compareOp op) r)(ho':OpR X (compareOp op') r')(ha:PE X a ta)(hb:PE X b tb)(hc:PE X c tc)
  (hm:lastMarks [op,op'] [b,c]=false:=by with_unfolding_all rfl):PT X (.Compare a [op,op'] [b,c] pos) (qBs (tChain r r' ta tb tc)):=by
 intro pins s U H Q I h
 refine isTrue_chain (thn (ha pins s U H _ I h) fun v s1 ⟨x,H1,I1,r1,q1⟩=>test_link (thn (hb pins s1 U H1 _ I1 q1) fun u s2 ⟨y,H2,I2,r2,q2⟩=>
  thn (ho pins s2 U H2 x y v u _ I2 r1 r2 q2) fun d s3 ⟨z,H3,I3,r3,k,e,q3⟩=>?_)) hm
 subst e;cases r3;refine wpAny_truthy_bool ?_;cases k with
 |false=>obtain ⟨k',e',q'⟩:=q3;cases e';exact ite_ff ⟨H3,I3,q'⟩
 |true=>refine ite_tt (test_last (thn (hc pins s3 U H3 _ I3 q3) fun w' s4 ⟨z',H4,I4,r4,q4⟩=>thn (ho' pins s4 U H4 y z' u w' _ I4 r2 r4 q4) fun d' s5 ⟨z2,H5,I5,r5,k2,e2,q5⟩=>?_));subst e2;cases r5;exact wpAny_truthy_bool ⟨H5,I5,q5⟩
def TruV(K:PySem.W.Frag)(x:V)(H:Hp)(k:Bool):Prop:=
 match x with
 | .non=>k=false
 | .bl b=>k=b
 | .int i=>k=(i != 0)
 | .str y=>y.length<=sizeLine/\k=((y.length:Int) != 0)
 | .byt y=>y.size<=sizeLine/\k=((y.size:Int) != 0)
 | .ref p=>(∃ xs,SqL K H p xs/\k=!xs.isEmpty)\/(∃ xs,SqT K H p xs/\k=!xs.isEmpty)\/∃ kvs,H p=some (.dK kvs)/\k=!kvs.isEmpty
 |_=>False
theorem qNI{κ:Type}{kvs:List (κ × V)}{vs:List (κ × Value)}(r:KV kvs vs):(!vs.isEmpty)=!kvs.isEmpty:=by
 cases r <;> rfl
theorem qDw(r:Vals xs its):(!its.toArray.isEmpty)=!xs.isEmpty:=by
 cases r <;> simp
theorem uK:(sizeLine:Nat)<2 ^ 63:=by rw[sizeLine_eq];decide
theorem tru_ok:qUH X (fun x H Q=>∃ k,TruV X.K x H k/\Q k H):=by
 intro pins s U H x v Q I rx h;obtain ⟨k,e,q⟩:=h;have hl:=uK;have hs:sizeLine=16777216:=sizeLine_eq;cases x with
 |non=>cases rx;have e':k=false:=e;subst e';exact truthy_none ⟨H,I,q⟩
 |bl b=>cases rx;have e':k=b:=e;subst e';exact wpAny_truthy_bool ⟨H,I,q⟩
 |int i=>obtain ⟨t,rfl⟩:=rx;have e':k=(i != 0):=e;subst e';exact PySem.P.truthy_int ⟨H,I,q⟩
 |str y=>obtain ⟨t,rfl⟩:=rx;obtain ⟨hy,e'⟩:y.length<=sizeLine/\k=((y.length:Int) != 0):=e;subst e';exact PySem.P.truthy_str (by lia) ⟨H,I.tok _,q⟩
 |byt y=>obtain ⟨t,rfl⟩:=rx;obtain ⟨hy,e'⟩:y.size<=sizeLine/\k=((y.size:Int) != 0):=e;subst e';exact PySem.W.truthy_bytes (by lia) ⟨H,I.tok _,q⟩
 |ref p=>
  cases rx;have e':(∃ xs,SqL X.K H p xs/\k=!xs.isEmpty)\/(∃ xs,SqT X.K H p xs/\k=!xs.isEmpty)\/∃ kvs,H p=some (.dK kvs)/\k=!kvs.isEmpty:=e;rcases e' with⟨xs,hx,e'⟩ | ⟨xs,hx,e'⟩ | ⟨kvs,hx,e'⟩
  ·subst e';obtain ⟨its,r,pl,hz⟩:=I.list hx;have hlen:=r.length;exact wpAny_truthy_list pl.isList (by simp only[List.size_toArray];lia) ⟨H,I.tok _,by rw[qDw r];exact q⟩
  ·subst e';obtain ⟨its,r,pl,hz⟩:=I.tuple hx;have hlen:=r.length;exact truthy_tuple pl (by simp only[List.size_toArray];lia) ⟨H,I.tok _,by rw[qDw r];exact q⟩
  ·subst e';obtain ⟨hz,hS,vs,r,m⟩:kvs.length<=sizeLine/\(p == sysModules)=false/\∃ vs,KV kvs vs/\s.heap.DictOf (mixKind X.prog X.w) p vs:=I.hok p _ hx;have hlen:kvs.length=vs.length:=Paired.length r;exact wpAny_truthy_dict hS m (by lia) ⟨H,I.tok _,by rw[qNI r];exact q⟩
 |_=>exact (show False from e).elim
theorem pt_truth(ha:PE X a ta)(he:∀ whole,isTrue a X.env whole=(do let v <- whole;standAt a.pos;holding [v] (truthy v))) :
  PT X a (fun U H Q=>ta U H fun x H'=>∃ k,TruV X.K x H' k/\Q k H'):=by
 intro pins s U H Q I h;exact isTrue_plain (thn (ha pins s U H _ I h) fun v s1 ⟨x,H1,I1,r1,q1⟩=>tru_ok pins s1 U H1 x v Q I1 r1 q1) (he _)
theorem op_add_str:OpR X (binaryOp .Add) (fun x y H Q=>∃ i j,x=.str i/\y=.str j/\i.length+j.length<=sizeLine/\Q (.str (i++j)) H):=by
 intro pins s U H x y v u Q I rx ry h;obtain ⟨i,j,rfl,rfl,hz,q⟩:=h;obtain ⟨t,rfl⟩:=rx;obtain ⟨t',rfl⟩:=ry;exact add_str (fun t' tk=>⟨.str (i++j),H,I.tok _,⟨_,rfl⟩,q⟩) hz
theorem vals1(r:Vals [x] us):∃ u,us=[u]/\RelV x u:=by
 cases r with
 |cons r1 r2=>cases r2;exact⟨_,rfl,r1⟩
theorem qBl(r:Vals [x,y] us):∃ u w',us=[u,w']/\RelV x u/\RelV y w':=by
 cases r with
 |cons r1 r2=>
  cases r2 with
  |cons r3 r4=>cases r4;exact⟨_,_,rfl,r1,r3⟩
theorem call_max2 (hc:X.calm=true):qN X (.builtin "max") (fun xs H Q=>∃ i j,xs=[.int i,.int j]/\Q (.int (if j > i then j else i)) H):=by
 intro pins s U H xs us Q I r h;obtain ⟨i,j,rfl,q⟩:=h;obtain ⟨u,w',rfl,⟨t,rfl⟩,⟨t',rfl⟩⟩:=qBl r;refine max_two_ints (I.ok.hd hc) fun h' tk k=>⟨_,H,I.kept k,?_,q⟩
 by_cases hj:j > i
 ·rw[if_pos hj,if_pos hj];exact⟨_,rfl⟩
 ·rw[if_neg hj,if_neg hj];exact⟨_,rfl⟩
theorem call_min2 (hc:X.calm=true):qN X (.builtin "min") (fun xs H Q=>∃ i j,xs=[.int i,.int j]/\Q (.int (if j<i then j else i)) H):=by
 intro pins s U H xs us Q I r h;obtain ⟨i,j,rfl,q⟩:=h;obtain ⟨u,w',rfl,⟨t,rfl⟩,⟨t',rfl⟩⟩:=qBl r;refine min_two_ints (I.ok.hd hc) fun h' tk k=>⟨_,H,I.kept k,?_,q⟩
 by_cases hj:j<i
 ·rw[if_pos hj,if_pos hj];exact⟨_,rfl⟩
 ·rw[if_neg hj,if_neg hj];exact⟨_,rfl⟩
theorem call_int1:qN X (.type "int") (fun xs H Q=>(∃ i,xs=[.int i]/\Q (.int i) H)\/∃ k,xs=[.bl k]/\Q (.int (if k then 1 else 0)) H):=by
 intro pins s U H xs us Q I r h;rcases h with⟨i,rfl,q⟩ | ⟨k,rfl,q⟩
 ·obtain ⟨u,rfl,t,rfl⟩:=vals1 r;exact call_int_int ⟨.int i,H,I,⟨_,rfl⟩,q⟩
 ·obtain ⟨u,rfl,r1⟩:=vals1 r;cases r1;exact call_int_bool ⟨.int (if k then 1 else 0),H,I.tok _,⟨_,rfl⟩,q⟩
theorem call_str_int:qN X (.type "str") (fun xs H Q=>∃ i,xs=[.int i]/\i.natAbs.log2<1920/\Q (.str (toString i)) H):=by
 intro pins s U H xs us Q I r h;obtain ⟨i,rfl,hz,q⟩:=h;obtain ⟨u,rfl,t,rfl⟩:=vals1 r;exact PySem.P.str_of_int hz ⟨.str _,H,I.tok _,⟨_,rfl⟩,q⟩
theorem call_ord:qN X (.builtin "ord") (fun xs H Q=>∃ x,xs=[.str x]/\x.length=1/\Q (.int (x.cps.getD 0 0:Nat)) H):=by
 intro pins s U H xs us Q I r h;obtain ⟨x,rfl,hz,q⟩:=h;obtain ⟨u,rfl,t,rfl⟩:=vals1 r;exact ord_of_one hz ⟨.int _,H,I.tok _,⟨_,rfl⟩,q⟩
def qUI(K:PySem.W.Frag)(x:V)(H:Hp)(n:Nat):Prop:=
 match x with
 | .str y=>y.length<=sizeLine/\n=y.length
 | .byt y=>y.size<=sizeLine/\n=y.size
 | .ref p=>(∃ xs,SqL K H p xs/\n=xs.length)\/∃ xs,SqT K H p xs/\n=xs.length
 |_=>False
theorem call_len:qN X (.builtin "len") (fun xs H Q=>∃ x n,xs=[x]/\qUI X.K x H n/\Q (.int n) H):=by
 intro pins s U H xs us Q I r h;obtain ⟨x,n,rfl,e,q⟩:=h;obtain ⟨u,rfl,rx⟩:=vals1 r;have hl:=uK;have hs:sizeLine=16777216:=sizeLine_eq;cases x with
 |str y=>obtain ⟨t,rfl⟩:=rx;obtain ⟨hy,e'⟩:y.length<=sizeLine/\n=y.length:=e;subst e';exact len_str (by lia) ⟨.int _,H,I.tok _,⟨_,rfl⟩,q⟩
 |byt y=>obtain ⟨t,rfl⟩:=rx;obtain ⟨hy,e'⟩:y.size<=sizeLine/\n=y.size:=e;subst e';exact PySem.W.len_bytes (by lia) ⟨.int _,H,I.tok _,⟨_,rfl⟩,q⟩
 |ref p=>
  cases rx;have e':(∃ xs,SqL X.K H p xs/\n=xs.length)\/∃ xs,SqT X.K H p xs/\n=xs.length:=e;rcases e' with⟨xs,hx,e'⟩ | ⟨xs,hx,e'⟩
  ·subst e';obtain ⟨its,r',pl,hz⟩:=I.list hx;have hlen:=r'.length;exact Calls.call_len_list pl.isList (by simp only[List.size_toArray];lia) ⟨.int xs.length,H,I.tok _,⟨_,by simp only[List.size_toArray];rw[hlen]⟩,q⟩
  ·subst e';obtain ⟨its,r',pl,hz⟩:=I.tuple hx;have hlen:=r'.length;exact len_tuple pl (by simp only[List.size_toArray];lia) ⟨.int xs.length,H,I.tok _,⟨_,by simp only[List.size_toArray];rw[hlen]⟩,q⟩
 |_=>exact (show False from e).elim
end
structure ObjM (h:Heap) (x dx C:Addr) (mA:Str->Option Value):Prop where
 obj:h.get? x=some (PySem.W.instObj C dx)
 ns:h.Ns1 dx mA
 ne:dx≠x
theorem qMU{h:Heap}(n:h.Ns1 dx mA):∃ od,h.get? dx=some od/\∀ name,PySem.W.lookIn name od=some (mA name):=by
 obtain ⟨o,es,ep,ho,hd,hk,_,hm⟩:=n;refine⟨o,ho,fun name=>?_⟩;have e:=hm name;unfold nsFind findBy at e;rw[<- Array.find?_toList] at e;unfold PySem.W.lookIn;rw[hd];dsimp only;split
 ·rename_i y q;rw[q] at e;exact congrArg some e
 ·rename_i q;rw[q] at e
  have a:es.toList.any (·.refKey)=false:=by
   rw[List.any_eq_false];intro y hy;obtain ⟨z,t,hkey⟩:=hk y (Array.mem_toList_iff.mp hy);simp[DictEntry.refKey,hkey]
  have a':¬ es.toList.any (·.refKey)=true:=by rw[a];exact Bool.false_ne_true
  rw[if_neg a'];exact congrArg some e
theorem ObjM.look(I:ObjM h x dx C mA):∃ od,PySem.W.InstAt h x (PySem.W.instObj C dx) C (some od)/\∀ name,PySem.W.lookIn name od=some (mA name):=
 let ⟨od,ho,hl⟩:=qMU I.ns
 ⟨od,⟨I.obj,rfl,rfl,ho⟩,hl⟩
section
variable {prog:Program}{w:World}{A:Around}{E:Value->Shared->Prop}{s:Shared}{K:PySem.W.Frag}{x dx C f:Addr}{mA:Str->Option Value}{name:Str}{v:Value}
theorem qOk(X:K.In s.heap)(I:ObjM s.heap x dx C mA)(hg:PySem.W.plainGet K C name=true)(hh:PySem.W.hasDictIn K C=true)
  (ha:PySem.W.findIn K (.ref C) name=some none) (hv:mA name=some v) (hv':PySem.W.handedIn v=true) (h:Q v { s with toks:=s.toks+1 }) :
  wpAny (model prog w) A (getAttr (.ref x) name expr) Q E s:=by
 obtain ⟨od,J,hl⟩:=I.look;exact PySem.W.get_value X J (PySem.W.plainGet_of hg).1 (PySem.W.findObj_own hh ha rfl (by rw[hl,hv])) hv' h
theorem qOj(X:K.In s.heap)(I:ObjM s.heap x dx C mA)(hg:PySem.W.plainGet K C name=true)
  (hf:PySem.W.findIn K (.ref C) name=some (some (.ref f))) (ht:PySem.W.isFn K (.ref f)=true) (hv:mA name=none) (h:Q (.ref f,[.ref x]) s) :
  wpAny (model prog w) A (getMethod (.ref x) name pl) Q E s:=by
 obtain ⟨od,J,hl⟩:=I.look;exact PySem.W.method_fn X J (PySem.W.plainGet_of hg).1 (PySem.W.plainGet_of hg).2 hf (beq_iff_eq.mp ht) (by show (PySem.W.lookIn name od).map (·.isSome)=some false;rw[hl,hv];rfl) h
theorem qIN(X:K.In s.heap)(I:ObjM s.heap x dx C mA)
  (hs:PySem.W.findIn K (.ref C) "__setattr__"=some (some (.builtin "object.__setattr__"))) (hp:PySem.W.plainOver K C=true) (ht:PySem.W.takerIn K C name=some none) (hh:PySem.W.hasDictIn K C=true)
  (hw:PySem.Within mA ns) (hsz:ns.length<=sizeLine)
  (h:∀ h',ObjM h' x dx C (fun y=>if y=name then some v else mA y)->Heap.SameBut dx s.heap h'->Q () { s with heap:=h',toks:=s.toks+2 }) :
  wpAny (model prog w) A (setAttr (.ref x) name v) Q E s:=by
 obtain ⟨od,J,hl⟩:=I.look;refine PySem.W.set_plain X J hs (PySem.W.osa_open (s:={ s with toks:=s.toks+1 }) (r:=none) X J hp ht fun b=>?_);obtain ⟨cd,hc,hd'⟩:=PySem.W.any_some hh;have hx:s.heap.get? x=some ⟨.ref C,some dx,.plain,#[]⟩:=I.obj;refine wpAny_bind (wpAny_pure (wpAny_bind (wpAny_bind (wpAny_loadPart hx (wpAny_bind (PySem.W.Looks.here (s:={ s with toks:=s.toks+1 }) (PySem.W.looks_clsIn X hc) ?_))))));rw[hd'];refine wpAny_pure (a:=some dx) (wpAny_bind (wpAny_pure (wpAny_bind ?_)));refine wpAny_nsSet1 (s:={ s with toks:=s.toks+1 }) I.ns fun h' hn2 hs2=>?_;obtain ⟨oD,esD,epD,hoD,hdD,hcD⟩:=hn2.count (PySem.Within.cons name v hw);refine wpAny_bind (wpAny_lookBehind hoD (by rw[hdD];exact pastItsLine_dict (Nat.le_trans hcD (by rw[List.length_cons];lia))) ?_);exact wpAny_pure (h _ ⟨(hs2.2 _ (Ne.symm I.ne)).trans I.obj,hn2,I.ne⟩ hs2)
theorem make_map(X:K.In s.heap)(hm:PySem.W.makesIn K C=true)
  (hi:PySem.W.findIn K (.ref C) "__init__"=some (some (.ref f))) (hf:PySem.W.typeIn K (.ref f)=some (.type "function"))
  (h:codeAny (model prog w) (A.under (.builtin "type.__call__" ⟨.ref C::vs,kw⟩)) (.call (.ref f) ⟨.ref (s.heap.objs.size+1)::vs,kw⟩) (PySem.W.InitBack (s.heap.objs.size+1) R)
   { s with heap:=(s.heap.push PySem.W.emptyDict).push (PySem.W.instObj C s.heap.objs.size) }) :
  codeAny (model prog w) A (.call (.ref C) ⟨vs,kw⟩) R s:=by
 obtain ⟨hh,g,d,t,os⟩:=s;exact PySem.W.make_core (PySem.W.makes_of X hm) (PySem.W.looks_findIn X hi) (fun self=>PySem.W.bind_fn X self hf) (.inl rfl) h
end
def putF(f:Str)(v:V):List (Str × V)->List (Str × V)
 | []=>[(f,v)]
 | (g,x)::r=>if g=f then (g,v)::r else (g,x)::putF f v r
theorem qDY(f g:Str)(v:V):∀ fs:List (Str × V),(putF f v fs).lookup g=if g=f then some v else fs.lookup g
 | []=>by
  show List.lookup g [(f,v)]=_
  by_cases h:g=f
  ·have hb:(g == f)=true:=beq_iff_eq.mpr h;simp only[List.lookup,hb,if_pos h]
  ·have hb:(g == f)=false:=beq_eq_false_iff_ne.mpr h;simp only[List.lookup,hb,if_neg h]
 | (k,x)::r=>by
  have ih:=qDY f g v r;rw[show putF f v ((k,x)::r)=(if k=f then (k,v)::r else (k,x)::putF f v r) from rfl]
  by_cases hk:k=f
  ·rw[if_pos hk]
   by_cases h:g=k
   ·have hb:(g == k)=true:=beq_iff_eq.mpr h;simp only[List.lookup,hb,if_pos (h.trans hk)]
   ·have hb:(g == k)=false:=beq_eq_false_iff_ne.mpr h;simp only[List.lookup,hb,if_neg (fun e:g=f=>h (e.trans hk.symm))]
  ·rw[if_neg hk]
   by_cases h:g=k
   ·have hb:(g == k)=true:=beq_iff_eq.mpr h;simp only[List.lookup,hb,if_neg (fun e:g=f=>hk (h.symm.trans e))]
   ·have hb:(g == k)=false:=beq_eq_false_iff_ne.mpr h;simp only[List.lookup,hb];exact ih
theorem mH(f:Str)(v:V):∀ fs:List (Str × V),f∈(putF f v fs).map (·.1)/\∀ g,g∈fs.map (·.1)->g∈(putF f v fs).map (·.1)
 | []=>⟨by simp[putF],fun g h=>by simp at h⟩
 | (k,x)::r=>by
  obtain ⟨i1,i2⟩:=mH f v r;rw[show putF f v ((k,x)::r)=(if k=f then (k,v)::r else (k,x)::putF f v r) from rfl]
  by_cases hk:k=f
  ·rw[if_pos hk];subst hk
   exact⟨by simp,fun g h=>by simpa using h⟩
  ·rw[if_neg hk];refine⟨?_,fun g h=>?_⟩
   ·rw[List.map_cons];exact List.mem_cons_of_mem _ i1
   ·rw[List.map_cons] at h ⊢;rcases List.mem_cons.mp h with e | e
    ·exact List.mem_cons.mpr (.inl e)
    ·exact List.mem_cons_of_mem _ (i2 g e)
theorem qDa(f:Str)(v:V):∀ fs:List (Str × V),(putF f v fs).length<=fs.length+1
 | []=>by simp[putF]
 | (k,x)::r=>by
  have ih:=qDa f v r;rw[show putF f v ((k,x)::r)=(if k=f then (k,v)::r else (k,x)::putF f v r) from rfl]
  by_cases hk:k=f
  ·rw[if_pos hk,List.length_cons,List.length_cons];lia
  ·rw[if_neg hk,List.length_cons,List.length_cons];lia
theorem RelO.some_of(r:RelO (some v) o):∃ u,o=some u/\RelV v u:=by
 cases o with
 |none=>exact (show False from r).elim
 |some u=>exact⟨u,rfl,r⟩
theorem RelO.none_of(r:RelO none o):o=none:=by
 cases o with
 |none=>rfl
 |some u=>exact (show False from r).elim
theorem qOY(r:RelV v u):PySem.W.handedIn u=true:=by
 cases v with
 |non=>cases (show u=Value.none from r);rfl
 |bl b=>cases (show u=Value.bool b from r);rfl
 |int i=>obtain ⟨t,e⟩:=(show ∃ t,u=Value.int i t from r);cases e;rfl
 |str x=>obtain ⟨t,e⟩:=(show ∃ t,u=Value.str x t from r);cases e;rfl
 |byt b=>obtain ⟨t,e⟩:=(show ∃ t,u=Value.bytes b t from r);cases e;rfl
 |flt b=>obtain ⟨t,e⟩:=(show ∃ t,u=Value.float b t from r);cases e;rfl
 |ref a=>cases (show u=Value.ref a from r);rfl
 |ty n=>cases (show u=Value.type n from r);rfl
section
variable {P:Program}{w:World}{H H':Hp}{h h':Heap}{a C dx:Addr}{fs fs':List (Str × V)}
theorem mX(hok:HOk P w H h)(e:H a=some (.ins C dx fs)):∃ mA,ObjM h a dx C mA/\(∀ f,RelO (fs.lookup f) (mA f))/\PySem.Within mA (fs.map (·.1))/\fs.length<=1000/\H dx=some (.own a):=by
 obtain ⟨d,z,ne,ob,mA,n,r,q⟩:=(show ObjOk P w H h a (.ins C dx fs) from hok a _ e)
 exact⟨mA,⟨ob,n,ne⟩,r,q,z,d⟩
end
structure Cls (K:PySem.W.Frag) (C:Addr):Prop where
 pg:PySem.W.plainGet K C Str.empty=true
 hd:PySem.W.hasDictIn K C=true
 po:PySem.W.plainOver K C=true
 sa:PySem.W.findIn K (.ref C) "__setattr__"=some (some (.builtin "object.__setattr__"))
theorem Cls.get{K:PySem.W.Frag}(c:Cls K C)(f:Str):PySem.W.plainGet K C f=true:=c.pg
def NoAttr(K:PySem.W.Frag)(C:Addr)(f:Str):Prop:=PySem.W.findIn K (.ref C) f=some none
theorem NoAttr.taker{K:PySem.W.Frag}(n:NoAttr K C f):PySem.W.takerIn K C f=some none:=by
 unfold PySem.W.takerIn;rw[show PySem.W.findIn K (.ref C) f=some none from n];rfl
structure Meth (K:PySem.W.Frag) (C:Addr) (m:Str) (f:Addr):Prop where
 at_:PySem.W.findIn K (.ref C) m=some (some (.ref f))
 fn:PySem.W.isFn K (.ref f)=true
 kp:PySem.W.keepIn K (.ref f)=true
section
variable {X:Cx}{pins:List (Addr × Obj)}{U:St}{H:Hp}{s:Shared}{a C dx:Addr}{fs:List (Str × V)}{f:Str}{v:V}{A:Around}{E:Value->Shared->Prop}
theorem qOi(I:Inv X pins U H s)(e:H a=some (.ins C dx fs))(c:Cls X.K C)(n:NoAttr X.K C f)(l:fs.lookup f=some v)
  (h:∀ u s',Inv X pins U H s'->RelV v u->Q u s'):wpAny (model X.prog X.w) A (getAttr (.ref a) f b) Q E s:=by
 obtain ⟨mA,O,r,_,_,_⟩:=mX I.hok e;obtain ⟨u,hu,ru⟩:=RelO.some_of (v:=v) (o:=mA f) (by rw[<- l];exact r f);exact qOk I.kIn O (c.get f) c.hd n hu (qOY ru) (h u _ (I.tok _) ru)
theorem getmeth_ok(I:Inv X pins U H s)(e:H a=some (.ins C dx fs))(c:Cls X.K C)(k:Meth X.K C m g)(l:fs.lookup m=none)
  (h:Q (.ref g,[.ref a]) s):wpAny (model X.prog X.w) A (getMethod (.ref a) m pl) Q E s:=by
 obtain ⟨mA,O,r,_,_,_⟩:=mX I.hok e;have hn:mA m=none:=RelO.none_of (by rw[<- l];exact r m);exact qOj I.kIn O (c.get m) k.at_ k.fn hn h
theorem qIL(I:Inv X pins U H s)(e:H a=some (.ins C dx fs))(c:Cls X.K C)(n:NoAttr X.K C f)(hl:fs.length<1000)(ry:RelV y u)
  (h:∀ s',Inv X pins U (upd H a (.ins C dx (putF f y fs))) s'->Q () s'):wpAny (model X.prog X.w) A (setAttr (.ref a) f u) Q E s:=by
 obtain ⟨mA,O,r,wi,_,ho⟩:=mX I.hok e;have hz:(fs.map (·.1)).length<=sizeLine:=by rw[List.length_map,sizeLine_eq];lia
 refine qIN I.kIn O c.sa c.po n.taker c.hd wi hz fun h' O' sb=>h _ ?_;have hd:∃ o,h'.get? dx=some o:=let ⟨o,_,_,e',_⟩:=O'.ns;⟨o,e'⟩;refine I.write (x:=a) (e:=dx) (by rw[e];exact True.intro) (.inr ho) (fun b q hb z=>(sb.2 b hb).trans z) hd ?_;refine⟨by rw[qH O.ne];exact ho,?_,O.ne,O'.obj,_,O'.ns,fun g=>?_,fun g hg=>?_⟩
 ·have:=qDa f y fs;lia
 ·show RelO ((putF f y fs).lookup g) (if g=f then some u else mA g);rw[qDY]
  by_cases q:g=f
  ·rw[if_pos q,if_pos q];exact ry
  ·rw[if_neg q,if_neg q];exact r g
 ·by_cases q:g=f
  ·rw[q];exact (mH f y fs).1
  ·refine (mH f y fs).2 g (wi g fun z=>hg ?_);show (if g=f then some u else mA g)=none;rw[if_neg q];exact z
theorem Inv.made(I:Inv X pins U H s):Inv X pins U (upd (upd H s.heap.objs.size (.own (s.heap.objs.size+1))) (s.heap.objs.size+1) (.ins C s.heap.objs.size []))
  { s with heap:=(s.heap.push PySem.W.emptyDict).push (PySem.W.instObj C s.heap.objs.size) }:=by
 have e1:(s.heap.push PySem.W.emptyDict).get? s.heap.objs.size=some PySem.W.emptyDict:=Heap.get?_push_size s.heap rfl
 have e2:((s.heap.push PySem.W.emptyDict).push (PySem.W.instObj C s.heap.objs.size)).get? (s.heap.objs.size+1)=some (PySem.W.instObj C s.heap.objs.size):=by
  have:=Heap.get?_push_size (s.heap.push PySem.W.emptyDict) (o:=PySem.W.instObj C s.heap.objs.size) rfl
  rwa [Heap.size_push] at this
 have e3:(s.heap.push PySem.W.emptyDict).Ns s.heap.objs.size (fun _=>none):=⟨PySem.W.emptyDict,#[],_,e1,rfl,(fun e he=>absurd he (by simp)),fun _=>rfl⟩;have I1:=I.laid (a:=s.heap.objs.size) (o:=.own (s.heap.objs.size+1)) (h':=s.heap.push PySem.W.emptyDict) (t':=s.toks) (fun b u q=>Heap.get?_push_of_some _ q) (Nat.le_refl _) ⟨_,e1⟩;refine I1.laid (a:=s.heap.objs.size+1) (o:=.ins C s.heap.objs.size []) (t':=s.toks) (fun b u q=>Heap.get?_push_of_some _ q) (Nat.le_of_eq (Heap.size_push _ _)) ?_;have ne:s.heap.objs.size≠s.heap.objs.size+1:=Nat.ne_of_lt (Nat.lt_succ_self _);refine⟨by rw[qH ne,qL],Nat.zero_le _,ne,e2,fun _=>none,(Heap.Ns1.of_empty e3).at fun o q=>Heap.get?_push_of_some _ q,fun _=>True.intro,fun y hy=>absurd rfl hy⟩
theorem qT6(hb:attributeBase e f env (eval e env)=eval e env)
  (h:wpAny (model prog w) A (eval e env) (fun o s₁=>wpAny (model prog w) A (getAttr o f true) Q E s₁) E s):wpAny (model prog w) A (eval (.Attribute e f pos) env) Q E s:=
 Attribute_any_ h (by rw[arm_eval_Attribute,hb])
end
def qHo(K:PySem.W.Frag)(ta:TE)(f:Str):TE:=fun U H Q=>ta U H fun x H1=>∃ a C dx fs v,x=.ref a/\H1 a=some (.ins C dx fs)/\Cls K C/\NoAttr K C f/\fs.lookup f=some v/\Q v H1
def qIs(K:PySem.W.Frag)(ta tv:TE)(f:Str):TS:=fun D U H=>tv U H fun y H1=>ta U H1 fun x H2=>∃ a C dx fs,x=.ref a/\H2 a=some (.ins C dx fs)/\Cls K C/\NoAttr K C f/\fs.length<1000 /\
 D.nx U (upd H2 a (.ins C dx (putF f y fs)))
section
variable {X:Cx}{o e value:Expr}{f:Str}{pos pos' tpos:Pos}{ta tv:TE}
theorem pe_fld(he:PE X e ta)(hb:attributeBase e f X.env (eval e X.env)=eval e X.env):PE X (.Attribute e f pos) (qHo X.K ta f):=by
 intro pins s U H Q I h;refine qT6 hb (thn (he pins s U H _ I h) fun u s1 ⟨x,H1,I1,rx,a,C,dx,fs,v,ex,ea,c,n,l,q⟩=>?_);subst ex;obtain rfl:u=Value.ref a:=rx;exact qOi I1 ea c n l fun u' s2 I2 ru=>⟨v,H1,I2,ru,q⟩
theorem ps_fld(ha:PE X o ta)(hv:PE X value tv)(hs:swapsWith value (some (.Attribute o f pos')) pos.line X.env=pure false):PS X (.Assign [.Attribute o f pos'] value pos) (qIs X.K ta tv f):=by
 intro pins s U H D I h;refine plainObj_wpAny_Assign_Attribute (thn (hv pins s U H _ I h) fun u s1 ⟨y,H1,I1,ry,q⟩=>thn (ha pins s1 U H1 _ I1 q) fun ov s2 ⟨x,H2,I2,rx,a,C,dx,fs,ex,ea,c,n,l,q2⟩=>?_) hs;subst ex;obtain rfl:ov=Value.ref a:=rx;exact qIL I2 ea c n l ry fun s3 I3=>⟨U,_,I3,q2⟩
end
section
variable {X:Cx}{pins:List (Addr × Obj)}{U:St}{H:Hp}{s:Shared}{A:Around}{E:Value->Shared->Prop}{Q:Value->Shared->Prop}{c:Value}{b:Bool}
end
structure Room (k:Nat) (A:Around):Prop where
 hd:A.handled=none
 dp:A.depth+3*k+5<recursionLimit
 un:A.units+16*k+200<cLine
theorem Room.mono(r:Room k A)(h:j<=k):Room j A:=⟨r.hd,by have:=r.dp;lia,by have:=r.un;lia⟩
theorem Room.deeper(r:Room (k+1) A)(env:Env):Room k (A.deeper env):=
 ⟨r.hd,by have:=r.dp;show A.depth+1+3*k+5<_;lia,by have:=r.un;show A.units+3+16*k+200<_;lia⟩
theorem qLg {A:Around}:(A.under (.builtin "type.__call__" ⟨.ref C::us,kw⟩)).depth=A.depth+1:=by
 first | rfl | simp[Around.under,Code.weight,Code.isCreation,Code.isGuard,Code.isCaller,Code.frames,Code.isFrame,guardIds]
theorem qLe {A:Around}:(A.under (.builtin "type.__call__" ⟨.ref C::us,kw⟩)).units=A.units+1:=by
 first | rfl | simp[Around.under,Code.cUnits,Code.frames,Code.isFrame]
theorem Room.make (r:Room (k+1) A) (C:Addr) (us:List Value) (kw:List (Str × Value)):Room k (A.under (.builtin "type.__call__" ⟨.ref C::us,kw⟩)):=
 ⟨r.hd,by have:=r.dp;rw[qLg];lia,by have:=r.un;rw[qLe];lia⟩
theorem Room.depth(r:Room k A):A.depth<recursionLimit:=by have:=r.dp;lia
theorem Room.units(r:Room k A):A.units+64<cLine:=by have:=r.un;lia
def tNil:TA:=fun _ H Q=>Q [] H
def tCons(ta:TE)(tr:TA):TA:=fun U H Q=>ta U H fun x H1=>tr U H1 fun xs H2=>Q (x::xs) H2
section
variable {X:Cx}{e:Expr}{es:List Expr}{te:TE}{t:TA}{pos:Pos}
theorem pa_nil:PA X [] tNil:=fun _ _ _ _ H Q I h=>Calls.spliced_nil ⟨[],H,I,.nil,h⟩
theorem pa_cons(ha:PE X e te)(hr:PA X es t)(hs:starEach (e::es) X.env=(false,eval e X.env)::starEach es X.env:=by rfl):PA X (e::es) (tCons te t):=by
 intro pos pins s U H Q I h;rw[hs];show wpAny _ _ (spliced ((false,eval e X.env)::backTo pos (starEach es X.env))) _ _ s;refine Calls.spliced_cons (thn (ha pins s U H _ I h) fun u s1 ⟨x,H1,I1,r1,q1⟩=>?_);exact thn (hr pos pins s1 U H1 _ I1 q1) fun us s2 ⟨xs,H2,I2,r2,q2⟩=>⟨x::xs,H2,I2,.cons r1 r2,q2⟩
def qHd(t:TA):TE:=fun U H Q=>t U H fun xs H1=>xs.length<=sizeLine/\∀ p,H1 p=none->Q (.ref p) (upd H1 p (.tup xs))
def qHl(t:TA):TE:=fun U H Q=>t U H fun xs H1=>xs.length<=sizeLine/\∀ p,H1 p=none->Q (.ref p) (upd H1 p (.lst xs))
theorem pe_tup{x1}(h:PA X es t):PE X (.Tuple es x1 pos) (qHd t):=by
 intro pins s U H Q I hq;refine wpAny_Tuple_spliced (thn (h pos pins s U H _ I hq) fun us s1 ⟨xs,H1,I1,r,z,q⟩=>⟨by rw[<- r.length];exact z,?_⟩);have hf:H1 s1.heap.objs.size=none:=I1.hok.fresh (Nat.le_refl _);refine⟨.ref s1.heap.objs.size,upd H1 s1.heap.objs.size (.tup xs),I1.laid (t':=s1.toks) (fun b u e=>Heap.get?_push_of_some _ e) (Nat.le_refl _) ?_,rfl,q _ hf⟩
 exact⟨z,us,r,⟨_,Heap.get?_push_size _ rfl,rfl,_,rfl⟩⟩
theorem pe_lst(h:PA X es t):PE X (.List es pos) (qHl t):=by
 intro pins s U H Q I hq;refine wpAny_List_spliced (thn (h pos pins s U H _ I hq) fun us s1 ⟨xs,H1,I1,r,z,q⟩=>⟨by rw[<- r.length];exact z,?_⟩);have hf:H1 s1.heap.objs.size=none:=I1.hok.fresh (Nat.le_refl _);refine⟨.ref s1.heap.objs.size,upd H1 s1.heap.objs.size (.lst xs),I1.laid (t':=s1.toks) (fun b u e=>Heap.get?_push_of_some _ e) (Nat.le_refl _) ?_,rfl,q _ hf⟩
 exact⟨z,us,0,r,Heap.get?_push_size _ rfl⟩
end
abbrev Sp:=List V->Hp->VK->XK->Prop
abbrev CXT:=List Env->Hp->Shared->XK->Value->Shared->Prop
structure Env0 (P:Program) (w:World) (K:PySem.W.Frag) (mg:Str->Option Value) (base:Heap) (A:Around) (outer:List Env) (s:Shared) (H:Hp):Prop where
 frames:A.frames=some outer
 mod:Mod K mg base
 bs:∀ b o,base.get? b=some o->s.heap.get? b=some o/\H b=none
 bsz:base.objs.size<=s.heap.objs.size
 funs:s.heap.FunFrames base outer
 frf:∀ b∈frs outer,H b=none
 hok:HOk P w H s.heap
 bare:AllBare s.gens
def CE(outer:List Env)(P:Program)(w:World)(H:Hp)(s:Shared)(Q:VK)(u:Value)(s':Shared):Prop:=
 ∃ v H',s'.os=s.os/\AllBare s'.gens/\Un (frs outer) [] H H' s.heap s'.heap/\HOk P w H' s'.heap/\RelV v u/\Q v H'
def CR(CX:CXT)(outer:List Env)(P:Program)(w:World)(H:Hp)(s:Shared)(Q:VK)(E:XK)(r:Result)(s':Shared):Prop:=
 match r with
 | .ok (.ret u)=>CE outer P w H s Q u s'
 | .ok _=>False
 | .error e=>CX outer H s E e s'
structure FnOk (P:Program) (w:World) (K:PySem.W.Frag) (mg:Str->Option Value) (base:Heap) (CX:CXT) (k:Nat) (f:Addr) (fd:FuncData) (ps:List Str) (sp:Sp):Prop where
 len:∀ vs H Q E,sp vs H Q E->vs.length=ps.length
 run:∀ (A:Around) (outer:List Env) (s:Shared) (H:Hp) (args:Args) (us:List Value) (vs:List V) (Q:VK) (E:XK),Room k A->Env0 P w K mg base A outer s H->BindsTo s fd args (ps.zip us)->Vals vs us->sp vs H Q E ->
  codeAny (model P w) A (.call (.ref f) args) (CR CX outer P w H s Q E) s
theorem Env0.make{K:PySem.W.Frag}(e:Env0 P w K mg base A outer s H)(C:Addr)(us:List Value)(kw:List (Str × Value)) :
  Env0 P w K mg base (A.under (.builtin "type.__call__" ⟨.ref C::us,kw⟩)) outer s H:=⟨by first | exact e.frames | (simpa [Around.under,Code.envs,Code.isFrame,pushEnvs] using e.frames),e.mod,e.bs,e.bsz,e.funs,e.frf,e.hok,e.bare⟩
section
variable {X:Cx}{pins:List (Addr × Obj)}{U:St}{H:Hp}{s s':Shared}
theorem Inv.env0(I:Inv X pins U H s):Env0 X.prog X.w X.K X.mg X.base X.A X.stack s H:=
 ⟨I.ok.frames,I.ok.mod,I.bs,Nat.le_trans I.ok.bsz I.sz,I.stack,I.stkFree,I.hok,I.bare⟩
theorem Inv.after(I:Inv X pins U H s)(h:CE X.stack X.prog X.w H s Q u s'):EP X pins U Q u s':=by
 obtain ⟨v,H',os,bare,un,hok,r,q⟩:=h;obtain ⟨hh,g,d,t,os'⟩:=s';obtain rfl:os'=s.os:=os
 exact⟨v,H',I.call (h':=hh) (g':=g) (d':=d) (t':=t) (ch:=[]) un hok bare (fun b z=>absurd z (by simp)),r,q⟩
end
def Binds(K:PySem.W.Frag)(fd:FuncData)(ps:List Str)(ds:List Value):Prop:=
 ∀ (s:Shared) (us:List Value),K.In s.heap->(us++ds).length=ps.length->BindsTo s fd ⟨us,[]⟩ (ps.zip (us++ds))
theorem Binds.all{K:PySem.W.Frag}(h:∀ us:List Value,us.length=ps.length->bindArgs fd ⟨us,[]⟩=pure (ps.zip us)):Binds K fd ps []:=fun s us _ hl=>by
 rw[List.append_nil] at hl ⊢;exact .of_eq (h us hl)
section
variable {X:Cx}{CX:CXT}{k:Nat}{f C:Addr}{fd:FuncData}{ps:List Str}{sp:Sp}{dvs:List V}{ds:List Value}{E:XK}{x m:Str}{p pos apos:Pos}{e o:Expr}{es:List Expr}{ta:TE}{t:TA}
structure Mk (K:PySem.W.Frag) (C f:Addr):Prop where
 makes:PySem.W.makesIn K C=true
 init:PySem.W.findIn K (.ref C) "__init__"=some (some (.ref f))
 fn:PySem.W.isFn K (.ref f)=true
 kp:PySem.W.keepIn K (.ref C)=true
end
section
variable {X:Cx}{CX:CXT}{k:Nat}{f C:Addr}{fd:FuncData}{ps ks:List Str}{sp:Sp}{E:XK}{x m:Str}{p pos apos kpos:Pos}{e o:Expr}{es:List Expr}{kws:List Keyword}{te ta:TE}{t tk:TA}{nm:Option Str}
variable {g:List Value->List Value->List Value}{gV:List V->List V->List V}
end
structure FnScope (N P:List Str) (sc:Scope):Prop where
 kind:sc.kind=.function
 co:sc.isCoroutine=false
 gen:sc.isGenerator=false
 nd:N.Nodup
 pre:N.take P.length=P
 par:∀ x∈P,sc.names.lookup x=some .local\/sc.names.lookup x=some .cell
 nofree:∀ y∈sc.names,y.2≠.free
theorem qFO{kindOf:Str->Option NameKind}:∀ {binds:List (Str × Value)} {m:Str->Option Value},(∀ v,(x,v)∉binds)->bindL kindOf binds m x=m x
 | [],_,_=>rfl
 | (n,v)::r,m,h=>by
  unfold bindL;rw[qFO fun w hw=>h w (List.mem_cons_of_mem _ hw)];split
  ·have:x≠n:=by rintro rfl;exact h v List.mem_cons_self
   simp[this]
  ·rfl
theorem qFQ{kindOf:Str->Option NameKind}:∀ {binds:List (Str × Value)} {m:Str->Option Value},(∀ v,(x,v)∉binds)->bindC kindOf binds m x=m x
 | [],_,_=>rfl
 | (n,v)::r,m,h=>by
  unfold bindC;rw[qFQ fun w hw=>h w (List.mem_cons_of_mem _ hw)];split
  ·rfl
  ·have:x≠n:=by rintro rfl;exact h v List.mem_cons_self
   simp[this]
theorem qFP{kindOf:Str->Option NameKind}:∀ {P:List Str} {vs:List Value} {i:Nat} {m:Str->Option Value},P.Nodup->P[i]?=some x->vs[i]?=some v->kindOf x=some .local ->
  bindL kindOf (P.zip vs) m x=some v
 | [],_,_,_,_,h,_,_=>by simp at h
 |_::_,[],_,_,_,_,h,_=>by simp at h
 |p::P,w::vs,0,m,nd,h1,h2,hk=>by
  simp at h1 h2;subst h1;subst h2;show bindL kindOf ((p,w)::P.zip vs) m p=_;unfold bindL;rw[qFO fun v hv=>(List.nodup_cons.mp nd).1 (List.of_mem_zip hv).1,if_pos hk];simp
 |p::P,w::vs,i+1,m,nd,h1,h2,hk=>by
  show bindL kindOf ((p,w)::P.zip vs) m x=_;unfold bindL;exact qFP (i:=i) (List.nodup_cons.mp nd).2 (by simpa using h1) (by simpa using h2) hk
theorem qFR{kindOf:Str->Option NameKind}:∀ {P:List Str} {vs:List Value} {i:Nat} {m:Str->Option Value},P.Nodup->P[i]?=some x->vs[i]?=some v->kindOf x≠some .local ->
  bindC kindOf (P.zip vs) m x=some v
 | [],_,_,_,_,h,_,_=>by simp at h
 |_::_,[],_,_,_,_,h,_=>by simp at h
 |p::P,w::vs,0,m,nd,h1,h2,hk=>by
  simp at h1 h2;subst h1;subst h2;show bindC kindOf ((p,w)::P.zip vs) m p=_;unfold bindC;rw[qFQ fun v hv=>(List.nodup_cons.mp nd).1 (List.of_mem_zip hv).1,if_neg hk];simp
 |p::P,w::vs,i+1,m,nd,h1,h2,hk=>by
  show bindC kindOf ((p,w)::P.zip vs) m x=_;unfold bindC;exact qFR (i:=i) (List.nodup_cons.mp nd).2 (by simpa using h1) (by simpa using h2) hk
def start(N:List Str)(vs:List V):St:=vs.map some++List.replicate (N.length-vs.length) none
def cxOf(CX:CXT)(P:Program)(w:World)(K:PySem.W.Frag)(mg:Str->Option Value)(base:Heap)(N:List Str)(qual:Str)(scope:Scope)(f:Addr)(cd:Value)(A:Around)(outer:List Env)(s:Shared)(H:Hp)(E:XK):Cx where
 prog:=P
 w:=w
 K:=K
 mg:=mg
 base:=base
 A:=A.deeper (envOfC qual scope s.heap.objs.size f cd)
 N:=N
 s₀:=s
 H₀:=H
 env:=envOfC qual scope s.heap.objs.size f cd
 outer:=outer
 stack:=envOfC qual scope s.heap.objs.size f cd::outer
 ex:=[]
 calm:=true
 fn:=fun _=>true
 pn:=[]
 xe:=fun e s'=>wpAny (model P w) (A.deeper (envOfC qual scope s.heap.objs.size f cd)) (leaving (envOfC qual scope s.heap.objs.size f cd) e) (fun _ s''=>CX outer H s E e s'') (fun e' s''=>CX outer H s E e' s'') s'
theorem qFA{sc:Scope}(h:sc.names.lookup x=some .cell):∃ c,(cellsFrom n sc.names []).lookup x=some c:=by
 have q:=PySem.W.cellsFrom_some sc.names n [] (.inl h);exact Option.isSome_iff_exists.mp q
theorem qNJ{K:PySem.W.Frag}
  (S:FnScope N ps scope) (hd:A.handled=none) (e0:Env0 P w K mg base A outer s H) (hl:vs.length=ps.length) (r:Vals vs us)
  (x:InCallC s s.heap.objs.size (bindL (envOfC qual scope s.heap.objs.size f cd).kindOf (ps.zip us) fun _=>none) (cellsFrom (s.heap.objs.size+1) scope.names []) (bindC (envOfC qual scope s.heap.objs.size f cd).kindOf (ps.zip us) fun _=>none) s1) :
  Inv (cxOf CX P w K mg base N qual scope f cd A outer s H E) [] (start N vs) H s1:=by
 have hpl:ps.length<=N.length:=by have:=congrArg List.length S.pre;rw[List.length_take] at this;lia
 obtain ⟨h1,tk,rfl,hk⟩:=x.done;have noA:∀ b:Addr,b∉(cxOf CX P w K mg base N qual scope f cd A outer s H E).ex:=fun b z=>absurd (show b∈([]:List Addr) from z) (by simp)
 refine⟨⟨e0.mod,S.kind,rfl,rfl,Nat.le_refl _,fun y z c h1 h2=>?_,fun y hy=>?_,fun y c _ h=>?_,fun _=>hd,Around.frames_deeper e0.frames,.inr ⟨rfl,rfl⟩,fun b z=>absurd z (noA b),e0.bs,e0.bsz,fun b _ _=>noA b,fun b z=>absurd z (noA b),e0.funs,e0.frf⟩,
  rfl,e0.bare,Un.kept hk,⟨_,x.toInCall.ns,fun i y v h1 h2 h3=>?_⟩,fun y c h=>⟨_,x.cell y c h⟩,e0.hok.fresh (Nat.le_refl _),fun y c h=>?_,fun p hp=>absurd (show p∈([]:List (Addr × Obj)) from hp) (by simp),e0.hok.kept hk,?_⟩
 ·exact name_of_addr x.apart (PySem.mem_of_lookup h1) (PySem.mem_of_lookup h2)
 ·have hy:scope.names.lookup y=some .cell\/scope.names.lookup y=some .free:=hy;rcases hy with hy | hy
  ·exact qFA hy
  ·exact absurd rfl (S.nofree _ (PySem.mem_of_lookup hy))
 ·exact Nat.le_of_lt (x.above y c (PySem.mem_of_lookup h))
 ·have hi:i<vs.length:=by
   unfold start at h2
   by_cases hi:i<vs.length
   ·exact hi
   ·rw[List.getElem?_append_right (by simpa using hi)] at h2;rw[List.getElem?_replicate] at h2;split at h2 <;> cases h2
  have ha:vs[i]?=some v:=by
   unfold start at h2;rw[List.getElem?_append_left (by simpa using hi),List.getElem?_map] at h2;cases e:vs[i]? with
   |none=>rw[e] at h2;cases h2
   |some a=>rw[e] at h2;cases h2;rfl
  obtain ⟨u,hu,rv⟩:=r.get ha
  have hp:ps[i]?=some y:=by
   rw[<- S.pre,List.getElem?_take_of_lt (by lia)];exact h1
  have ndP:ps.Nodup:=by rw[<- S.pre];exact S.nd.sublist (List.take_sublist _ _)
  refine⟨u,rv,?_⟩;rcases S.par y (List.mem_of_getElem? hp) with k | k
  ·exact .inl ⟨k,qFP ndP hp hu k⟩
  ·obtain ⟨c,e⟩:=qFA (n:=s.heap.objs.size+1) k;refine .inr ⟨.inl k,c,e,?_⟩;have q:=x.cell y c e;rw[qFR ndP hp hu (by show scope.names.lookup y≠_;rw[k];decide)] at q;exact q
 ·exact e0.hok.fresh (Nat.le_of_lt (x.above y c (PySem.mem_of_lookup h)))
 ·unfold start;show _=N.length;rw[List.length_append,List.length_map,List.length_replicate]
  lia
theorem fn_of{K:PySem.W.Frag}{kV:Value}
     (lk:K.lookup f=some ⟨oc,od,.func (PySem.W.fnOf name qual params body scope dV kV doc pm an cdv ct),osl⟩) (hcd:PySem.W.codeIn K cdv qual=true) (S:FnScope N ps scope)
    (len:∀ vs H Q E,sp vs H Q E->vs.length=ps.length)
    (hbody:∀ (A:Around) (outer:List Env) (s:Shared) (H:Hp) (vs:List V) (Q:VK) (E:XK),Room k (A.deeper (envOfC qual scope s.heap.objs.size f cdv))->sp vs H Q E ->
      ∃ t,PSs (cxOf CX P w K mg base N qual scope f cdv A outer s H E) body t/\t { nx:=fun _ H'=>Q .non H',rt:=Q } (start N vs) H) :
    FnOk P w K mg base CX (k+1) f (PySem.W.fnOf name qual params body scope dV kV doc pm an cdv ct) ps sp:=by
  refine⟨len,fun A outer s H args us vs Q E hr e0 hb r hsp=>?_⟩;have hl:=len _ _ _ _ hsp;have KX:K.In s.heap:=e0.mod.kin.keeps fun b o e=>(e0.bs b o e).1;have lim:s.heap.NoLimit:=e0.mod.nolimit.keeps fun b o e=>(e0.bs b o e).1
  have hkind:∀ y∈ps.zip us,scope.names.lookup y.1=some .local\/(scope.names.lookup y.1=some .cell/\((cellsFrom (s.heap.objs.size+1) scope.names []).lookup y.1).isSome=true):=fun⟨n,v⟩ hy=>by
    rcases S.par n (List.of_mem_zip hy).1 with q | q
    . exact .inl q
    . exact .inr ⟨q,PySem.W.cellsFrom_some _ _ _ (.inl q)⟩
  refine codeAny_call_function hr.depth (KX _ _ lk) rfl S.co S.gen rfl (PySem.W.codeRec_of KX hcd) (hb _ _ _ _ ?_);refine wpAny_newFunctionEnv_cells S.kind hkind fun env he s1 x=>?_;subst he;refine⟨lim.keeps x.toInCall.keep,codeAny_func ?_⟩;obtain ⟨t,ht,hq⟩:=hbody A outer s H vs Q E (hr.deeper _) hsp;have I:Inv (cxOf CX P w K mg base N qual scope f cdv A outer s H E) [] (start N vs) H s1:=qNJ S hr.hd e0 hl r x;refine wpAny_mono (ht [] s1 (start N vs) H _ I hq) (fun fl s' hs=>?_) fun e s' hs=>hs
  have fin:∀ {U':St} {H':Hp} {v:V} {u:Value},Inv (cxOf CX P w K mg base N qual scope f cdv A outer s H E) [] U' H' s'->RelV v u->Q v H'->CE outer P w H s Q u s':=
    fun {U' H' v u} J rv q=>⟨v,H',J.os,J.bare,J.base,J.hok,rv,q⟩
  cases fl with
  |ret u=>obtain ⟨v,U',H',J,rv,q⟩:=hs;exact fin J rv q
  |next=>obtain ⟨U',H',J,q⟩:=hs;exact fin (v:=V.non) (u:=Value.none) J rfl q
  |brk=>obtain ⟨_,_,_,q⟩:=hs;cases q
  |cont=>obtain ⟨_,_,_,q⟩:=hs;cases q
section
variable {X:Cx}{x:Str}{p pos:Pos}{e:Expr}{es:List Expr}{t:TA}{id T:String}{r:List V->Hp->VK->Prop}
def tCB(r:List V->Hp->VK->Prop)(t:TA):TE:=fun U H Q=>t U H fun vs H1=>r vs H1 Q
theorem pe_callB (hc:qN X (.builtin id) r) (hg:Gl X x) (hm:X.mg x=none) (hv:bootBuiltins x=some (.builtin id)) (ha:PA X (e::es) t) (hn:x≠"__name__":=by decide) (hdb:(x == ("__debug__":Str))=false:=by decide)
  (he:starEach (e::es) X.env=(false,eval e X.env)::starEach es X.env:=by rfl) (hpl:(backTo pos (starEach es X.env)).any (·.1)=false:=by rfl):PE X (.Call (.Name x p) (e::es) [] pos) (tCB r t):=by
 intro pins s U H Q I h;refine wpAny_Call_Name_kw (ld_blt I hg hm hv ?_ hn hdb);exact PyProof.Rows.callWith_builtin1 (thn (ha pos pins s U H _ I h) fun us s1 ⟨vs,H1,I1,r1,q1⟩=>hc pins s1 U H1 vs us Q I1 r1 q1) he hpl
theorem pe_callTy (hc:qN X (.type T) r) (hg:Gl X x) (hm:X.mg x=none) (hv:bootBuiltins x=some (.type T)) (ha:PA X (e::es) t) (hn:x≠"__name__":=by decide) (hdb:(x == ("__debug__":Str))=false:=by decide)
  (he:starEach (e::es) X.env=(false,eval e X.env)::starEach es X.env:=by rfl) (hpl:(backTo pos (starEach es X.env)).any (·.1)=false:=by rfl):PE X (.Call (.Name x p) (e::es) [] pos) (tCB r t):=by
 intro pins s U H Q I h;refine wpAny_Call_Name_kw (ld_blt I hg hm hv ?_ hn hdb);exact PyProof.Rows.callWith_type1 (thn (ha pos pins s U H _ I h) fun us s1 ⟨vs,H1,I1,r1,q1⟩=>hc pins s1 U H1 vs us Q I1 r1 q1) he hpl
end
end L2
namespace HT
open PySem PyProof.Rows
section
open PySem.SeqAt
open PySem.AutoSeq1 (wpAny_loadPart')
open PySem.MeetsSeq PySem.MeetsSeq2 PySem.MeetsSeq3
end
section
variable {prog:Program}{w:World}{A:Around}{E:Value->Shared->Prop}{s:Shared}
theorem cat_tup(ht:IsTup s.heap t vs.toArray)(hb:IsTup s.heap b ws.toArray)(hv:vs≠[])
  (h1:ws=[]->Q (.ref t) s) (h2:ws≠[]->Q (.ref s.heap.objs.size) { s with heap:=s.heap.push { cls:=.type "tuple",data:=.seq (vs++ws).toArray } })
  (hsz:vs.length+ws.length<=sizeLine):wpAny (model prog w) A (binaryOp .Add (.ref t) (.ref b)) Q E s:=by
 obtain ⟨⟨cls,dd,data,sl⟩,ho,hc,n,hd⟩:=id ht;obtain ⟨⟨cls2,dd2,data2,sl2⟩,ho2,hc2,n2,hd2⟩:=id hb;simp only at hc hd hc2 hd2;subst hc hd hc2 hd2;have e:vs.toArray++ws.toArray=(vs++ws).toArray:=by simp
 by_cases hw:ws=[]
 ·exact concat_meets ⟨_,ho,rfl⟩ ⟨_,ho2,rfl⟩ noFill_tuple_add seq_tuple_add PySem.F.slot_tuple_add PySem.F.entry_tuple_add (PySem.F.args_tuple_add_2 _ _)
   (tuple_addW1 t b vs.toArray ws.toArray n n2 dd dd2 sl sl2 (by simpa using hv) (by simp[hw])) ⟨ho,ho2,h1 hw⟩
 ·refine concat_meets ⟨_,ho,rfl⟩ ⟨_,ho2,rfl⟩ noFill_tuple_add seq_tuple_add PySem.F.slot_tuple_add PySem.F.entry_tuple_add (PySem.F.args_tuple_add_2 _ _)
   (tuple_addW2 t b vs.toArray ws.toArray n n2 dd dd2 sl sl2 (by simpa using hv) (by simpa using hw) (by rw[List.size_toArray,List.size_toArray];exact hsz)) ⟨ho,ho2,?_⟩
  rw[e];exact h2 hw
def sIx(n d:Nat):Option Int->Nat
 |none=>d
 |some v=>if v<0 then (v+(n:Int)).toNat else min v.toNat n
theorem sIx_le(n d:Nat)(hd:d<=n)(o:Option Int):sIx n d o<=n:=by
 cases o with
 |none=>exact hd
 |some v=>
  show (if v<0 then (v+(n:Int)).toNat else min v.toNat n)<=n
  by_cases hv:v<0
  ·rw[if_pos hv];lia
  ·rw[if_neg hv];exact Nat.min_le_right _ _
theorem qE3(v:Int)(n d:Nat):(if v<0 then max (v+(n:Int)) 0 else min v (n:Int))=((sIx n d (some v):Nat):Int):=by
 show (if v<0 then max (v+(n:Int)) 0 else min v (n:Int))=(((if v<0 then (v+(n:Int)).toNat else min v.toNat n):Nat):Int)
 by_cases hv:v<0
 ·simp only[if_pos hv];lia
 ·simp only[if_neg hv];lia
theorem qUF(lo hi:Option Int)(n:Nat):Builtin.Slice.sliceAdjust lo hi 1 (n:Int)=(((sIx n 0 lo:Nat):Int),((sIx n n hi:Nat):Int)):=by
 have h1:¬ ((1:Int)<0):=by lia
 unfold Builtin.Slice.sliceAdjust;simp only[h1,if_false];refine Prod.ext ?_ ?_
 ·cases lo with
  |none=>rfl
  |some v=>exact qE3 v n 0
 ·cases hi with
  |none=>rfl
  |some v=>exact qE3 v n n
theorem qJF(i j:Nat):Builtin.Slice.slicePlaces (i:Int) (j:Int) 1=j-i:=by
 unfold Builtin.Slice.slicePlaces;have h1:(1:Int) > 0:=by lia
 simp only[h1,if_true,Int.ediv_one]
 split <;> lia
theorem qCF(p:IsPart v o)(h:Q o s):wpAny (model prog w) A (Builtin.Slice.slicePartIndex v) Q E s:=by
 cases p with
 |none=>exact slicePart_none h
 |int i t=>exact slicePart_int h
theorem qCG{lo:Option Int}{Q:Int × Int × Nat->Shared->Prop}(hs:s.heap.IsSliceOf sl vl vu .none)(pl:IsPart vl lo)(pu:IsPart vu hi)
  (h:Q (((sIx n 0 lo:Nat):Int),1,sIx n n hi-sIx n 0 lo) s):wpAny (model prog w) A (Builtin.Slice.sliceApplied (.ref sl) (pure (n:Int))) Q E s:=by
 obtain ⟨os,hos,hcs,hds⟩:=id hs;unfold Builtin.Slice.sliceApplied Builtin.Slice.sliceFields;refine wpAny_bind (wpAny_bind (wpAny_field hos hds (x:=vl) rfl (wpAny_bind (wpAny_field hos hds (x:=vu) rfl (wpAny_bind (wpAny_field hos hds (x:=.none) rfl (wpAny_pure ?_)))))));refine wpAny_bind (slicePart_none ?_);show wpAny _ _ (if ((1:Int) == 0)=true then _ else _) _ _ s;rw[if_neg (by decide)];refine wpAny_bind (qCF pl (wpAny_bind (qCF pu (wpAny_bind (wpAny_pure ?_)))));show wpAny _ _ (match Builtin.Slice.sliceAdjust lo hi 1 (n:Int) with | (lo,hi)=>pure (lo,(1:Int),Builtin.Slice.slicePlaces lo hi 1)) _ _ s;rw[qUF lo hi n];show wpAny _ _ (pure (((sIx n 0 lo:Nat):Int),(1:Int),Builtin.Slice.slicePlaces ((sIx n 0 lo:Nat):Int) ((sIx n n hi:Nat):Int) 1)) _ _ s;rw[qJF];exact wpAny_pure h
theorem qJG(xs:Array Value)(i k:Nat):((List.range k).filterMap fun (m:Nat)=>xs[((i:Int)+(m:Int)*1).toNat]?).toArray=((xs.toList.drop i).take k).toArray:=by
 have e:(fun (m:Nat)=>xs[((i:Int)+(m:Int)*1).toNat]?)=fun m=>xs[i+m]?:=by
  funext m
  have:((i:Int)+(m:Int)*1).toNat=i+m:=by lia
  rw[this]
 rw[e]
 have:=pick_run xs i k
 rw[List.filterMap_map] at this;have e2:((fun x=>xs[x]?) ∘ fun x=>i+x)=fun m=>xs[i+m]?:=rfl;rw[e2] at this;rw[this]
theorem getItem_tuple_cut{lo:Option Int}(ht:IsTup s.heap t items)(hs:s.heap.IsSliceOf sl vl vu .none)(pl:IsPart vl lo)(pu:IsPart vu hi)
  (hw:¬ (sIx items.size 0 lo=0/\sIx items.size items.size hi=items.size))
  (h:Q (.ref s.heap.objs.size) { s with heap:=s.heap.push { cls:=.type "tuple",data:=.seq ((items.toList.drop (sIx items.size 0 lo)).take (sIx items.size items.size hi-sIx items.size 0 lo)).toArray } })
  (hsz:items.size<=sizeLine):wpAny (model prog w) A (getItem (.ref t) (.ref sl)) Q E s:=by
 have htake:sizeOk (.seq ((items.toList.drop (sIx items.size 0 lo)).take (sIx items.size items.size hi-sIx items.size 0 lo)).toArray):=by
  show ((items.toList.drop (sIx items.size 0 lo)).take (sIx items.size items.size hi-sIx items.size 0 lo)).toArray.size<=sizeLine;rw[List.size_toArray,List.length_take,List.length_drop,Array.length_toList]
  lia
 have hj:sIx items.size items.size hi<=items.size:=sIx_le _ _ (Nat.le_refl _) hi;obtain ⟨os,hos,hcs,hds⟩:=id hs;have hTs:s.TypeIs (.ref sl) "slice":=⟨os,hos,hcs⟩;unfold getItem
 try with_reducible refine wpAny_holding ?_
 first | refine wpAny_bind (wpAny_pure ?_) | skip
 refine wpAny_bind (wpAny_sequenceKey ht.typeIs (by decide) ?_)
 refine wpAny_bind (wpAny_callSpecial?_slot (name:=Str.ofString "__getitem__") ht.typeIs PyProof.Rows.slot_tuple_getitem
  (wpAny_call_entry PyProof.Rows.slot_tuple_getitem ht.typeIs entry_tuple_getitem ?_ (args_tuple_getitem _ _)))
 show wpAny _ _ (Builtin.Tuple.tupleItemsOf (.ref t) >>= _) _ _ s;refine wpAny_bind (tupleItemsOf_ ht ?_);refine wpAny_bind (wpAny_typeOf hTs ?_);rw[if_pos (by decide)];refine wpAny_bind (qCG hs pl pu ?_)
 have hno:¬ ((((sIx items.size 0 lo:Nat):Int) == 0&&(1:Int) == 1&&(sIx items.size items.size hi-sIx items.size 0 lo) == items.size)=true):=by
  intro q;rw[Bool.and_eq_true,Bool.and_eq_true] at q;have q1:((sIx items.size 0 lo:Nat):Int)=0:=eq_of_beq q.1.1;have q2:sIx items.size items.size hi-sIx items.size 0 lo=items.size:=eq_of_beq q.2;exact hw ⟨by lia,by lia⟩
 show wpAny _ _ (if (((sIx items.size 0 lo:Nat):Int) == 0&&(1:Int) == 1&&(sIx items.size items.size hi-sIx items.size 0 lo) == items.size)=true then _ else _) _ _ s;rw[if_neg hno,qJG]
 first
  |exact wpAny_bind (m:=Builtin.Tuple.tupleExact _) (wpAny_newObj_type (wpAny_pure ⟨_,rfl,wpAny_pure h⟩) htake)
  |exact wpAny_bind (m:=Builtin.Tuple.tupleExact _) (wpAny_newObj_type (wpAny_bind (wpAny_pure (wpAny_pure ⟨_,rfl,wpAny_pure h⟩))) htake)
  |exact wpAny_bind (wpAny_bind (m:=Builtin.Tuple.tupleExact _) (wpAny_newObj_type (wpAny_pure (wpAny_pure ⟨_,rfl,wpAny_pure h⟩)) htake))
  |exact wpAny_bind (wpAny_bind (m:=Builtin.Tuple.tupleExact _) (wpAny_newObj_type (wpAny_pure ⟨_,rfl,wpAny_pure h⟩) htake))
end
end HT
namespace L2
open PySem PySem.Spec PyProof.Rows
abbrev TO:=St->Hp->(Option Int->Hp->Prop)->Prop
def PO(X:Cx)(e:Option Expr)(t:TO):Prop:=
 ∀ (pins:List (Addr × Obj)) (s:Shared) (U:St) (H:Hp) (Q:Option Int->Hp->Prop),Inv X pins U H s->t U H Q ->
  wpAny (model X.prog X.w) X.A (evalPart e X.env) (fun u s'=>∃ o H',Inv X pins U H' s'/\IsPart u o/\Q o H') X.xe s
def qHk:TO:=fun _ H Q=>Q none H
def qHh(t:TE):TO:=fun U H Q=>t U H fun x H1=>∃ i,x=.int i/\Q (some i) H1
theorem intsAre_of:∀ {us:List Value},Vals (ns.map V.int) us->IntsAre us ns:=by
 induction ns with
 |nil=>intro us r;rw[List.map_nil] at r;cases r;exact .nil
 |cons n ns ih=>
  intro us r;rw[List.map_cons] at r;cases r with
  |cons r1 r2=>obtain ⟨t,e⟩:=r1;subst e;exact .cons n t (ih r2)
section
variable {X:Cx}{e:Expr}{te:TE}{lo hi:Option Expr}{tl th:TO}{pos p2:Pos}
theorem po_none:PO X none qHk:=by
 intro pins s U H Q I h;rw[evalPart_none];exact wpAny_pure ⟨none,H,I,.none,h⟩
theorem po_some(h:PE X e te):PO X (some e) (qHh te):=by
 intro pins s U H Q I hw;rw[evalPart_some];refine thn (h pins s U H _ I hw) fun u s1 ⟨x,H1,I1,r1,q1⟩=>?_;obtain ⟨i,rfl,q⟩:=q1;obtain ⟨t,rfl⟩:=r1
 exact⟨some i,H1,I1,.int i t,q⟩
def SlR(X:Cx)(r:V->Option Int->Option Int->Hp->VK->Prop):Prop:=
 ∀ (pins:List (Addr × Obj)) (s:Shared) (U:St) (H:Hp) (x:V) (v vl vu:Value) (lo hi:Option Int) (sl:Addr) (Q:VK),Inv X pins U H s->RelV x v->s.heap.IsSliceOf sl vl vu .none->IsPart vl lo->IsPart vu hi->r x lo hi H Q ->
  ∃ T id,typeLookup (.type T) "__getitem__"=pure (some (.builtin id))/\s.TypeIs v T/\wpAny (model X.prog X.w) X.A (getItem v (.ref sl)) (EP X pins U Q) X.xe s
def tSl(r:V->Option Int->Option Int->Hp->VK->Prop)(te:TE)(tl th:TO):TE:=fun U H Q=>te U H fun x H1=>tl U H1 fun l H2=>th U H2 fun u H3=>r x l u H3 Q
theorem pe_slice(hr:SlR X r)(he:PE X e te)(hl:PO X lo tl)(hu:PO X hi th):PE X (.Subscript e (.Slice lo hi none p2) pos) (tSl r te tl th):=by
 intro pins s U H Q I h;refine Subscript_ (thn (he pins s U H _ I h) fun v s1 ⟨x,H1,I1,r1,q1⟩=>?_);refine wpAny_Slice (thn (hl pins s1 U H1 _ I1 q1) fun vl s2 ⟨l,H2,I2,pl,q2⟩=>thn (hu pins s2 U H2 _ I2 q2) fun vu s3 ⟨u,H3,I3,pu,q3⟩=>?_);rw[evalPart_none];refine wpAny_pure ?_;have I4:Inv X pins U H3 { s3 with heap:=s3.heap.push { cls:=.type "slice",data:=.fields #[vl,vu,.none] } }:=I3.kept (t':=s3.toks) fun b ob q=>Heap.get?_push_of_some _ q;obtain ⟨T,id,hT,ht,hg⟩:=hr pins { s3 with heap:=s3.heap.push { cls:=.type "slice",data:=.fields #[vl,vu,.none] } } U H3 x v vl vu l u s3.heap.objs.size Q I4 r1 (Heap.IsSliceOf.new ..) pl pu q3;show wpAny (model X.prog X.w) X.A (subscriptTail e (.Slice lo hi none p2) v (.ref s3.heap.objs.size)) (EP X pins U Q) X.xe { s3 with heap:=s3.heap.push { cls:=.type "slice",data:=.fields #[vl,vu,.none] } };exact tail_any (ops:=[.ref s3.heap.objs.size,v]) ht hT hg (by with_unfolding_all rfl)
def cutV(xs:List V)(lo hi:Option Int):List V:=(xs.drop (HT.sIx xs.length 0 lo)).take (HT.sIx xs.length xs.length hi-HT.sIx xs.length 0 lo)
theorem qEu(xs:List V)(lo hi:Option Int):(cutV xs lo hi).length<=xs.length:=by
 unfold cutV;rw[List.length_take,List.length_drop]
 lia
def qI0(K:PySem.W.Frag):V->Option Int->Option Int->Hp->VK->Prop:=fun x lo hi H Q=>∃ a xs,x=.ref a/\SqT K H a xs /\
 ¬ (HT.sIx xs.length 0 lo=0/\HT.sIx xs.length xs.length hi=xs.length)/\∀ p,H p=none->Q (.ref p) (upd H p (.tup (cutV xs lo hi)))
theorem sl_tup:SlR X (qI0 X.K):=by
 intro pins s U H x v vl vu lo hi sl Q I rx hs pl pu h;obtain ⟨a,xs,rfl,hx,hw,q⟩:=h;cases rx;obtain ⟨its,r,ht,hz⟩:=I.tuple hx;have hlen:its.toArray.size=xs.length:=by rw[List.size_toArray];exact r.length.symm
 refine⟨"tuple",_,PyProof.Rows.slot_tuple_getitem.lookup,ht.typeIs,?_⟩;refine HT.getItem_tuple_cut ht hs pl pu (by rw[hlen];exact hw) ?_ (by rw[hlen];exact hz);rw[hlen];refine⟨.ref s.heap.objs.size,_,I.laid (t':=s.toks) (o:=.tup (cutV xs lo hi)) (fun b ob q=>Heap.get?_push_of_some _ q) (Nat.le_refl _) ?_,rfl,q _ (I.hok.fresh (Nat.le_refl _))⟩
 exact⟨Nat.le_trans (qEu xs lo hi) hz,_,(r.drop (HT.sIx xs.length 0 lo)).take (HT.sIx xs.length xs.length hi-HT.sIx xs.length 0 lo),IsTup.new _ _⟩
def qI7(K:PySem.W.Frag):R2:=fun x y H Q=>∃ a b xs ys,x=.ref a/\y=.ref b/\SqT K H a xs/\SqT K H b ys/\xs≠[]/\xs.length+ys.length<=sizeLine /\
 (ys=[]->Q (.ref a) H)/\(ys≠[]->∀ p,H p=none->Q (.ref p) (upd H p (.tup (xs++ys))))
theorem Vals.nil_iff(r:Vals xs us):us=[]↔xs=[]:=by
 cases r with
 |nil=>simp
 |cons _ _=>simp
theorem op_catT:OpR X (binaryOp .Add) (qI7 X.K):=by
 intro pins s U H x y v u Q I rx ry h;obtain ⟨a,b,xs,ys,rfl,rfl,ha,hb,hx,hz,q1,q2⟩:=h;cases rx;cases ry;obtain ⟨its,r1,p1,_⟩:=I.tuple ha;obtain ⟨its2,r2,p2,_⟩:=I.tuple hb;refine HT.cat_tup p1 p2 (fun z=>hx (r1.nil_iff.mp z)) (fun z=>⟨.ref a,H,I,rfl,q1 (r2.nil_iff.mp z)⟩) (fun z=>?_) (by rw[<- r1.length,<- r2.length];exact hz);refine⟨.ref s.heap.objs.size,_,I.laid (t':=s.toks) (o:=.tup (xs++ys)) (fun b ob q=>Heap.get?_push_of_some _ q) (Nat.le_refl _) ?_,rfl,q2 (fun w=>z (r2.nil_iff.mpr w)) _ (I.hok.fresh (Nat.le_refl _))⟩
 exact⟨by rw[List.length_append];exact hz,_,r1.append r2,IsTup.new _ _⟩
end
def ixN(n:Nat)(i:Int):Option Nat:=if 0<=i then (if i<n then some i.toNat else none) else if -(n:Int)<=i then some (i+n).toNat else none
def atI{α:Type}(xs:List α)(i:Int):Option α:=(ixN xs.length i).bind fun j=>xs[j]?
theorem qDp(h:ixN n i=some j):seqIndex? i n=some j/\j<n/\-(n:Int)<=i/\i<n:=by
 unfold ixN at h
 by_cases h0:0<=i
 ·rw[if_pos h0] at h
  by_cases h1:i<n
  ·rw[if_pos h1] at h;have e:i.toNat=j:=Option.some.inj h
   exact⟨by rw[seqIndex_of h0 h1,e],by lia,by lia,h1⟩
  ·rw[if_neg h1] at h;cases h
 ·rw[if_neg h0] at h
  by_cases h1:-(n:Int)<=i
  ·rw[if_pos h1] at h;have e:(i+n).toNat=j:=Option.some.inj h
   exact⟨by rw[seqIndex_neg (by lia) h1,e],by lia,h1,by lia⟩
  ·rw[if_neg h1] at h;cases h
theorem qBY{α:Type}{xs:List α}{v:α}(h:atI xs i=some v):∃ j,seqIndex? i xs.length=some j/\xs[j]?=some v/\j<xs.length/\-(xs.length:Int)<=i/\i<xs.length:=by
 unfold atI at h;cases e:ixN xs.length i with
 |none=>rw[e] at h;cases h
 |some j=>
  rw[e] at h;obtain ⟨h1,h2,h3,h4⟩:=qDp e
  exact⟨j,h1,h,h2,h3,h4⟩
def PlainIx(b:Expr):Prop:=∀ o i,subscripted b false o i=operate [o,i] (getItem o i)
def IxR(X:Cx)(r:R2):Prop:=
 ∀ (value slice:Expr) (pins:List (Addr × Obj)) (s:Shared) (U:St) (H:Hp) (x y:V) (v u:Value) (Q:VK),Inv X pins U H s->RelV x v->RelV y u->r x y H Q ->
  subscripted slice false v u=operate [v,u] (getItem v u)->wpAny (model X.prog X.w) X.A (subscriptTail value slice v u) (EP X pins U Q) X.xe s
def MtR(X:Cx)(id:String)(r:V->List V->Hp->VK->Prop):Prop:=
 ∀ (pins:List (Addr × Obj)) (s:Shared) (U:St) (H:Hp) (x:V) (xs:List V) (v:Value) (us:List Value) (Q:VK),Inv X pins U H s->RelV x v->Vals xs us->r x xs H Q ->
  wpAny (model X.prog X.w) X.A (call (.builtin id) (v::us)) (EP X pins U Q) X.xe s
section
variable {X:Cx}{a b:Expr}{ta tb:TE}{pos:Pos}
theorem pe_ix(hr:IxR X r)(ha:PE X a ta)(hb:PE X b tb)(hs:PlainIx b):PE X (.Subscript a b pos) (tOp r ta tb):=by
 intro pins s U H Q I h;exact Subscript_ (sQ ha hb I h fun v u s2 x y H2 I2 rx ry q=>hr a b pins s2 U H2 x y v u Q I2 rx ry q (hs _ _))
def qI4(K:PySem.W.Frag):R2:=fun x y H Q=>∃ p xs i v,x=.ref p/\y=.int i/\SqL K H p xs/\atI xs i=some v/\Q v H
def qI2(K:PySem.W.Frag):R2:=fun x y H Q=>∃ p xs i v,x=.ref p/\y=.int i/\SqT K H p xs/\atI xs i=some v/\Q v H
def qI3:R2:=fun x y H Q=>∃ z i c,x=.str z/\y=.int i/\z.length<=sizeLine/\atI z.cps.toList i=some c/\Q (.str ⟨#[c]⟩) H
theorem ix_list:IxR X (qI4 X.K):=by
 intro value slice pins s U H x y v u Q I rx ry h hs;obtain ⟨p,xs,i,z,rfl,rfl,hq,he,q⟩:=h;cases rx;obtain ⟨t,rfl⟩:=ry;obtain ⟨its,r,pl,hz⟩:=I.list hq;obtain ⟨j,h1,h2,h3,h4,h5⟩:=qBY he;obtain ⟨w,ew,rw'⟩:=r.get h2;have hl:=r.length;have hn:=uK;have fin:EP X pins U Q w s:=⟨z,H,I,rw',q⟩
 by_cases h0:0<=i
 ·have hj:i.toNat=j:=by
   rw[seqIndex_of h0 h5] at h1;exact Option.some.inj h1
  exact item_listR pl.isList h0 (by lia) (by rw[hj];simpa using ew) fin hs
 ·have hj:(i+(its.toArray.size:Int)).toNat=j:=by
   rw[seqIndex_neg (by lia) h4] at h1;rw[List.size_toArray,<- hl];exact Option.some.inj h1
  exact subscriptTail_builtinR (x:=w) pl.isList.typeIs slot_list_getitem.lookup
   (wpAny_getItem_list_neg (Q:=fun r s'=>r=w/\EP X pins U Q r s') pl.isList (by lia) (by rw[List.size_toArray] <;> lia) (by lia) (by rw[hj];simpa using ew) ⟨rfl,fin⟩) hs
theorem ix_tup:IxR X (qI2 X.K):=by
 intro value slice pins s U H x y v u Q I rx ry h hs;obtain ⟨p,xs,i,z,rfl,rfl,hq,he,q⟩:=h;cases rx;obtain ⟨t,rfl⟩:=ry;obtain ⟨its,r,pl,hz⟩:=I.tuple hq;obtain ⟨j,h1,h2,h3,h4,h5⟩:=qBY he;obtain ⟨w,ew,rw'⟩:=r.get h2;have hl:=r.length;have hn:=uK;have fin:EP X pins U Q w s:=⟨z,H,I,rw',q⟩
 exact subscriptTail_builtinR (x:=w) pl.typeIs slot_tuple_getitem.lookup
  (getItem_tuple (j:=j) (Q:=fun r s'=>r=w/\EP X pins U Q r s') pl (by lia) (by lia) (by rw[List.size_toArray,<- hl];exact h1) (by simpa using ew) ⟨rfl,fin⟩) hs
theorem ix_str:IxR X qI3:=by
 intro value slice pins s U H x y v u Q I rx ry h hs;obtain ⟨z,i,c,rfl,rfl,hz,he,q⟩:=h;obtain ⟨t,rfl⟩:=rx;obtain ⟨t',rfl⟩:=ry;obtain ⟨j,h1,h2,h3,h4,h5⟩:=qBY he;have hl:z.cps.toList.length=z.length:=by simp[Str.length]
 rw[hl] at h1 h4 h5;have hn:=uK
 exact tail_any (typeIs_str s z t) slot_str_getitem.lookup (getItem_str (c:=c) (by
  have e1:decide (i < -(2 ^ 63:Int))=false:=decide_eq_false (by lia);have e2:decide (i ≥ 2 ^ 63)=false:=decide_eq_false (by lia)
  rw[e1,e2,Bool.or_false]) (by rw[h1];simpa using h2) ⟨.str ⟨#[c]⟩,H,I.tok _,⟨_,rfl⟩,q⟩) hs
theorem qLb(its:List Value)(n j:Nat)(u:Value):Obj.mapSeq (·.setIfInBounds j u) { cls:=.type "list",data:=.seq its.toArray n }={ cls:=.type "list",data:=.seq (its.set j u).toArray n }:=by
 simp[Obj.mapSeq]
theorem Inv.lst(I:Inv X pins U H s)(h:H p=some (.lst xs)) :
  ∃ (its:List Value) (n:Nat),Vals xs its/\s.heap.get? p=some { cls:=.type "list",data:=.seq its.toArray n }/\xs.length<=sizeLine:=by
 obtain ⟨z,its,n,r,e⟩:=I.hok p _ h
 exact⟨its,n,r,e,z⟩
theorem Inv.lstUpd{its:List Value}(I:Inv X pins U H s)(h:H p=some (.lst xs))
  (ho:s.heap.get? p=some { cls:=.type "list",data:=.seq its.toArray n }) (hf:f { cls:=.type "list",data:=.seq its.toArray n }={ cls:=.type "list",data:=.seq its'.toArray n' }) (r:Vals ys its') (hz:ys.length<=sizeLine) (t:Nat) :
  Inv X pins U (upd H p (.lst ys)) { s with heap:=s.heap.update p f,toks:=t }:=by
 have e:(s.heap.update p f).get? p=some { cls:=.type "list",data:=.seq its'.toArray n' }:=by
  rw[Heap.get?_update_self f ho (by rw[hf] <;> rfl),hf]
 refine I.write (x:=p) (e:=p) (by rw[h];trivial) (.inl rfl) (fun b u hb q=>(Heap.get?_update_other _ _ (Ne.symm hb)).trans q) ⟨_,e⟩ ?_
 exact⟨hz,its',n',r,e⟩
def rSetL:V->V->V->Hp->(Hp->Prop)->Prop:=fun o i v H Q=>∃ p xs k j,o=.ref p/\i=.int k/\H p=some (.lst xs)/\ixN xs.length k=some j/\Q (upd H p (.lst (xs.set j v)))
theorem set_list:PSet X rSetL:=by
 intro pins s U H o i v ov iv u Q I ro ri rv h;obtain ⟨p,xs,k,j,rfl,rfl,hp,hj,q⟩:=h;cases ro;obtain ⟨t,rfl⟩:=ri;obtain ⟨its,n,r,ho,hz⟩:=I.lst hp;obtain ⟨h1,h2,h3,h4⟩:=qDp hj;have hl:=r.length;have hn:=uK
 have I':Inv X pins U (upd H p (.lst (xs.set j v))) { s with heap:=s.heap.update p (Obj.mapSeq (·.setIfInBounds j u)) }:=
  I.lstUpd hp ho (qLb its n j u) (r.set rv j) (by rw[List.length_set];exact hz) s.toks
 by_cases h0:0<=k
 ·have hk:k.toNat=j:=by
   rw[seqIndex_of h0 h4] at h1;exact Option.some.inj h1
  exact PySem.W.ki_setAt ho h0 (by lia) (by rw[List.size_toArray,<- hl];exact h4) (by rw[hk];exact⟨_,I',q⟩)
 ·have hk:(k+(its.toArray.size:Int)).toNat=j:=by
   rw[seqIndex_neg (by lia) h3] at h1;rw[List.size_toArray,<- hl];exact Option.some.inj h1
  exact PySem.W.ki_setBack ho (by lia) (by rw[List.size_toArray,<- hl];exact h3) (by lia) (by rw[hk];exact⟨_,I',q⟩)
theorem qIG(lo hi:Option Int)(n:Nat):(sliceBounds lo hi none n).1=((HT.sIx n 0 lo:Nat):Int)/\(sliceBounds lo hi none n).2.1=((HT.sIx n n hi:Nat):Int)/\(sliceBounds lo hi none n).2.2=1:=by
 refine⟨?_,?_,rfl⟩
 ·cases lo with
  |none=>simp[sliceBounds,HT.sIx]
  |some i=>
   simp only[sliceBounds,HT.sIx,Option.getD_none,show (1:Int) > 0 by decide,if_true]
   by_cases h:i<0
   ·simp only[h,if_true] <;> lia
   ·simp only[h,if_false] <;> lia
 ·cases hi with
  |none=>simp[sliceBounds,HT.sIx]
  |some i=>
   simp only[sliceBounds,HT.sIx,Option.getD_none,show (1:Int) > 0 by decide,if_true]
   by_cases h:i<0
   ·simp only[h,if_true] <;> lia
   ·simp only[h,if_false] <;> lia
theorem qIH(its:List Value)(lo hi:Option Int):slicePick its.toArray lo hi none=((its.drop (HT.sIx its.length 0 lo)).take (HT.sIx its.length its.length hi-HT.sIx its.length 0 lo)).toArray:=by
 obtain ⟨h1,h2,h3⟩:=qIG lo hi its.toArray.size;unfold slicePick;rw[h1,h2,h3];simp only[sliceRange_one,pick_run,List.size_toArray] <;> rfl
def qI1(K:PySem.W.Frag):V->Option Int->Option Int->Hp->VK->Prop:=fun x lo hi H Q=>∃ a xs,x=.ref a/\SqL K H a xs/\∀ p,H p=none->Q (.ref p) (upd H p (.lst (cutV xs lo hi)))
theorem sl_list:SlR X (qI1 X.K):=by
 intro pins s U H x v vl vu lo hi sl Q I rx hs pl pu h;obtain ⟨a,xs,rfl,hx,q⟩:=h;cases rx;obtain ⟨its,r,ht,hz⟩:=I.list hx;have hlen:=r.length;refine⟨"list",_,slot_list_getitem.lookup,ht.isList.typeIs,?_⟩;refine wpAny_getItem_list_slice ht.isList hs pl pu .none (by simp) ?_ (by rw[List.size_toArray] <;> lia);rw[qIH,<- hlen];refine⟨.ref s.heap.objs.size,_,I.laid (t':=s.toks) (o:=.lst (cutV xs lo hi)) (fun b ob q=>Heap.get?_push_of_some _ q) (Nat.le_refl _) ?_,rfl,q _ (I.hok.fresh (Nat.le_refl _))⟩
 exact⟨Nat.le_trans (qEu xs lo hi) hz,_,0,(r.drop (HT.sIx xs.length 0 lo)).take (HT.sIx xs.length xs.length hi-HT.sIx xs.length 0 lo),Heap.get?_push_size _ rfl⟩
def flatV:V->Bool
 | .non=>true
 | .bl _=>true
 | .int _=>true
 | .str _=>true
 |_=>false
def eqV:V->V->Bool
 | .non,.non=>true
 | .bl a,.bl b=>a == b
 | .bl a,.int b=>(if a then 1 else 0) == b
 | .int a,.bl b=>a == (if b then 1 else 0)
 | .int a,.int b=>a == b
 | .str a,.str b=>a == b
 |_,_=>false
theorem qO4(ry:RelV y u)(rx:RelV x v)(fy:flatV y=true)(fx:flatV x=true):SeqAt.EqAt A s u v (eqV y x):=by
 cases y with
 |non=>
  cases ry;cases x with
  |non=>cases rx;exact SeqAt.EqAt.same _
  |bl b=>cases rx;exact SeqAt.EqAt.none_bool b
  |int b=>obtain ⟨t,rfl⟩:=rx;exact SeqAt.EqAt.none_int b t
  |str b=>obtain ⟨t,rfl⟩:=rx;exact SeqAt.EqAt.none_str b t
  |_=>exact absurd (show false=true from fx) Bool.false_ne_true
 |bl a=>
  cases ry;cases x with
  |non=>cases rx;exact SeqAt.EqAt.bool_none a
  |bl b=>cases rx;exact SeqAt.EqAt.bool_bool a b
  |int b=>obtain ⟨t,rfl⟩:=rx;exact SeqAt.EqAt.bool_int a b t
  |str b=>obtain ⟨t,rfl⟩:=rx;exact SeqAt.EqAt.bool_str a b t
  |_=>exact absurd (show false=true from fx) Bool.false_ne_true
 |int a=>
  obtain ⟨t',rfl⟩:=ry;cases x with
  |non=>cases rx;exact SeqAt.EqAt.int_none a t'
  |bl b=>cases rx;exact SeqAt.EqAt.int_bool a t' b
  |int b=>obtain ⟨t,rfl⟩:=rx;exact SeqAt.EqAt.int_int a t' b t
  |str b=>obtain ⟨t,rfl⟩:=rx;exact SeqAt.EqAt.int_str a t' b t
  |_=>exact absurd (show false=true from fx) Bool.false_ne_true
 |str a=>
  obtain ⟨t',rfl⟩:=ry;cases x with
  |non=>cases rx;exact SeqAt.EqAt.str_none a t'
  |bl b=>cases rx;exact SeqAt.EqAt.str_bool a t' b
  |int b=>obtain ⟨t,rfl⟩:=rx;exact SeqAt.EqAt.str_int a t' b t
  |str b=>obtain ⟨t,rfl⟩:=rx;exact SeqAt.EqAt.str_str a t' b t
  |_=>exact absurd (show false=true from fx) Bool.false_ne_true
 |_=>exact absurd (show false=true from fy) Bool.false_ne_true
def eqU(x:V)(u:Value):Bool:=match u with
 | .none=>eqV .non x
 | .bool b=>eqV (.bl b) x
 | .int i _=>eqV (.int i) x
 | .str z _=>eqV (.str z) x
 |_=>false
theorem qEj(r:RelV y u)(f:flatV y=true):eqU x u=eqV y x:=by
 cases y with
 |non=>cases r;rfl
 |bl b=>cases r;rfl
 |int i=>obtain ⟨t,rfl⟩:=r;rfl
 |str z=>obtain ⟨t,rfl⟩:=r;rfl
 |_=>exact absurd (show false=true from f) Bool.false_ne_true
theorem bN:∀ {xs:List V} {us:List Value},Vals xs us->xs.all flatV=true->us.any (eqU x)=xs.any fun y=>eqV y x
 |_,_,.nil,_=>rfl
 |y::xs,u::us,.cons r t,f=>by
  rw[List.all_cons,Bool.and_eq_true] at f;rw[List.any_cons,List.any_cons,qEj r f.1,bN t f.2]
theorem aG(rx:RelV x v)(fx:flatV x=true):∀ {xs:List V} {us:List Value},Vals xs us->xs.all flatV=true->∀ u∈us,SeqAt.EqAt A s u v (eqU x u)
 |_,_,.nil,_=>fun u hu=>by cases hu
 |y::xs,u::us,.cons r t,f=>fun u' hu=>by
  rw[List.all_cons,Bool.and_eq_true] at f;rcases List.mem_cons.mp hu with rfl | hu
  ·rw[qEj r f.1];exact qO4 r rx f.1 fx
  ·exact aG rx fx t f.2 u' hu
def inV(x:V)(xs:List V):Bool:=xs.any fun y=>eqV y x
def rIn(K:PySem.W.Frag)(neg:Bool):R2:=fun x y H Q=>∃ p xs,y=.ref p/\(SqL K H p xs\/SqT K H p xs)/\flatV x=true/\xs.all flatV=true/\Q (.bl (if neg then !inV x xs else inV x xs)) H
theorem op_in_seq:OpR X (compareOp .In) (rIn X.K false):=by
 intro pins s U H x y v u Q I rx ry h;obtain ⟨p,xs,rfl,hq,fx,fs,q⟩:=h;cases ry;rcases hq with hq | hq
 ·obtain ⟨its,r,pl,hz⟩:=I.list hq;refine SeqAt.in_listAt (eqU x) pl.isList (fun w hw=>aG rx fx r fs w (by simpa using hw)) ⟨.bl _,H,I,rfl,?_⟩;rw[show its.toArray.any (eqU x)=its.any (eqU x) by simp,bN r fs];exact q
 ·obtain ⟨its,r,pl,hz⟩:=I.tuple hq;refine SeqAt.in_tupleAt (eqU x) pl (fun w hw=>aG rx fx r fs w (by simpa using hw)) ⟨.bl _,H,I,rfl,?_⟩;rw[show its.toArray.any (eqU x)=its.any (eqU x) by simp,bN r fs];exact q
theorem op_notIn_seq:OpR X (compareOp .NotIn) (rIn X.K true):=by
 intro pins s U H x y v u Q I rx ry h;obtain ⟨p,xs,rfl,hq,fx,fs,q⟩:=h;cases ry;rcases hq with hq | hq
 ·obtain ⟨its,r,pl,hz⟩:=I.list hq;refine SeqAt.notIn_listAt (eqU x) pl.isList (fun w hw=>aG rx fx r fs w (by simpa using hw)) ⟨.bl _,H,I,rfl,?_⟩;rw[show its.toArray.any (eqU x)=its.any (eqU x) by simp,bN r fs];exact q
 ·obtain ⟨its,r,pl,hz⟩:=I.tuple hq;refine SeqAt.notIn_tupleAt (eqU x) pl (fun w hw=>aG rx fx r fs w (by simpa using hw)) ⟨.bl _,H,I,rfl,?_⟩;rw[show its.toArray.any (eqU x)=its.any (eqU x) by simp,bN r fs];exact q
theorem call_list_of:qN X (.type "list") (fun xs H Q=>∃ p ys,xs=[.ref p]/\(SqL X.K H p ys\/SqT X.K H p ys)/\∀ l,H l=none->Q (.ref l) (upd H l (.lst ys))):=by
 intro pins s U H xs us Q I r h;obtain ⟨p,ys,rfl,hq,q⟩:=h;obtain ⟨u,rfl,rx⟩:=vals1 r;cases rx
 have fin:∀ (its:List Value),Vals ys its->ys.length<=sizeLine->∀ (h':Heap) (c':Nat),(∀ b o',s.heap.get? b=some o'->h'.get? b=some o') ->
   h'.get? s.heap.objs.size=some { cls:=.type "list",dict:=none,data:=.seq its.toArray c',slots:=#[] }->EP X pins U Q (.ref s.heap.objs.size) { s with heap:=h' }:=fun its r' hz h' c' kp e=>
  ⟨.ref s.heap.objs.size,_,I.laid (t':=s.toks) kp (Nat.le_refl _) (show ObjOk X.prog X.w _ h' _ (.lst ys) from ⟨hz,its,c',r',e⟩),rfl,q _ (I.hok.fresh (Nat.le_refl _))⟩
 rcases hq with hq | hq
 ·obtain ⟨its,r',pl,hz⟩:=I.list hq;have hlen:=r'.length;obtain ⟨o,ho,hc,n,hd⟩:=pl.isList;exact call_list_seq p (.inl rfl) ho hc hd (fun h' c' kp e=>fin its r' hz h' c' kp e) (by simp only[List.size_toArray] <;> lia)
 ·obtain ⟨its,r',pl,hz⟩:=I.tuple hq;have hlen:=r'.length;obtain ⟨o,ho,hc,n,hd⟩:=pl;exact call_list_seq p (.inr rfl) ho hc hd (fun h' c' kp e=>fin its r' hz h' c' kp e) (by simp only[List.size_toArray] <;> lia)
theorem call_tuple_of:qN X (.type "tuple") (fun xs H Q=>∃ p ys,xs=[.ref p]/\((SqL X.K H p ys/\∀ l,H l=none->Q (.ref l) (upd H l (.tup ys)))\/(SqT X.K H p ys/\Q (.ref p) H))):=by
 intro pins s U H xs us Q I r h;obtain ⟨p,ys,rfl,h⟩:=h;obtain ⟨u,rfl,rx⟩:=vals1 r;cases rx;rcases h with⟨hq,q⟩ | ⟨hq,q⟩
 ·obtain ⟨its,r',pl,hz⟩:=I.list hq;have hlen:=r'.length;refine call_tuple_list pl.isList (fun h' kp=>?_) (by simp only[List.size_toArray] <;> lia);have I1:Inv X pins U H { s with heap:=h' }:=I.kept (t':=s.toks) kp
  have I2:Inv X pins U (upd H h'.objs.size (.tup ys)) { s with heap:=h'.push { cls:=.type "tuple",data:=.seq its.toArray } }:=
   I1.laid (t':=s.toks) (fun b o e=>Heap.get?_push_of_some _ e) (Nat.le_refl _) (show ObjOk X.prog X.w _ _ _ (.tup ys) from ⟨hz,its,r',IsTup.new _ _⟩)
  exact⟨.ref h'.objs.size,_,I2,rfl,q _ (I1.hok.fresh (Nat.le_refl _))⟩
 ·obtain ⟨its,r',pl,hz⟩:=I.tuple hq;exact call_tuple_same pl ⟨.ref p,H,I,rfl,q⟩
def tyV(K:PySem.W.Frag)(T:String)(x:V)(H:Hp):Prop:=match x with
 | .str _=>T="str"
 | .int _=>T="int"
 | .ref p=>(T="list"/\∃ xs,SqL K H p xs)\/(T="tuple"/\∃ o,K.lookup p=some o/\o.cls=.type "tuple"/\o.dict=none) \/
   (T="dict"/\((∃ kvs,H p=some (.dK kvs))\/∃ kvs,H p=some (.dT kvs)))\/(T="set"/\∃ S n,H p=some (.set S n))
 |_=>False
theorem qHF(I:Inv X pins U H s)(r:RelV x v)(ty:tyV X.K T x H) :
  s.TypeIs v T/\∀ a,v=.ref a->∃ ob,s.heap.get? a=some ob/\ob.dict=none:=by
 cases x with
 |str z=>
  obtain ⟨t,rfl⟩:=r;cases (show T="str" from ty)
  exact⟨typeIs_str s z t,fun _ e=>nomatch e⟩
 |int i=>
  obtain ⟨t,rfl⟩:=r;cases (show T="int" from ty)
  exact⟨typeIs_int s i t,fun _ e=>nomatch e⟩
 |ref p=>
  cases r;rcases ty with⟨rfl,xs,hq⟩ | ⟨rfl,o,hk,hc,hd⟩ | ⟨rfl,hk⟩ | ⟨rfl,S,n,hk⟩
  ·obtain ⟨its,_,pl,_⟩:=I.list hq;refine⟨pl.isList.typeIs,fun a e=>?_⟩;cases e;obtain ⟨o,n,e,c,hd,_⟩:=pl
   exact⟨o,e,hd⟩
  ·refine⟨⟨o,I.kIn p o hk,hc⟩,fun a e=>?_⟩;cases e
   exact⟨o,I.kIn _ o hk,hd⟩
  ·have z:∃ o,s.heap.get? p=some o/\o.ExactDict:=by
    rcases hk with⟨kvs,hk⟩ | ⟨kvs,hk⟩
    ·obtain ⟨_,_,_,_,o,_,_,e,ex,_⟩:=I.hok p _ hk
     exact⟨o,e,ex⟩
    ·obtain ⟨_,_,_,_,o,_,_,e,ex,_⟩:=I.hok p _ hk
     exact⟨o,e,ex⟩
   obtain ⟨o,e,ex⟩:=z;refine⟨⟨o,e,ex.1⟩,fun a e2=>?_⟩;cases e2
   exact⟨o,e,ex.2.1⟩
  ·obtain ⟨o,_,_,_,e,ex,_⟩:=I.hok p _ hk;refine⟨⟨o,e,ex.1⟩,fun a e2=>?_⟩;cases e2
   exact⟨o,e,ex.2.1⟩
 |_=>cases ty
def tBM(K:PySem.W.Frag)(T:String)(r:V->List V->Hp->VK->Prop)(to:TE)(t:TA):TE:=fun U H Q=>to U H fun x H1=>tyV K T x H1/\t U H1 fun xs H2=>r x xs H2 Q
variable {o e:Expr}{es:List Expr}{to:TE}{t:TA}{name:Str}{apos cpos:Pos}{T id:String}{r:V->List V->Hp->VK->Prop}
theorem pe_bm (pa:PlainAttrs T) (slot:Slot T name id) (hty:typeOf (.builtin id)=pure (.type "method_descriptor")) (hm:MtR X id r) (ho:PE X o to) (ha:PA X (e::es) t)
  (hbase:attributeBase o name X.env (eval o X.env)=eval o X.env:=by rfl)
  (hfew:((backTo cpos (starEach (e::es) X.env)).all (fun x=>!x.1)&&(backToKw cpos (keywordEach [] X.env)).all (fun x=>x.1.isSome)
  &&decide ((e::es).length+([]:List Keyword).length+(if ([]:List Keyword).isEmpty then 0 else 1)<30))=true:=by rfl)
  (hline:(apos.endLine == cpos.line)=true:=by rfl) (hs:starEach (e::es) X.env=(false,eval e X.env)::starEach es X.env:=by rfl) (hplain:(backTo cpos (starEach es X.env)).any (·.1)=false:=by rfl) :
  PE X (.Call (.Attribute o name apos) (e::es) [] cpos) (tBM X.K T r to t):=by
 intro pins s U H Q I h;refine wpAny_Call_method_late hbase hfew hline rfl (thn (ho pins s U H _ I h) fun v s1 ⟨x,H1,I1,r1,ty,q1⟩=>?_);obtain ⟨h1,h2⟩:=qHF I1 r1 ty;refine⟨T,id,pa,slot,hty,h1,h2,?_⟩;have hA:=ha cpos pins s1 U H1 _ I1 q1;rw[hs] at hA ⊢;refine Calls.callWith_builtin (by show (false || (backTo cpos (starEach es X.env)).any (·.1))=false;rw[hplain] <;> rfl) (Calls.evalArgs_plain ?_);exact thn hA fun us s2 ⟨vs,H2,I2,r2,q2⟩=>hm pins s2 U H2 x vs v us Q I2 r1 r2 q2
end
def MtM(X:Cx)(id:String)(r:V->List V->Hp->VK->Prop):Prop:=
 ∀ (pins:List (Addr × Obj)) (s:Shared) (U:St) (H:Hp) (x:V) (xs:List V) (v:Value) (us:List Value) (Q:VK),Inv X pins U H s->RelV x v->Vals xs us->r x xs H Q ->
  wpAny (model X.prog X.w) X.A (call (.builtin id) (v::us)) (EP X pins U Q) X.xe s
theorem Vals.one(h:Vals [x] us):∃ u,us=[u]/\RelV x u:=by
 cases h with
 |cons r t=>cases t;exact⟨_,rfl,r⟩
theorem Vals.two(h:Vals [x,y] us):∃ u v,us=[u,v]/\RelV x u/\RelV y v:=by
 cases h with
 |cons r t=>cases t with
  |cons q z=>cases z;exact⟨_,_,rfl,r,q⟩
section
variable {X:Cx}{pins:List (Addr × Obj)}{U:St}{H:Hp}{s:Shared}{l b:Addr}{xs ys zs:List V}
theorem Inv.lset{its:List Value}(I:Inv X pins U H s)(hH:H l=some (.lst xs))
  (e:s.heap.get? l=some { cls:=.type "list",data:=.seq its.toArray n }) (hf:f its.toArray=its'.toArray) (hv:Vals ys its') (hz:ys.length<=sizeLine) :
  Inv X pins U (upd H l (.lst ys)) { s with heap:=s.heap.update l (Obj.mapSeq f),toks:=t' }:=by
 have q:=PySem.IsL.update e f;rw[hf] at q;refine I.write (x:=l) (e:=l) (by rw[hH];exact trivial) (.inl rfl) (fun b' u hb hu=>(Heap.get?_update_other s.heap (Obj.mapSeq f) (Ne.symm hb)).trans hu) ⟨_,q⟩ ?_
 exact⟨hz,its',_,hv,q⟩
theorem Inv.lnew(I:Inv X pins U H s)(hv:Vals ys its)(hz:ys.length<=sizeLine) :
  Inv X pins U (upd H s.heap.objs.size (.lst ys)) { s with heap:=s.heap.push { cls:=.type "list",data:=.seq its.toArray },toks:=t' }:=
 I.laid (fun _ _ q=>Heap.get?_push_of_some _ q) (Nat.le_refl _) ⟨hz,its,0,hv,Heap.get?_push_size _ rfl⟩
theorem Inv.fresh(I:Inv X pins U H s):H s.heap.objs.size=none:=I.hok.fresh (Nat.le_refl _)
theorem Inv.lstM(I:Inv X pins U H s)(hH:H l=some (.lst xs)):xs.length<=sizeLine/\∃ (its:List Value) (n:Nat),Vals xs its/\xs.length=its.length/\s.heap.get? l=some { cls:=.type "list",data:=.seq its.toArray n }:=by
 obtain ⟨z,its,n,r,e⟩:=I.hok l _ hH
 exact⟨z,its,n,r,r.length,e⟩
theorem qKA(h:n<=sizeLine):Builtin.List.listTooLong n=false:=by
 unfold Builtin.List.listTooLong;exact decide_eq_false (by lia)
end
section
variable {X:Cx}
def qI9:V->List V->Hp->VK->Prop:=fun x vs H Q=>∃ l xs y,x=.ref l/\vs=[y]/\H l=some (.lst xs)/\xs.length<sizeLine/\Q .non (upd H l (.lst (xs++[y])))
theorem mt_append:MtM X "list.append" qI9:=by
 intro pins s U H x vs v us Q I rx rv h;obtain ⟨l,xs,y,rfl,rfl,hH,hz,q⟩:=h;cases rx;obtain ⟨u,rfl,ru⟩:=rv.one;obtain ⟨z,its,n,r,hl,e⟩:=I.lstM hH;refine call_meets F.slot_list_append ⟨_,e,rfl⟩ F.entry_list_append (F.args_list_append_2 _ _) (PySem.list_append l its.toArray n u (by rw[List.size_toArray];lia)) ⟨e,?_⟩;refine⟨.non,_,I.lset (its':=its++[u]) hH e (by simp) (r.append (.cons ru .nil)) ?_,rfl,q⟩;rw[List.length_append,List.length_singleton]
 lia
def qI6:V->List V->Hp->VK->Prop:=fun x vs H Q=>∃ l b xs zs,x=.ref l/\vs=[.ref b]/\H l=some (.lst xs)/\H b=some (.lst zs)/\xs.length+zs.length<=sizeLine/\Q .non (upd H l (.lst (xs++zs)))
theorem mt_extend:MtM X "list.extend" qI6:=by
 intro pins s U H x vs v us Q I rx rv h;obtain ⟨l,b,xs,zs,rfl,rfl,hH,hB,hz,q⟩:=h;cases rx;obtain ⟨u,rfl,ru⟩:=rv.one;cases ru;obtain ⟨z,its,n,r,hl,e⟩:=I.lstM hH;obtain ⟨z2,its2,n2,r2,hl2,e2⟩:=I.lstM hB;have hsz:its.toArray.size+its2.toArray.size<=sizeLine:=by rw[List.size_toArray,List.size_toArray];lia
 have hlong:¬ (!its.toArray.isEmpty&&Builtin.List.listTooLong (its.toArray.size+its2.toArray.size))=true:=by
  rw[qKA hsz,Bool.and_false];exact Bool.false_ne_true
 refine call_meets F.slot_list_extend ⟨_,e,rfl⟩ F.entry_list_extend (F.args_list_extend_2 _ _)
  (AutoSeq1.list_extend_list_list_0 l its.toArray n b its2.toArray n2 hlong (by rw[List.size_toArray];lia) (by lia)) ⟨e,e2,?_⟩
 refine⟨.non,_,I.lset (its':=its++its2) hH e (by simp) (r.append r2) ?_,rfl,q⟩;rw[List.length_append]
 lia
def qI8:R2:=fun x y H Q=>∃ l b xs zs,x=.ref l/\y=.ref b/\H l=some (.lst xs)/\H b=some (.lst zs)/\xs.length+zs.length<=sizeLine/\∀ p,H p=none->Q (.ref p) (upd H p (.lst (xs++zs)))
theorem op_cat:OpR X (binaryOp .Add) qI8:=by
 intro pins s U H x y v u Q I rx ry h;obtain ⟨l,b,xs,zs,rfl,rfl,hH,hB,hz,q⟩:=h;cases rx;cases ry;obtain ⟨z,its,n,r,hl,e⟩:=I.lstM hH;obtain ⟨z2,its2,n2,r2,hl2,e2⟩:=I.lstM hB;refine PySem.P.add_list e e2 ?_ (by rw[List.size_toArray,List.size_toArray];lia);have ea:its.toArray++its2.toArray=(its++its2).toArray:=by simp
 rw[ea]
 exact⟨.ref _,_,I.lnew (t':=s.toks) (r.append r2) (by rw[List.length_append];lia),rfl,q _ I.fresh⟩
end
section
variable {prog:Program}{w:World}{A:Around}{E:Value->Shared->Prop}{s:Shared}
end
section
variable {X:Cx}
end
end L2
namespace Att
open PySem PySem.W PySem.Calls PyProof.Rows
theorem qNK:∀ (ns:List Int) (vs:List Value),WellAll P h vs (ns.map WData.int)->IntsAre vs ns:=by
 intro ns
 induction ns with
 |nil=>intro vs w;rw[List.map_nil] at w;cases w;exact .nil
 |cons n ns ih=>
  intro vs w;rw[List.map_cons] at w;cases w with
  |cons a b=>cases a;exact .cons _ _ (ih _ b)
theorem qIS{l:OpenLaw}(hn:l.most=some n)
  (hpre:l.row.toRowW.claim.pre args=true) (hwl:WellAll P h vals args) :
  ∃ a vs ns,vals=[Value.ref a]/\args=[WData.list (ns.map WData.int)]/\h.get? a=some { cls:=.type "list",data:=.seq vs.toArray }/\IntsAre vs ns/\ns.length<=n:=by
 have hsh:WShape.hasAll [] args [.list .int]=true:=(pre_splitW hpre).1;have hc:l.pre.holds [] { args:=args }=true:=(pre_splitW hpre).2;obtain ⟨d,r,rfl,h1,h2⟩:=hasAllW_cons hsh;obtain rfl:=hasAllW_nil h2;obtain ⟨xs,rfl,h3⟩:=hasW_list h1;obtain ⟨ns,rfl⟩:=items_int h3
 have hlen:ns.length<=n:=by
  unfold OpenLaw.pre at hc
  have h4:(WTm.not (.lt (.lit (.int (n:Int))) (.len (.arg 0)))).holds [] { args:=[.list (ns.map .int)] }=true:=by
   have h4:=(holds_andW hc).1;rw[hn] at h4;exact h4
  have h5:=condW_of h4 (w_not (w_lt w_lit (w_len_list (w_arg rfl))));rw[List.length_map] at h5;refine Nat.le_of_not_lt fun q=>?_;have q':(n:Int)<((ns.length:Nat):Int):=by lia
  first
   | (rw[decide_eq_true q'] at h5;exact absurd h5 (by decide))
   | (simp at h5;lia)
 cases hwl with
 |cons w1 w2=>
  cases w2;cases w1 with
  |list ho hall=>exact⟨_,_,ns,rfl,rfl,ho,qNK ns _ hall,hlen⟩
theorem qJC(l:OpenLaw)(args:List WData):l.row.toRowW.claim.post args (.bool true) args=true:=
 postW_of (r:=l.row.toRowW) (X:=(true == true))
  (show WShape.has [] (.bool true) .bool=true by first | rfl | decide | simp[WShape.has,WShape.arms,WShape.armsAll])
  (show (WTm.eq .res (.lit (.bool true))).value [] { args:=args,res:=some (.bool true),after:=args }=some (.bool (true == true)) from w_eq_bool (w_res rfl) w_lit) rfl
theorem attach_call{l:OpenLaw}
  (hn:l.most=some n) (hdf:d.params.defaults=[])
  (call:∀ (w:World) (s₀ s₁:Shared) (mg mb:Str->Option Value) (fa:Addr) (o:Obj) (pm cd doc:Value) (a:Addr) (vs:List Value) (ns:List Int),
   Ground q loose [] XP w s₀ mg mb s₁.heap->YP w s₁.heap ->
   s₁.heap.get? fa=some o->o.data=.func (docDef d.name d.params d.body d.scope pm cd doc)->s₁.heap.CodeRec cd d.name->mg d.name=some (.ref fa) ->
   s₁.heap.get? a=some { cls:=.type "list",data:=.seq vs.toArray }->IntsAre vs ns->ns.length<=n->s₁.gens=#[] ->
   codeAny (model l.prog w) callerA (.call (.ref fa) ⟨[.ref a],[]⟩) (fun r s'=>r=.ok (.ret (.bool true))/\OldK s₁.heap s'.heap/\s'.os=s₁.os/\AllBare s'.gens) s₁) :
  WalkO q loose XP YP l.row.toRowW d [] (fun f vs=>PySem.call f vs):=by
 intro w s₀ s₁ mg mb G Yy fa o pm cd doc dV kV ho hd hcd hD hmg hg args vals as hpre hlay hrd hwl hlo;obtain rfl:dV=.none:=Dflts.none hD hdf;obtain rfl:kV=.none:=Dflts.noKw hD;obtain ⟨a,vs,ns,rfl,rfl,hobj,hints,hlen⟩:=qIS hn hpre hwl;refine enter_call (codeAny_mono (call w s₀ s₁ mg mb fa o pm cd doc a vs ns G Yy ho (fd_plain hd) hcd hmg hobj hints hlen hg) fun r s' hq=>?_);obtain ⟨rfl,h2,h3,h4⟩:=hq
 exact⟨.inl ⟨.bool true,.bool true,[],rfl,fun _=>rfl,.bool true,qJC l _,fun _=>⟨List.Pairwise.nil,fun _ hm=>(nomatch hm)⟩⟩,h2,h3,h4⟩
section
variable {prog:Program}{w:World}{A:Around}{E:Value->Shared->Prop}{s:Shared}{K:Frag}
def qUN(h:Heap)(L d:Addr):List (Addr × Obj):=(List.range h.objs.size).filterMap fun a=>if a=L\/a=d then none else (h.get? a).map fun o=>(a,o)
end
end Att
namespace L2
open PySem PySem.Spec PyProof.Rows
theorem vals_ints:∀ {vs:List Value} {ns:List Int},IntsAre vs ns->Vals (ns.map V.int) vs
 |_,_,.nil=>.nil
 |_,_,.cons n t h=>.cons ⟨t,rfl⟩ (vals_ints h)
def Only(H:Hp):Prop:=∀ b,H b=none\/∃ o xs,H b=some (.frz o (.lst xs))
theorem qMc{K:PySem.W.Frag}
  (KX:K.In s₁.heap) (hns:s₁.heap.Ns mainGlobals mg) (hb:s₁.heap.Ns builtinsNs mb) (hbb:∀ x:Str,x≠"__name__"->mb x=bootBuiltins x) (hlim:s₁.heap.NoLimit) (hg:s₁.gens=#[])
  (ha:s₁.heap.get? a=some { cls:=.type "list",data:=.seq vs.toArray }) (hi:IntsAre vs ns) (hl:ns.length<=sizeLine) (hr:Room k callerA)
  (F:∀ base:Heap,K.In base->base.Ns mainGlobals mg->FnOk P w K mg base CX k fa fd [x] sp) (hbind:∀ (s:Shared) (u:Value),BindsTo s fd ⟨[u],[]⟩ [(x,u)])
  (hsp:∀ H:Hp,Only H->SqL K H a (ns.map V.int)->sp [.ref a] H (fun v _=>v=.bl true) fun _ _ _=>False)
  (hCX:∀ H e s',CX [] H s₁ (fun _ _ _=>False) e s'->False) :
  codeAny (model P w) callerA (.call (.ref fa) ⟨[.ref a],[]⟩) (fun r s'=>r=.ok (.ret (.bool true))/\OldK s₁.heap s'.heap/\s'.os=s₁.os/\AllBare s'.gens) s₁:=by
 have rv:=vals_ints hi;have lenV:=hi.length
 have core:∀ H:Hp,Only H->SqL K H a (ns.map V.int)->HOk P w H s₁.heap->(∀ b,H b≠none->b=a)->(H a≠none->K.lookup a=none) ->
   codeAny (model P w) callerA (.call (.ref fa) ⟨[.ref a],[]⟩) (fun r s'=>r=.ok (.ret (.bool true))/\OldK s₁.heap s'.heap/\s'.os=s₁.os/\AllBare s'.gens) s₁:=by
  intro H hO hS hok hA hK;have base_of:∀ {b:Addr} {o:Obj},s₁.heap.get? b=some o->H b=none->(vV s₁.heap H).get? b=some o:=fun e n=>qOU e n
  have noA:∀ {b:Addr} {o:Obj} {es:Array DictEntry} {ep:Nat},s₁.heap.get? b=some o->o.data=.dict es ep->H b=none:=fun {b o es ep} e d=>by
   cases q:H b with
   |none=>rfl
   |some u=>have e':b=a:=hA b (by rw[q];simp);subst e';rw[ha] at e;cases e;have d':Data.seq vs.toArray _=Data.dict es ep:=d;cases d'
  have nsK:∀ {b:Addr} {m:Str->Option Value},s₁.heap.Ns b m->(vV s₁.heap H).Ns b m:=fun {b m} ⟨o,es,ep,e,d,r⟩=>⟨o,es,ep,base_of e (noA e d),d,r⟩
  have hKb:K.In (vV s₁.heap H):=fun b o e=>base_of (KX b o e) (by
   cases q:H b with
   |none=>rfl
   |some u=>
    have e':b=a:=hA b (by rw[q];simp);subst e'
    rw[hK (by rw[q];simp)] at e;cases e)
  have hM:Mod K mg (vV s₁.heap H):=⟨hKb,nsK hns,⟨mb,nsK hb,hbb⟩,let ⟨mc,h1,h2⟩:=hlim;⟨mc,nsK h1,h2⟩⟩;have e0:Env0 P w K mg (vV s₁.heap H) callerA [] s₁ H:=⟨rfl,hM,fun b o e=>qJb e,Nat.le_of_eq (qOT _ _),trivial,fun b hb=>absurd (show b∈([]:List Addr) from hb) (by simp),hok,.of_eq hg⟩;refine codeAny_mono ((F _ hKb (nsK hns)).run callerA [] s₁ H ⟨[.ref a],[]⟩ [.ref a] [.ref a] _ _ hr e0 (hbind s₁ (.ref a)) (.cons rfl .nil) (hsp H hO hS)) fun r s' h=>?_;cases r with
  |error e=>exact (hCX H e s' h).elim
  |ok fl=>
   cases fl with
   |next=>cases h
   |brk=>cases h
   |cont=>cases h
   |ret u=>
    obtain ⟨v,H',os,bare,un,hok',r',q⟩:=h;have q':v=.bl true:=q;subst q';obtain rfl:u=Value.bool true:=r';refine⟨rfl,OldK.of_keep fun b o e=>?_,os,bare⟩;cases q:H b with
    |none=>exact un.keep b o e q (by intro z;exact absurd (show b∈([]:List Addr) from z) (by simp)) (by simp)
    |some u=>
     rcases hO b with z | ⟨ob,xs,z⟩
     ·rw[q] at z;cases z
     ·have z2:=un.frzs b ob _ z;obtain ⟨e1,_⟩:=hok b _ z;obtain ⟨e2,_⟩:=hok' b _ z2;rw[e] at e1;cases e1;exact e2
 cases hk:K.lookup a with
 |some o=>have e:=KX a o hk;rw[ha] at e;cases e;refine core (fun _=>none) (fun _=>.inl rfl) (.inr ⟨_,vs.toArray,_,hk,rfl,rfl,rfl,by rw[List.size_toArray,lenV];exact hl,by simpa using rv⟩) (fun b u z=>by have z':(none:Option HO)=some u:=z;cases z') (fun b z=>absurd rfl z) fun z=>absurd rfl z
 |none=>
  refine core (fun b=>if b=a then some (.frz { cls:=.type "list",data:=.seq vs.toArray } (.lst (ns.map V.int))) else none) (fun b=>?_) (.inl (.inr ⟨{ cls:=.type "list",data:=.seq vs.toArray },if_pos rfl⟩)) (fun b u z=>?_) (fun b z=>?_) fun _=>hk
  ·by_cases hb:b=a
   ·exact .inr ⟨_,_,if_pos hb⟩
   ·exact .inl (if_neg hb)
  ·by_cases hb:b=a
   ·have z':=(if_pos hb).symm.trans z;cases z';subst hb
    exact⟨ha,by rw[List.length_map];exact hl,vs,_,rv,ha⟩
   ·have z':=(if_neg hb).symm.trans z;cases z'
  ·by_cases hb:b=a
   ·exact hb
   ·exact absurd (if_neg hb) z
abbrev KOf{K:PySem.W.Frag}{h:Heap}(_:K.In h):PySem.W.Frag:=K
theorem walk_of{l:PySem.W.OpenLaw}{K:Params->PySem.W.Frag}{CX:World->CXT}{sp:World->Sp}
  (hn:l.most=some n) (hn2:n<=sizeLine) (hdf:d.params.defaults=[]) (hr:Room k callerA)
  (hY:∀ (w:World) (h:Heap),YP w h->(K w.params).In h)
  (F:∀ (w:World) (mg:Str->Option Value) (fa:Addr) (h:Heap),(K w.params).In h->h.Ns mainGlobals mg->mg d.name=some (.ref fa) ->
   ∃ fd:FuncData,(∀ (s:Shared) (u:Value),BindsTo s fd ⟨[u],[]⟩ [(x,u)]) /\
    ∀ base:Heap,(K w.params).In base->base.Ns mainGlobals mg->FnOk l.prog w (K w.params) mg base (CX w) k fa fd [x] (sp w))
  (hsp:∀ (w:World) (H:Hp) (a:Addr) (ns:List Int),ns.length<=n->Only H->SqL (K w.params) H a (ns.map V.int)->sp w [.ref a] H (fun v _=>v=.bl true) fun _ _ _=>False)
  (hCX:∀ (w:World) (H:Hp) (s:Shared) (e:Value) (s':Shared),CX w [] H s (fun _ _ _=>False) e s'->False) :
  PySem.W.WalkO q loose XP YP l.row.toRowW d [] (fun f vs=>PySem.call f vs):=by
 refine Att.attach_call hn hdf fun w s₀ s₁ mg mb fa o pm cd doc a vs ns G Yy ho hd hcd hmg hobj hints hlen hg=>?_;have KX:=hY w _ Yy;obtain ⟨fd,hb,hF⟩:=F w mg fa _ KX G.T.g hmg;exact qMc KX G.T.g G.T.b G.T.builtins G.T.nolimit hg hobj hints (Nat.le_trans hlen hn2) hr hF hb (fun H hO hS=>hsp w H a ns hlen hO hS) fun H e s'=>hCX w H s₁ e s'
def defArgs(s:Stmt):Arguments:=match s with
 | .FunctionDef _ a _ _ _ _ _ _ _ _=>a
 |_=>{ posonlyargs:=[],args:=[],vararg:=none,kwonlyargs:=[],kw_defaults:=[],kwarg:=none,defaults:=[] }
def defBody(s:Stmt):List Stmt:=match s with
 | .FunctionDef _ _ b _ _ _ _ _ _ _=>b
 |_=>[]
def defScope(s:Stmt):Scope:=match s with
 | .FunctionDef _ _ _ _ _ _ sc _ _ _=>sc
 |_=>{ kind:=.function,names:=[],isGenerator:=false,isCoroutine:=false }
structure Fun (K:PySem.W.Frag) (x qual:Str) (st:Stmt) (f:Addr) (fd:FuncData):Prop where
 ex:∃ (oc:Value) (od:Option Addr) (kV doc pm:Value) (an:Option Addr) (cdv ct:Value) (osl:Array (Option Value)),
  fd=PySem.W.fnOf x qual (defArgs st) (defBody st) (defScope st) .none kV doc pm an cdv ct/\K.lookup f=some ⟨oc,od,.func fd,osl⟩/\PySem.W.codeIn K cdv qual=true
 kp:PySem.W.keepIn K (.ref f)=true
section
variable {P:Program}{w:World}{K:PySem.W.Frag}{mg:Str->Option Value}{base:Heap}
theorem Fun.binds{st:Stmt}(F:Fun K x qual st f fd)
  (h:∀ (kV doc pm:Value) (an:Option Addr) (cdv ct:Value) (us:List Value),us.length=ps.length->bindArgs (PySem.W.fnOf x qual (defArgs st) (defBody st) (defScope st) .none kV doc pm an cdv ct) ⟨us,[]⟩=pure (ps.zip us)):Binds K fd ps []:=by
 obtain ⟨oc,od,kV,doc,pm,an,cdv,ct,osl,rfl,lk,hcd⟩:=F.ex;exact .all (h kV doc pm an cdv ct)
theorem fun_mk{st:Stmt}{kV:Value}(l:K.lookup f=some ⟨oc,od,.func (PySem.W.fnOf x qual (defArgs st) (defBody st) (defScope st) .none kV doc pm an cdv ct),osl⟩)
  (c:PySem.W.codeIn K cdv qual=true) (k:PySem.W.keepIn K (.ref f)=true):Fun K x qual st f (PySem.W.fnOf x qual (defArgs st) (defBody st) (defScope st) .none kV doc pm an cdv ct):=⟨⟨oc,od,kV,doc,pm,an,cdv,ct,osl,rfl,l,c⟩,k⟩
end
section
variable {X:Cx}
theorem pv(i:Nat)(hN:X.N[i]?=some x:=by rfl)(hv:Vis X.env.scope x:=by first | exact Or.inl rfl | exact Or.inr (Or.inl rfl) | exact Or.inr (Or.inr rfl))(hd:(x == ("__debug__":Str))=false:=by decide)
  (hcd:(x == ("__classdict__":Str))=false:=by decide):PE X (.Name x pos) (tVar i):=pe_var hN hv hd hcd
end
theorem iteF{B:Prop}(h:B):if false=true then A else B:=by
 rw[if_neg Bool.false_ne_true];exact h
theorem iteT{B:Prop}(h:A):if true=true then A else B:=by
 rw[if_pos rfl];exact h
section
variable {κ:Type}[DecidableEq κ]
def valV(kvs:List (κ × V))(k:κ):Option V:=(kvs.find? fun kv=>decide (kv.1=k)).map (·.2)
def putK(kvs:List (κ × V))(k:κ)(v:V):List (κ × V):=
 if (kvs.any fun kv=>decide (kv.1=k))=true then kvs.map (fun kv=>if kv.1=k then (kv.1,v) else kv) else kvs++[(k,v)]
def dropK(kvs:List (κ × V))(k:κ):List (κ × V):=kvs.filter fun kv=>decide (kv.1≠k)
theorem valV_pos{k:κ}(e:p.1=k):valV (p::r) k=some p.2:=by simp[valV,List.find?_cons,e]
theorem valV_neg{k:κ}(e:¬ p.1=k):valV (p::r) k=valV r k:=by simp[valV,List.find?_cons,e]
theorem length_putK(kvs:List (κ × V))(k:κ)(v:V):(putK kvs k v).length<=kvs.length+1:=by
 unfold putK;split
 ·rw[List.length_map];lia
 ·rw[List.length_append,List.length_cons,List.length_nil];lia
theorem RelO.isSome_eq(r:RelO o u):o.isSome=u.isSome:=by
 cases o with
 |none=>cases u with
  |none=>rfl
  |some _=>exact (show False from r).elim
 |some _=>cases u with
  |none=>exact (show False from r).elim
  |some _=>rfl
theorem RelO.getD(r:RelO o u)(rd:RelV d d'):RelV (o.getD d) (u.getD d'):=by
 cases o with
 |none=>cases u with
  |none=>exact rd
  |some _=>exact (show False from r).elim
 |some _=>cases u with
  |none=>exact (show False from r).elim
  |some _=>exact r
theorem KV.val(r:KV kvs vs)(k:κ):RelO (valV kvs k) (valueAt vs k):=by
 unfold KV at r
 induction r with
 |nil=>exact True.intro
 | @cons p q ps qs h t ih=>
  obtain ⟨h1,h2⟩:=h
  by_cases e:p.1=k
  ·have e':q.1=k:=h1.symm.trans e;have b:valueAt (q::qs) k=some q.2:=by simp[valueAt,List.find?_cons,e']
   rw[valV_pos e,b];exact h2
  ·have e':¬ q.1=k:=fun z=>e (h1.trans z);have b:valueAt (q::qs) k=valueAt qs k:=by simp[valueAt,List.find?_cons,e']
   rw[valV_neg e,b];exact ih
theorem KV.any(r:KV kvs vs)(k:κ):(kvs.any fun kv=>decide (kv.1=k))=vs.any fun kv=>decide (kv.1=k):=by
 unfold KV at r
 induction r with
 |nil=>rfl
 |cons h t ih=>rw[List.any_cons,List.any_cons,ih,h.1]
theorem KV.repl(r:KV kvs vs)(k:κ)(ry:RelV y u) :
  KV (kvs.map fun kv=>if kv.1=k then (kv.1,y) else kv) (vs.map fun kv=>if kv.1=k then (kv.1,u) else kv):=by
 unfold KV at r ⊢
 induction r with
 |nil=>exact .nil
 | @cons p q ps qs h t ih=>
  rw[List.map_cons,List.map_cons];refine .cons ?_ ih;obtain ⟨h1,h2⟩:=h
  by_cases e:p.1=k
  ·rw[if_pos e,if_pos (h1.symm.trans e)];exact⟨h1,ry⟩
  ·rw[if_neg e,if_neg (fun z=>e (h1.trans z))];exact⟨h1,h2⟩
theorem KV.put(r:KV kvs vs)(k:κ)(ry:RelV y u):KV (putK kvs k y) (stored vs k u):=by
 unfold putK stored;rw[r.any k]
 by_cases e:(vs.any fun kv=>decide (kv.1=k))=true
 ·rw[if_pos e,if_pos e];exact r.repl k ry
 ·rw[if_neg e,if_neg e];exact Paired.snoc r ⟨rfl,ry⟩
theorem KV.drop(r:KV kvs vs)(k:κ):KV (dropK kvs k) (without vs k):=by
 unfold KV at r ⊢;unfold dropK without
 induction r with
 |nil=>exact .nil
 | @cons p q ps qs h t ih=>
  obtain ⟨h1,h2⟩:=h;rw[List.filter_cons,List.filter_cons]
  by_cases e:p.1=k
  ·have a:¬ decide (p.1≠k)=true:=by simp[e]
   have b:¬ decide (q.1≠k)=true:=by simp[h1.symm.trans e]
   rw[if_neg a,if_neg b];exact ih
  ·have e':¬ q.1=k:=fun z=>e (h1.trans z);have a:decide (p.1≠k)=true:=by simp[e]
   have b:decide (q.1≠k)=true:=by simp[e']
   rw[if_pos a,if_pos b];exact .cons ⟨h1,h2⟩ ih
theorem KV.keys{vs:List (κ × Value)}(r:KV kvs vs):kvs.map (·.1)=vs.map (·.1):=by
 unfold KV at r
 induction r with
 |nil=>rfl
 |cons h t ih=>rw[List.map_cons,List.map_cons,ih,h.1]
theorem KV.length{vs:List (κ × Value)}(r:KV kvs vs):kvs.length=vs.length:=Paired.length r
end
theorem kV_is(r:RelV (kV k) u):(mixKind P w).is k u=true:=by
 cases k with
 |inl i=>obtain ⟨t,e⟩:=(show ∃ t,u=Value.int i t from r);subst e;exact qLM P w i t
 |inr x=>obtain ⟨t,e⟩:=(show ∃ t,u=Value.str x t from r);subst e;exact qLL P w x t
section
variable {P:Program}{w:World}{H:Hp}{h:Heap}{a:Addr}
theorem qIw(ok:HOk P w H h)(e:Rd H a u):ObjOk P w H h a u:=e.ok ok
theorem dk_rd(ok:HOk P w H h)(e:Rd H a (.dK kvs)):kvs.length<=sizeLine/\(a == sysModules)=false/\∃ vs,KV kvs vs/\h.DictOf (mixKind P w) a vs:=
 show ObjOk P w H h a (.dK kvs) from qIw ok e
theorem dk_of(ok:HOk P w H h)(e:H a=some (.dK kvs)):kvs.length<=sizeLine/\(a == sysModules)=false/\∃ vs,KV kvs vs/\h.DictOf (mixKind P w) a vs:=dk_rd ok (.inl e)
end
section
variable {X:Cx}{pins:List (Addr × Obj)}{U:St}{H:Hp}{s:Shared}{a:Addr}{y v:V}{u r:Value}{o:Option V}{A:Around}{E:Value->Shared->Prop}
theorem Inv.big(I:Inv X pins U H s):sysModules<s.heap.objs.size:=by
 have h:mainGlobals<s.heap.objs.size:=(I.mod.glob.keeps I.bk).lt;exact Nat.lt_trans (by decide) h
theorem d_write(I:Inv X pins U H s)(mu:Mut (H a))(hs:Heap.SameBut a s.heap h')(he:∃ q,h'.get? a=some q)(new:ObjOk X.prog X.w (upd H a ob) h' a ob) :
  Inv X pins U (upd H a ob) { s with heap:=h',toks:=t' }:=
 I.write (x:=a) (e:=a) mu (.inl rfl) (fun b q hb z=>(hs.2 b hb).trans z) he new
theorem dk_new(z:kvs.length<=sizeLine)(hd:(a == sysModules)=false)(rel:KV kvs vs)(dd:h'.DictOf (mixKind P w) a vs) :
  ObjOk P w H' h' a (.dK kvs):=⟨z,hd,vs,rel,dd⟩
end
section
variable {X:Cx}{pins:List (Addr × Obj)}{U:St}{H:Hp}{s:Shared}{a:Addr}{kvs:List (Key × V)}{k:Key}{u:Value}{A:Around}{E:Value->Shared->Prop}
end
theorem qEp(h:Heap)(hb:sysModules<h.objs.size):ObjOk P w H (h.push { cls:=.type "dict",data:=.dict #[] }) h.objs.size (.dK []):=
 ⟨Nat.zero_le _,beq_eq_false_iff_ne.mpr (Ne.symm (Nat.ne_of_lt hb)),[],.nil,Heap.DictOf.new h⟩
def qHr:TE:=fun _ H Q=>∀ p,H p=none->Q (.ref p) (upd H p (.dK []))
section
variable {X:Cx}{pos:Pos}
theorem pe_dnewK:PE X (.Dict [] [] pos) qHr:=fun pins s U H Q I h=>
 wpAny_Dict_empty ⟨.ref s.heap.objs.size,_,I.laid (a:=s.heap.objs.size) (o:=.dK []) (t':=s.toks) (fun _ _ q=>Heap.get?_push_of_some _ q) (Nat.le_refl _) (qEp s.heap I.big),rfl,h _ (I.hok.fresh (Nat.le_refl _))⟩
end
def tPairs:List (TE × TE)->St->Hp->(List (V × V)->Hp->Prop)->Prop
 | [],_,H,Q=>Q [] H
 | (tk,tv)::r,U,H,Q=>tk U H fun x H1=>tv U H1 fun y H2=>tPairs r U H2 fun ps H3=>Q ((x,y)::ps) H3
abbrev VV:List (V × V)->List (Value × Value)->Prop:=Paired fun p q=>RelV p.1 q.1/\RelV p.2 q.2
def PPs(X:Cx)(pos:Pos)(keys:List (Option Expr))(values:List Expr)(trs:List (TE × TE)):Prop:=
 ∀ (pins:List (Addr × Obj)) (s:Shared) (U:St) (H:Hp) (Q:List (V × V)->Hp->Prop),Inv X pins U H s->tPairs trs U H Q ->
  wpAny (model X.prog X.w) X.A (evalPairs (pairTrees keys values X.env pos)) (fun vs s'=>∃ ps H',Inv X pins U H' s'/\VV ps vs/\Q ps H') X.xe s
theorem pps_nil:PPs X pos [] [] []:=fun pins s U H Q I h=>pairTrees_nil_walk ⟨[],H,I,.nil,h⟩
theorem pps_cons(hk:PE X k tk)(hv:PE X v tv)(hr:PPs X pos ks vs trs) :
  PPs X pos (some k::ks) (v::vs) ((tk,tv)::trs):=fun pins s U H Q I h=>
 pairTrees_cons_walk (thn (hk pins s U H _ I h) fun u s1 ⟨x,H1,I1,rx,q1⟩=>thn (hv pins s1 U H1 _ I1 q1) fun w2 s2 ⟨y,H2,I2,ry,q2⟩=>
  thn (hr pins s2 U H2 _ I2 q2) fun ws s3 ⟨ps,H3,I3,rel,q3⟩=>⟨(x,y)::ps,H3,I3,.cons ⟨rx,ry⟩ rel,q3⟩)
def mergeK(kvs more:List (Key × V)):List (Key × V):=more.foldl (fun acc kv=>putK acc kv.1 kv.2) kvs
theorem KV.merge:∀ {more:List (Key × V)} {rs:List (Key × Value)} {kvs:List (Key × V)} {vs:List (Key × Value)},KV more rs->KV kvs vs->KV (mergeK kvs more) (merged vs rs):=by
 intro more rs kvs vs r;unfold KV at r
 induction r generalizing kvs vs with
 |nil=>intro q;exact q
 | @cons p q ps qs h t ih=>
  intro r0
  have e:KV (putK kvs p.1 p.2) (stored vs q.1 q.2):=by
   have:=r0.put p.1 h.2
   rw[<- h.1];exact this
  exact ih e
theorem qDb:∀ (more kvs:List (Key × V)),(mergeK kvs more).length<=kvs.length+more.length
 | [],kvs=>by show kvs.length<=kvs.length+0;lia
 |p::r,kvs=>by
  have h1:=qDb r (putK kvs p.1 p.2);have h2:=length_putK kvs p.1 p.2;show (mergeK (putK kvs p.1 p.2) r).length<=_;rw[List.length_cons];lia
theorem qFB:∀ {kvs:List (Key × V)} {ws:List (Value × Value)},VV (kvs.map fun kv=>(kV kv.1,kv.2)) ws->∃ rs,Carries (mixKind P w) ws rs/\KV kvs rs
 | [],_,r=>by rw[List.map_nil] at r;cases r;exact⟨[],True.intro,.nil⟩
 |p::kvs,_,r=>by
  rw[List.map_cons] at r;cases r with
  | @cons a b as bs h t=>
   obtain ⟨rs,c,q⟩:=qFB (P:=P) (w:=w) t;obtain ⟨b1,b2⟩:=b
   exact⟨(p.1,b2)::rs,⟨kV_is h.1,rfl,c⟩,.cons ⟨rfl,h.2⟩ q⟩
def qHq(trs:List (TE × TE)):TE:=fun U H Q=>∀ p,H p=none->tPairs trs U (upd H p (.dK [])) fun ps H2=>H2 p=some (.dK [])/\∃ kvs:List (Key × V),ps=kvs.map (fun kv=>(kV kv.1,kv.2))/\kvs.length<=15/\Q (.ref p) (upd H2 p (.dK (mergeK [] kvs)))
theorem pe_disp(h:PPs X pos keys values trs)(hall:keys.all (·.isSome)=true)(hl:keys.length=values.length)(h0:keys≠[])
  (h15:keys.length<=15):PE X (.Dict keys values pos) (qHq trs):=by
 intro pins s U H Q I q;have hn:=I.hok.fresh (Nat.le_refl s.heap.objs.size);have I1:=I.laid (a:=s.heap.objs.size) (o:=.dK []) (h':=s.heap.push { cls:=.type "dict",data:=.dict #[] }) (t':=s.toks) (fun _ _ q=>Heap.get?_push_of_some _ q) (Nat.le_refl _) (qEp s.heap I.big);refine wpAny_Dict_walk (knd:=mixKind X.prog X.w) hall hl h0 h15 (thn (h pins _ U _ _ I1 (q _ hn)) fun ws s2 ⟨ps,H2,I2,rel,e,kvs,ep,lk,q2⟩=>?_);subst ep;obtain ⟨rs,c,rk⟩:=qFB (P:=X.prog) (w:=X.w) rel;obtain ⟨z,hd,vs0,r0,dd⟩:=dk_of I2.hok e;cases r0;refine⟨rs,c,dd,fun h' dd' hs=>⟨.ref s.heap.objs.size,_,?_,rfl,q2⟩⟩
 have hz:(mergeK [] kvs).length<=sizeLine:=by
  have h1:=qDb kvs [];rw[List.length_nil] at h1;rw[sizeLine_eq];lia
 have he:∃ q,h'.get? s.heap.objs.size=some q:=let ⟨q,_,_,hq,_⟩:=dd';⟨q,hq⟩;exact d_write I2 (by rw[e];exact True.intro) hs he (dk_new hz hd (rk.merge .nil) dd')
end L2
set_option genSizeOf false
set_option genSizeOfSpec false
set_option genInjectivity false
namespace Fy
open PySem
abbrev Tx:=List Nat
inductive D where
 |non | bl (b:Bool) | int (i:Int) | str (x:Tx) | tup (xs:List D) | ref (i:Nat)
 deriving Inhabited
inductive Ky where
 |int (i:Int) | str (x:Tx)
 deriving DecidableEq
inductive O where
 |lst (xs:List D) | rol (xs:List D) | ins (c:Nat) (fs:List (Nat × D)) | dct (kvs:List (Ky × D)) | xc (c:Nat) | rod (kvs:List (Ky × D))
 deriving Inhabited
def wL:Nat->Nat->List Nat->List Nat
 |0,_,acc=>acc
 |f+1,n,acc=>if n=0 then acc else wL f (n / 256) (n % 256::acc)
def qD(n:Nat):Str:=⟨(wL 60 n []).toArray⟩
abbrev AH:=List O
abbrev Env:=List (Option D)
inductive R (α:Type) where
 |ok (a:α) (h:AH) | exc (c:Nat) (h:AH) | bad
abbrev M(α:Type):=AH->R α
def R.bind{α β:Type}:R α->(α->AH->R β)->R β
 | .ok a h,f=>f a h
 | .exc c h,_=>.exc c h
 | .bad,_=>.bad
def M.bind{α β:Type}(m:M α)(f:α->M β):M β:=fun h=>(m h).bind f
def R.calm{α:Type}:R α->R α
 | .exc _ _=>.bad
 |r=>r
def M.calm{α:Type}(m:M α):M α:=fun h=>(m h).calm
def M.ret{α:Type}(a:α):M α:=fun h=>.ok a h
def M.bad{α:Type}:M α:=fun _=>.bad
def M.when{α:Type}(c:Prop)[Decidable c](m:M α):M α:=fun h=>if c then m h else .bad
def wV(o:O):M D:=fun h=>.ok (.ref h.length) (h++[o])
def qC(h:AH)(i:Nat):Option (List D):=match h[i]? with
 |some (.lst xs)=>some xs
 |some (.rol xs)=>some xs
 |_=>none
def zN(h:AH)(i:Nat):Nat:=((qC h i).getD []).length+1
def newL(xs:List D):M D:=M.when (xs.length<=16777216) (wV (.lst xs))
inductive Ty where
 |int | str | bool | list | tuple
 deriving DecidableEq
inductive Un where
 |neg | len | str | int | ord | tuple | list | all | any | isN | notN | isB (b:Bool) | isi (t:Ty) | fmt | upper | sum | clear | isx (cs xl:List Nat) | fld (k:Nat) | nsB (b:Bool) | rev | sorted | lrng | dictl
inductive Bi where
 |add | sub | mul | fdiv | mod | pow | eq | ne | lt | le | gt | ge | isin | notin | ix | min2 | max2 | find | split | join | append | zfill | remove | get | pop | starts | index | part | rpart | lpop | lrng | extend | update
 deriving DecidableEq
def b2i(b:Bool):Int:=if b then 1 else 0
def kS(h:AH)(t:Ty)(d:D):Option Bool:=match d with
 | .non=>some false
 | .bl _=>some (t == .bool || t == .int)
 | .int _=>some (t == .int)
 | .str _=>some (t == .str)
 | .tup _=>some (t == .tuple)
 | .ref i=>(qC h i).map fun _=>t == .list
def txI(i:Int):Tx:=(toString i).toList.map Char.toNat
def yV(d:D):M Bool:=fun h=>match d with
 | .non=>.ok false h
 | .bl b=>.ok b h
 | .int i=>.ok (i != 0) h
 | .str x=>if x.length<=16777216 then .ok (!x.isEmpty) h else .bad
 | .tup xs=>.ok (!xs.isEmpty) h
 | .ref i=>match qC h i with
  |some xs=>.ok (!xs.isEmpty) h
  |none=>.bad
def wC:List D->Option (List Bool)
 | []=>some []
 | .bl b::r=>(wC r).map (b::·)
 |_::_=>none
def bO(xs:List D):Option Bool:=(wC xs).map (·.all id)
def eqW(f:D->D->Option Bool):List D->List D->Option Bool
 | [],[]=>some true
 | [],_::_=>some false
 |_::_,[]=>some false
 |x::xs,y::ys=>match f x y,eqW f xs ys with
  |some a,some b=>some (a&&b)
  |_,_=>none
def eqD(h:AH):Nat->D->D->Option Bool
 |_,.non,.non=>some true
 |_,.bl a,.bl b=>some (a == b)
 |_,.int a,.int b=>some (a == b)
 |_,.str a,.str b=>some (a == b)
 |_,.bl a,.int b=>some (b2i a == b)
 |_,.int a,.bl b=>some (a == b2i b)
 |n+1,.tup xs,.tup ys=>eqW (eqD h n) xs ys
 |n+1,.ref i,.ref j=>match qC h i,qC h j with
  |some xs,some ys=>eqW (eqD h n) xs ys
  |_,_=>none
 |_,_,_=>none
def ixN(n:Nat)(i:Int):Option Nat:=if 0<=i then (if i<n then some i.toNat else none) else if -(n:Int)<=i then some (i+n).toNat else none
def qZ(n d:Nat):Option Int->Nat
 |none=>d
 |some v=>if v<0 then (v+n).toNat else min v.toNat n
def qO{α:Type}(xs:List α)(lo hi:Option Int):List α:=(xs.drop (qZ xs.length 0 lo)).take (qZ xs.length xs.length hi-qZ xs.length 0 lo)
def jV(x:Tx):Bool:=x.all fun c=>decide (48<=c/\c<=57)
def kN(x:Tx):Nat:=x.foldl (fun acc c=>acc*10+(c-48)) 0
def qI(k:Nat):List (Nat × D)->Option D
 | []=>none
 | (g,x)::r=>if g == k then some x else qI k r
def zI(k:Nat)(d:D):List (Nat × D)->List (Nat × D)
 | []=>[(k,d)]
 | (g,x)::r=>if g == k then (g,d)::r else (g,x)::zI k d r
def tbN:List (Nat × Nat)->Nat->Option Nat
 | [],_=>none
 | (g,x)::r,k=>if g == k then some x else tbN r k
def jC:List D->Option (List Int)
 | []=>some []
 | .int x::r=>(jC r).map (x::·)
 |_::_=>none
def uS(x:Int):List Int->List Int
 | []=>[x]
 |y::r=>if x<=y then x::y::r else y::uS x r
def vB:List Int->List Int
 | []=>[]
 |x::r=>uS x (vB r)
def zU(i:Int):Prop:=-4611686018427387904<=i/\i<4611686018427387904
instance (i:Int):Decidable (zU i):=by unfold zU;exact inferInstance
def uL(k:Nat):M D:=fun h=>match h[k]? with
 |some (.dct kvs)=>.ok (.int kvs.length) h
 |_=>.bad
def zD(kvs:List (Ky × D))(k:Ky):Option D:=(kvs.find? fun kv=>decide (kv.1=k)).map (·.2)
def kI(kvs:List (Ky × D))(k:Ky)(d:D):List (Ky × D):=if (kvs.any fun kv=>decide (kv.1=k))=true then kvs.map (fun kv=>if kv.1=k then (kv.1,d) else kv) else kvs++[(k,d)]
def uG(kvs more:List (Ky × D)):List (Ky × D):=more.foldl (fun acc kv=>kI acc kv.1 kv.2) kvs
def cA(ds:List D):M D:=fun h=>match jC ds with
 |some xs=>if xs.length<64 then newL ((vB xs).map .int) h else .bad
 |none=>.bad
def kC(lo:Int)(n:Nat):List D:=(List.range n).map fun (k:Nat)=>D.int (lo+k)
def unD(o:Un)(d:D):M D:=fun h=>match o,d with
 | .neg,.int i=>.ok (.int (-i)) h
 | .len,.str x=>if x.length<=16777216 then .ok (.int x.length) h else .bad
 | .len,.tup xs=>.ok (.int xs.length) h
 | .len,.ref i=>match qC h i with
  |some xs=>.ok (.int xs.length) h
  |none=>uL i h
 | .str,.int i=>if i.natAbs.log2<1920 then .ok (.str (txI i)) h else .bad
 | .int,.int i=>.ok (.int i) h
 | .int,.bl b=>.ok (.int (b2i b)) h
 | .int,.str x=>if x≠[]/\x.length<=640/\jV x=true then .ok (.int (kN x)) h else .bad
 | .ord,.str x=>match x with
  | [c]=>.ok (.int c) h
  |_=>.bad
 | .tuple,.tup xs=>.ok (.tup xs) h
 | .tuple,.ref i=>match qC h i with
  |some xs=>.ok (.tup xs) h
  |none=>.bad
 | .list,.tup xs=>newL xs h
 | .list,.ref i=>match qC h i with
  |some xs=>newL xs h
  |none=>.bad
 | .all,.ref i=>match (qC h i).bind bO with
  |some b=>.ok (.bl b) h
  |none=>.bad
 | .sorted,.ref i=>match qC h i with
  |some ds=>cA ds h
  |none=>.bad
 | .fld k,.ref i=>match h[i]? with
  |some (.ins _ fs)=>match qI k fs with
   |some d=>.ok d h
   |none=>.bad
  |_=>.bad
 | .isN,d=>.ok (.bl (match d with | .non=>true | _=>false)) h
 | .notN,d=>.ok (.bl (match d with | .non=>false | _=>true)) h
 | .isi t,d=>match kS h t d with
  |some b=>.ok (.bl b) h
  |none=>.bad
 |_,_=>.bad
def vR(i j:Int):Prop:=(-18446744073709551616<i/\i<18446744073709551616)\/(-18446744073709551616<j/\j<18446744073709551616)
instance (i j:Int):Decidable (vR i j):=by unfold vR;exact inferInstance
def kW(h:AH)(x y:D):Option Bool:=eqD h 40 x y
def eA(x y:Tx):Option Bool:=match x with
 | [c]=>some (y.contains c)
 |_=>none
def zZ(c:Nat):Nat->Tx->List Nat
 |_,[]=>[]
 |k,x::r=>if x=c then k::zZ c (k+1) r else zZ c (k+1) r
def jH(c:Nat):Nat->Tx->Option Nat
 |_,[]=>none
 |k,x::r=>match jH c (k+1) r with
  |some i=>some i
  |none=>if x=c then some k else none
def kJ(a:Tx)(cuts:List Nat):List Tx:=((0::cuts.map (·+1)).zip (cuts++[a.length])).map fun p=>(a.drop p.1).take (p.2-p.1)
def kB(a:Tx)(c:Nat):List Tx:=match jH c 0 a with
 |some i=>[a.take i,[c],a.drop (i+1)]
 |none=>[[],[],a]
def jO:List D->Option (List Tx)
 | []=>some []
 | .str x::r=>(jO r).map (x::·)
 |_::_=>none
def qX(sep:Tx):List Tx->Tx
 | []=>[]
 | [x]=>x
 |x::y::r=>x++sep++qX sep (y::r)
def jY(sep:Tx)(xs:List Tx):Nat:=(xs.map List.length).sum+xs.length*sep.length
def ixK(k:Nat)(y:Ky):M D:=fun h=>match h[k]? with
 |some (.dct kvs)=>match zD kvs y with
  |some d=>.ok d h
  |none=>.bad
 |some (.rod kvs)=>match zD kvs y with
  |some d=>.ok d h
  |none=>.bad
 |_=>.bad
def vW(k:Nat)(y:Ky):M D:=fun h=>match h[k]? with
 |some (.dct kvs)=>.ok (.bl (zD kvs y).isSome) h
 |_=>.bad
def kT(k:Nat)(y:Ky):M D:=fun h=>match h[k]? with
 |some (.dct kvs)=>.ok (.bl (!(zD kvs y).isSome)) h
 |_=>.bad
def wI(d:D)(k:Nat)(y:Ky):M Unit:=fun h=>match h[k]? with
 |some (.dct kvs)=>if kvs.length<16777216 then .ok () (h.set k (.dct (kI kvs y d))) else .bad
 |_=>.bad
def eE(k:Nat)(y:Ky):M D:=fun h=>match h[k]? with
 |some (.dct kvs)=>.ok ((zD kvs y).getD .non) h
 |_=>.bad
def qEm(kvs:List (Ky × D))(k:Ky):List (Ky × D):=kvs.filter fun kv=>decide (kv.1≠k)
def aU(ks:List Ky)(ds:List D)(p:Nat):M D:=fun h=>match h[p]? with
 |some (.dct [])=>if ks.length=ds.length/\ks.length<=15 then .ok (.ref p) (h.set p (.dct (uG [] (ks.zip ds)))) else .bad
 |_=>.bad
def kyD:Ky->D
 | .int i=>.int i
 | .str x=>.str x
def jU(kvs:List (Ky × D)):List D:=kvs.map fun kv=>kyD kv.1
def gO{α:Type}(i:Nat):R α->R α
 | .ok a h=>match h[i]? with
  |some (.rod kvs)=>.ok a (h.set i (.dct kvs))
  |_=>.bad
 |_=>.bad
def qBj(x:D)(k:List D->M D):M D:=fun h=>match x with
 | .ref i=>match h[i]? with
  |some (.dct kvs)=>if kvs.length<16777216 then gO i (k (jU kvs) (h.set i (.rod kvs))) else .bad
  |_=>.bad
 |_=>.bad
def biD(o:Bi)(x y:D):M D:=fun h=>match o,x,y with
 | .add,.int i,.int j=>.ok (.int (i+j)) h
 | .add,.str a,.str b=>if a.length+b.length<=16777216 then .ok (.str (a++b)) h else .bad
 | .add,.tup a,.tup b=>if a.length+b.length<=16777216 then .ok (.tup (a++b)) h else .bad
 | .add,.ref i,.ref j=>match h[i]?,h[j]? with
  |some (.lst xs),some (.lst ys)=>newL (xs++ys) h
  |_,_=>.bad
 | .sub,.int i,.int j=>.ok (.int (i-j)) h
 | .mul,.int i,.int j=>if vR i j then .ok (.int (i*j)) h else .bad
 | .fdiv,.int i,.int j=>if 0<j/\j<1073741824 then .ok (.int (i / j)) h else .bad
 | .mod,.int i,.int j=>if 0<j then .ok (.int (i % j)) h else .bad
 | .eq,x,y=>match kW h x y with
  |some b=>.ok (.bl b) h
  |none=>.bad
 | .ne,x,y=>match kW h x y with
  |some b=>.ok (.bl (!b)) h
  |none=>.bad
 | .lt,.int i,.int j=>.ok (.bl (decide (i<j))) h
 | .le,.int i,.int j=>.ok (.bl (decide (i<=j))) h
 | .gt,.int i,.int j=>.ok (.bl (decide (j<i))) h
 | .ge,.int i,.int j=>.ok (.bl (decide (j<=i))) h
 | .isin,.str a,.str b=>match eA a b with
  |some r=>.ok (.bl r) h
  |none=>.bad
 | .isin,.int a,.ref i=>match (qC h i).bind jC with
  |some xs=>.ok (.bl (xs.contains a)) h
  |none=>vW i (.int a) h
 | .notin,.int a,.ref i=>match (qC h i).bind jC with
  |some xs=>.ok (.bl (!xs.contains a)) h
  |none=>kT i (.int a) h
 | .notin,.str a,.str b=>match eA a b with
  |some r=>.ok (.bl (!r)) h
  |none=>.bad
 | .ix,.tup xs,.int i=>match (ixN xs.length i).bind (xs[·]?) with
  |some d=>.ok d h
  |none=>.bad
 | .ix,.str x,.int i=>if x.length<=16777216 then match (ixN x.length i).bind (x[·]?) with
  |some c=>.ok (.str [c]) h
  |none=>.bad
  else .bad
 | .ix,.ref k,.int i=>match (qC h k).bind fun xs=>(ixN xs.length i).bind (xs[·]?) with
  |some d=>.ok d h
  |none=>ixK k (.int i) h
 | .ix,.ref k,.str x=>ixK k (.str x) h
 | .min2,.int i,.int j=>.ok (.int (if j<i then j else i)) h
 | .max2,.int i,.int j=>.ok (.int (if j > i then j else i)) h
 | .zfill,.str x,.int n=>if 0<=n/\n<=1000/\jV x=true/\x.length<=1000 then .ok (.str (List.replicate (n.toNat-x.length) 48++x)) h else .bad
 | .join,.str x,.ref i=>match (qC h i).bind jO with
  |some xs=>if jY x xs<=16777216 then .ok (.str (qX x xs)) h else .bad
  |none=>.bad
 | .append,.ref k,d=>match h[k]? with
  |some (.lst xs)=>if xs.length<16777216 then .ok .non (h.set k (.lst (xs++[d]))) else .bad
  |_=>.bad
 | .split,.str a,.str b=>match b with
  | [c]=>if c<256/\a.length<=1000000 then newL ((kJ a (zZ c 0 a)).map .str) h else .bad
  |_=>.bad
 | .rpart,.str a,.str b=>match b with
  | [c]=>if a.length<=1000000 then .ok (.tup ((kB a c).map .str)) h else .bad
  |_=>.bad
 | .get,.ref k,.int i=>eE k (.int i) h
 | .extend,.ref k,.ref j=>match h[k]?,h[j]? with
  |some (.lst xs),some (.lst ys)=>if xs.length+ys.length<=16777216 then .ok .non (h.set k (.lst (xs++ys))) else .bad
  |_,_=>.bad
 |_,_,_=>.bad
def slD(x:D)(l u:Option Int):M D:=fun h=>match x with
 | .str x=>if x.length<=16777216 then .ok (.str (qO x l u)) h else .bad
 | .tup xs=>.ok (.tup (qO xs l u)) h
 | .ref i=>match qC h i with
  |some xs=>newL (qO xs l u) h
  |none=>.bad
 |_=>.bad
def jL(o:Bi)(x:D):M Unit:=fun h=>match o,x with
 | .append,.ref i=>match qC h i with
  |some _=>.ok () h
  |none=>.bad
 | .extend,.ref i=>match qC h i with
  |some _=>.ok () h
  |none=>.bad
 | .split,.str _=>.ok () h
 | .rpart,.str _=>.ok () h
 | .join,.str _=>.ok () h
 | .zfill,.str _=>.ok () h
 | .get,.ref i=>match h[i]? with
  |some (.dct _)=>.ok () h
  |_=>.bad
 |_,_=>.bad
def lV(m:Nat)(x:D):M Nat:=fun h=>match x with
 | .ref i=>match h[i]? with
  |some (.ins c fs)=>if (qI m fs).isNone then .ok c h else .bad
  |_=>.bad
 |_=>.bad
def cB(k:Nat)(cs:List Nat)(d x:D):M Unit:=fun h=>match x with
 | .ref i=>match h[i]? with
  |some (.ins c fs)=>if cs.contains c=true/\fs.length<1000 then .ok () (h.set i (.ins c (zI k d fs))) else .bad
  |_=>.bad
 |_=>.bad
def gY(d x y:D):M Unit:=fun h=>match x,y with
 | .ref k,.int j=>match h[k]? with
  |some (.lst xs)=>match ixN xs.length j with
   |some p=>.ok () (h.set k (.lst (xs.set p d)))
   |none=>.bad
  |_=>wI d k (.int j) h
 | .ref k,.str x=>wI d k (.str x) h
 |_,_=>.bad
def yF(F:Nat->List D->M D)(c f:Nat)(xs:List D):M D:=fun h=>(F f (.ref h.length::xs) (h++[.ins c []])).bind fun d h'=>match d with
 | .non=>.ok (.ref h.length) h'
 |_=>.bad
def qD3(d:D):M (Option Int):=fun h=>match d with
 | .int i=>.ok (some i) h
 |_=>.bad
mutual
inductive CE where
 |lit (d:D) | var (i:Nat) | un (o:Un) (a:CE) | bi (o:Bi) (a b:CE) | sl (a:CE) (lo hi:CP)
 |and (a b:CE) | or (a b:CE) | not (a:CE) | ite (c:CT) (a b:CE) | chain (o p:Bi) (a b c:CE) | me (o:Bi) (a b:CE)
 |tup (es:CL) | lst (es:CL) | disp (ks:List Ky) (es:CL) | call (f:Nat) (es:CL) | meth (m:Nat) (tb:List (Nat × Nat)) (a:CE) (es:CL) | make (c f:Nat) (es:CL) | comp (elt:CE) (it:CI) | compIf (elt:CE) (c:CT) (it:CI) | compD (elt:CE) (c:CT) (d:CE)
inductive CT where
 |val (e:CE) | and (a b:CT) | or (a b:CT) | not (a:CT)
inductive CL where
 |nil | cons (e:CE) (r:CL)
inductive CI where
 |of (e:CE) | rng1 (e:CE) | rng2 (a b:CE) | rng3 (a b c:CE)
inductive CP where
 |no | at (e:CE)
end
inductive TG where
 |nm (i:Nat) | two (i j:Nat)
mutual
inductive CS where
 |skip | opq | seq (a b:CS) | set (t:TG) (e:CE) | exp (e:CE) | ret (e:CE) | retN | ite (c:CT) (a b:CS)
 |fori (t:TG) (it:CI) (b:CS) | forD (i:Nat) (e:CE) (b:CS) | whil (c:CT) (b:CS) | brk | cnt | raise (c:Nat) | setF (a:CE) (k:Nat) (cs:List Nat) (e:CE) | setIx (a i e:CE) | tryx (b:CS) (hs:CH)
inductive CH where
 |nil | cons (cs:List Nat) (k:CS) (r:CH)
end
inductive It where
 |row (xs:List D) | live (i:Nat) | pairs (xs:List D)
def nS(i j k:Int):Nat:=if i<j then ((j-i-1) / k+1).toNat else 0
def vP(lo st:Int)(n:Nat):List D:=(List.range n).map fun (k:Nat)=>D.int (lo+k*st)
def dW(d:D):M It:=fun h=>match d with
 | .str x=>.ok (.row (x.map fun c=>.str [c])) h
 | .tup xs=>.ok (.row xs) h
 | .ref i=>match qC h i with
  |some _=>.ok (.live i) h
  |none=>.bad
 |_=>.bad
def jI(m:Env->M D)(U:Env)(x:D):M (Option D):=(m (U++[some x])).calm.bind fun y=>M.ret (some y)
def jG(m:Env->M D)(c:Env->M Bool)(U:Env)(x:D):M (Option D):=(c (U++[some x])).calm.bind fun k=>if k then (m (U++[some x])).calm.bind fun y=>M.ret (some y) else M.ret none
def zL(f:D->M (Option D)):List D->M (List D)
 | []=>M.ret []
 |x::xs=>(f x).bind fun y=>(zL f xs).bind fun ys=>M.ret (match y with | some y=>y::ys | none=>ys)
def zR(f:D->M (Option D))(i:Nat):Nat->Nat->M (List D)
 |0,_=>M.bad
 |n+1,k=>fun h=>match qC h i with
  |none=>.bad
  |some xs=>match xs[k]? with
   |none=>.ok [] h
   |some x=>((f x).bind fun y=>(zR f i n (k+1)).bind fun ys=>M.ret (match y with | some y=>y::ys | none=>ys)) h
def uH(f:D->M (Option D)):It->M (List D)
 | .row xs=>M.when (xs.length<16777216) (zL f xs)
 | .live i=>fun h=>M.when (zN h i<16777216) (zR f i (zN h i) 0) h
 | .pairs _=>M.bad
section
variable (F:Nat->List D->M D)
mutual
noncomputable def den:CE->Env->M D
 | .lit d,_=>M.ret d
 | .var i,U=>fun h=>match U[i]? with
  |some (some d)=>.ok d h
  |_=>.bad
 | .un o a,U=>(den a U).bind (unD o)
 | .bi o a b,U=>(den a U).bind fun x=>(den b U).bind fun y=>biD o x y
 | .sl a lo hi,U=>(den a U).bind fun x=>(kY lo U).bind fun l=>(kY hi U).bind fun u=>slD x l u
 | .and a b,U=>(den a U).bind fun x=>match x with
  | .bl true=>den b U
  | .bl false=>M.ret (.bl false)
  |_=>M.bad
 | .or a b,U=>(den a U).bind fun x=>match x with
  | .bl true=>M.ret (.bl true)
  | .bl false=>den b U
  |_=>M.bad
 | .not a,U=>((den a U).bind yV).bind fun b=>M.ret (.bl (!b))
 | .ite c a b,U=>(qM c U).bind fun k=>if k then den a U else den b U
 | .chain o p a b c,U=>(den a U).bind fun x=>(den b U).bind fun y=>(biD o x y).bind fun z=>match z with
  | .bl true=>(den c U).bind fun w=>biD p y w
  | .bl false=>M.ret (.bl false)
  |_=>M.bad
 | .me o a b,U=>(den a U).bind fun x=>(jL o x).bind fun _=>(den b U).bind fun y=>biD o x y
 | .tup es,U=>(zB es U).bind fun xs=>M.when (xs.length<=16777216) (M.ret (.tup xs))
 | .lst es,U=>(zB es U).bind newL
 | .disp ks es,U=>fun h=>(zB es U (h++[.dct []])).bind fun ds=>aU ks ds h.length
 | .call f es,U=>(zB es U).bind (F f)
 | .meth m tb a es,U=>(den a U).bind fun x=>(lV m x).bind fun c=>match tbN tb c with
  |some f=>(zB es U).bind fun xs=>F f (x::xs)
  |none=>M.bad
 | .make c f es,U=>(zB es U).bind (yF F c f)
 | .comp e it,U=>(jF it U).bind fun r=>(uH (jI (den e) U) r).bind newL
 | .compIf e c it,U=>(jF it U).bind fun r=>(uH (jG (den e) (qM c) U) r).bind newL
 | .compD e c d,U=>(den d U).bind fun x=>qBj x fun ks=>(zL (jG (den e) (qM c) U) ks).bind newL
noncomputable def zB:CL->Env->M (List D)
 | .nil,_=>M.ret []
 | .cons e r,U=>(den e U).bind fun x=>(zB r U).bind fun xs=>M.ret (x::xs)
noncomputable def jF:CI->Env->M It
 | .of e,U=>(den e U).bind dW
 | .rng1 e,U=>(den e U).bind fun x=>match x with
  | .int j=>M.when (zU j) (M.ret (.row (kC 0 j.toNat)))
  |_=>M.bad
 | .rng2 a b,U=>(den a U).bind fun x=>(den b U).bind fun y=>match x,y with
  | .int i,.int j=>M.when (zU i/\zU j) (M.ret (.row (kC i (j-i).toNat)))
  |_,_=>M.bad
 | .rng3 a b c,U=>(den a U).bind fun x=>(den b U).bind fun y=>(den c U).bind fun z=>match x,y,z with
  | .int i,.int j,.int k=>M.when ((zU i/\zU j)/\0<k/\k<1073741824) (M.ret (.row (vP i k (nS i j k))))
  |_,_,_=>M.bad
noncomputable def kY:CP->Env->M (Option Int)
 | .no,_=>M.ret none
 | .at e,U=>(den e U).bind qD3
noncomputable def qM:CT->Env->M Bool
 | .val e,U=>(den e U).bind yV
 | .and a b,U=>(qM a U).bind fun x=>if x then qM b U else M.ret false
 | .or a b,U=>(qM a U).bind fun x=>if x then M.ret true else qM b U
 | .not a,U=>(qM a U).bind fun b=>M.ret (!b)
end
end
inductive SR where
 |nx (U:Env) (h:AH) | rt (d:D) (h:AH) | bk (U:Env) (h:AH) | ct (U:Env) (h:AH) | exc (c:Nat) (U:Env) (h:AH) | bad
def SR.ofR{α:Type}(U:Env):R α->(α->AH->SR)->SR
 | .ok a h,f=>f a h
 | .exc c h,_=>.exc c U h
 | .bad,_=>.bad
def SR.andThen:SR->(Env->AH->SR)->SR
 | .nx U h,f=>f U h
 |r,_=>r
def gP(t:TG)(d:D)(U:Env):Option Env:=match t with
 | .nm i=>some (U.set i (some d))
 | .two i j=>match d with
  | .tup [a,b]=>some ((U.set i (some a)).set j (some b))
  |_=>none
def SR.calm:SR->SR
 | .exc _ _ _=>.bad
 |r=>r
def SR.catch:SR->(Nat->Env->AH->SR)->SR
 | .exc c U h,f=>f c U h
 |r,_=>r
def SR.turn:SR->(Env->AH->SR)->SR
 | .nx U h,f=>f U h
 | .ct U h,f=>f U h
 | .bk U h,_=>.nx U h
 | .exc _ _ _,_=>.bad
 |r,_=>r
def qV(t:TG)(b:Env->AH->SR)(x:D)(U:Env)(h:AH):SR:=match gP t x U with
 |some U'=>b U' h
 |none=>.bad
def zJ(step:D->Env->AH->SR):List D->Env->AH->SR
 | [],U,h=>.nx U h
 |x::xs,U,h=>(step x U h).turn (zJ step xs)
def jW(step:D->Env->AH->SR)(i:Nat):Nat->Nat->Env->AH->SR
 |0,_,_,_=>.bad
 |n+1,k,U,h=>match qC h i with
  |none=>.bad
  |some xs=>match xs[k]? with
   |none=>.nx U h
   |some x=>(step x U h).turn (jW step i n (k+1))
def qEd(step:D->Env->AH->SR):It->Env->AH->SR
 | .row xs,U,h=>zJ step xs U h
 | .live i,U,h=>jW step i (zN h i) 0 U h
 | .pairs _,_,_=>.bad
def SR.thaw(i:Nat):SR->SR
 | .nx U h=>match h[i]? with
  |some (.rod kvs)=>.nx U (h.set i (.dct kvs))
  |_=>.bad
 | .rt d h=>match h[i]? with
  |some (.rod kvs)=>.rt d (h.set i (.dct kvs))
  |_=>.bad
 |_=>.bad
def qEe(step:D->Env->AH->SR)(x:D)(U:Env)(h:AH):SR:=match x with
 | .ref i=>match h[i]? with
  |some (.dct kvs)=>(zJ step (jU kvs) U (h.set i (.rod kvs))).thaw i
  |_=>.bad
 |_=>.bad
def kH(c:Env->M Bool)(step:Env->AH->SR):Nat->Env->AH->SR
 |0,_,_=>.bad
 |n+1,U,h=>match c U h with
  | .ok b h1=>if b then (step U h1).turn (kH c step n) else .nx U h1
  |_=>.bad
section
variable (F:Nat->List D->M D)(B:Nat)
mutual
noncomputable def qB:CS->Env->AH->SR
 | .skip,U,h=>.nx U h
 | .opq,_,_=>.bad
 | .seq a b,U,h=>(qB a U h).andThen (qB b)
 | .set t e,U,h=>SR.ofR U (den F e U h) fun d h1=>match gP t d U with
  |some U'=>.nx U' h1
  |none=>.bad
 | .exp e,U,h=>SR.ofR U (den F e U h) fun _ h1=>.nx U h1
 | .ret e,U,h=>SR.ofR U (den F e U h) fun d h1=>.rt d h1
 | .retN,_,h=>.rt .non h
 | .ite c a b,U,h=>SR.ofR U (qM F c U h) fun k h1=>if k then qB a U h1 else qB b U h1
 | .fori t it b,U,h=>SR.ofR U (jF F it U h).calm fun r h1=>qEd (qV t (qB b)) r U h1
 | .forD i e b,U,h=>SR.ofR U (den F e U h).calm fun d h1=>qEe (qV (.nm i) (qB b)) d U h1
 | .whil c b,U,h=>kH (qM F c) (qB b) B U h
 | .brk,U,h=>.bk U h
 | .cnt,U,h=>.ct U h
 | .raise c,U,h=>.exc c U h
 | .setF a k cs e,U,h=>SR.ofR U (den F e U h) fun d h1=>SR.ofR U ((den F a U).bind (cB k cs d) h1) fun _ h2=>.nx U h2
 | .setIx a i e,U,h=>SR.ofR U (den F e U h) fun d h1=>SR.ofR U ((den F a U).bind (fun x=>(den F i U).bind fun y=>gY d x y) h1) fun _ h2=>.nx U h2
 | .tryx b hs,U,h=>(qB b U h).catch fun c U' h'=>gC hs c U' h'
noncomputable def gC:CH->Nat->Env->AH->SR
 | .nil,_,_,_=>.bad
 | .cons cs k r,c,U,h=>if cs.contains c then (qB k U h).calm else gC r c U h
end
end
structure Fn where
 ar:Nat
 sl:Nat
 body:CS
def fin:SR->R D
 | .nx _ h'=>.ok .non h'
 | .rt d h'=>.ok d h'
 | .exc c _ h'=>.exc c h'
 |_=>.bad
def lC(F:Nat->List D->M D)(B:Nat)(f:Fn)(as:List D):M D:=fun h=>
 if as.length=f.ar then fin (qB F B f.body (as.map some++List.replicate (f.sl-f.ar) none) h) else .bad
def qA(fs:List Fn)(B:Nat):Nat->Nat->List D->M D
 |0,_,_=>M.bad
 |n+1,f,as=>match fs[f]? with
  |some fn=>lC (qA fs B n) B fn as
  |none=>M.bad
theorem M.bind_eq{α β:Type}(m:M α)(f:α->M β)(h:AH):M.bind m f h=(m h).bind f:=(rfl)
theorem R.bind_ok{α β:Type}(a:α)(h:AH)(f:α->AH->R β):R.bind (.ok a h) f=f a h:=(rfl)
theorem M.ret_eq{α:Type}(a:α)(h:AH):M.ret a h=.ok a h:=(rfl)
theorem qJc{α:Type}(U:Env)(a:α)(h:AH)(f:α->AH->SR):SR.ofR U (.ok a h) f=f a h:=(rfl)
theorem qJd{α:Type}(U:Env)(c:Nat)(h:AH)(f:α->AH->SR):SR.ofR U (.exc c h) f=.exc c U h:=(rfl)
theorem wY{α:Type}(c:Prop)[Decidable c](m:M α)(h:AH):M.when c m h=if c then m h else .bad:=(rfl)
theorem qT9(U:Env)(h:AH)(f:Env->AH->SR):SR.andThen (.nx U h) f=f U h:=(rfl)
theorem qT8(d:D)(h:AH)(f:Env->AH->SR):SR.andThen (.rt d h) f=.rt d h:=(rfl)
theorem qUB(U:Env)(h:AH)(f:Env->AH->SR):SR.andThen (.bk U h) f=.bk U h:=(rfl)
theorem qUA(c:Nat)(U:Env)(h:AH)(f:Env->AH->SR):SR.andThen (.exc c U h) f=.exc c U h:=(rfl)
theorem qBq(U:Env)(h:AH)(f:Env->AH->SR):SR.turn (.nx U h) f=f U h:=(rfl)
theorem qHQ(U:Env)(h:AH)(f:Env->AH->SR):SR.turn (.bk U h) f=.nx U h:=(rfl)
theorem kA(i:Nat)(b:Env->AH->SR)(x:D)(U:Env)(h:AH):qV (.nm i) b x U h=b (U.set i (some x)) h:=(rfl)
theorem qLK{i j:Int}(h:-18446744073709551616<j/\j<18446744073709551616):vR i j:=.inr h
theorem qC9{i j:Int}(h:-18446744073709551616<i/\i<18446744073709551616):vR i j:=.inl h
theorem eC{h:AH}{i:Nat}{xs:List D}(g:AH)(e:qC h i=some xs):qC (h++g) i=some xs:=by
 unfold qC at e ⊢;cases q:h[i]? with
 |none=>rw[q] at e;cases e
 |some o=>have hl:=(List.getElem?_eq_some_iff.mp q).1;rw[List.getElem?_append_left hl,q];rw[q] at e;exact e
theorem qIT(d:D)(h:AH):SR.calm (.rt d h)=.rt d h:=(rfl)
theorem qLZ(m i:Nat)(h:AH):lV m (.ref i) h=(match h[i]? with | some (.ins c fs)=>if (qI m fs).isNone then .ok c h else .bad | _=>.bad):=(rfl)
theorem qIR(k:Nat)(cs:List Nat)(d:D)(i:Nat)(h:AH):cB k cs d (.ref i) h=(match h[i]? with | some (.ins c fs)=>if cs.contains c=true/\fs.length<1000 then .ok () (h.set i (.ins c (zI k d fs))) else .bad | _=>.bad):=(rfl)
theorem qIQ(d:D)(k:Nat)(j:Int)(h:AH):gY d (.ref k) (.int j) h=(match h[k]? with | some (.lst xs)=>(match ixN xs.length j with | some p=>.ok () (h.set k (.lst (xs.set p d))) | none=>.bad) | _=>wI d k (.int j) h):=(rfl)
theorem qQU(U:Env)(h:AH)(f:Nat->Env->AH->SR):SR.catch (.nx U h) f=.nx U h:=(rfl)
theorem qQV(c:Nat)(U:Env)(h:AH)(f:Nat->Env->AH->SR):SR.catch (.exc c U h) f=f c U h:=(rfl)
theorem qOv(U:Env)(h:AH):fin (.nx U h)=.ok .non h:=(rfl)
theorem qOu(d:D)(h:AH):fin (.rt d h)=.ok d h:=(rfl)
theorem qOw(c:Nat)(U:Env)(h:AH):fin (.exc c U h)=.exc c h:=(rfl)
theorem dA(f:D->M (Option D))(g:D->D)(h:AH):∀ xs:List D,(∀ x∈xs,f x h=.ok (some (g x)) h)->zL f xs h=.ok (xs.map g) h
 | [],_=>rfl
 |x::xs,H=>by
  have h1:=H x (List.mem_cons_self ..);have h2:=dA f g h xs fun y hy=>H y (List.mem_cons_of_mem _ hy);unfold zL;simp only[M.bind_eq,h1,R.bind_ok,h2,M.ret_eq,List.map_cons]
theorem nG(h:AH)(xs:List D):qC (h++[.lst xs]) h.length=some xs:=by
 unfold qC;simp
theorem qRq{α:Type}(f:α->Bool)(xs:List α):wC (xs.map fun c=>.bl (f c))=some (xs.map f):=by
 induction xs with
 |nil=>rfl
 |cons x xs ih=>simp only[List.map_cons,wC,ih,Option.map_some]
theorem qBb{α:Type}(f:α->Bool)(xs:List α):bO (xs.map fun c=>.bl (f c))=some (xs.all f):=by
 unfold bO;rw[qRq,Option.map_some,List.all_map];rfl
theorem qLd(f:D->M (Option D))(xs:List D)(h:AH):uH f (.row xs) h=if xs.length<16777216 then zL f xs h else .bad:=(rfl)
theorem dB(f:D->M (Option D))(i:Nat)(h:AH):uH f (.live i) h=if zN h i<16777216 then zR f i (zN h i) 0 h else .bad:=(rfl)
theorem wB(m:Env->M D)(U:Env)(x:D)(h:AH):jI m U x h=R.bind (m (U++[some x]) h).calm fun y h'=>.ok (some y) h':=(rfl)
theorem qQW{α:Type}(a:α)(h:AH):(R.ok a h).calm=.ok a h:=(rfl)
theorem qQX{α:Type}(m:M α)(h:AH):M.calm m h=(m h).calm:=(rfl)
theorem wN(a c:Nat):decide ((a:Int)<=(c:Int))=decide (a<=c):=by
 rw[Bool.eq_iff_iff];simp
theorem yK(a c:Nat):decide ((a:Int)<(c:Int))=decide (a<c):=by
 rw[Bool.eq_iff_iff];simp
theorem qD2(a c:Nat):((a:Int) == (c:Int))=decide (a=c):=by
 rw[Bool.eq_iff_iff];simp
 lia
theorem mR{n k:Nat}(h:k<n):ixN n (k:Int)=some k:=by
 unfold ixN;rw[if_pos (by lia),if_pos (by lia),Int.toNat_natCast]
theorem qG4(i:Int)(h:AH):unD .neg (.int i) h=(.ok (.int (-i)) h):=(rfl)
theorem qG8(x:Tx)(h:AH):unD .len (.str x) h=(if x.length<=16777216 then .ok (.int x.length) h else .bad):=(rfl)
theorem qG7(xs:List D)(h:AH):unD .len (.tup xs) h=(.ok (.int xs.length) h):=(rfl)
theorem qG6(i:Nat)(h:AH):unD .len (.ref i) h=(match qC h i with | some xs=>.ok (.int xs.length) h | none=>uL i h):=(rfl)
theorem qG0(i:Int)(h:AH):unD .str (.int i) h=(if i.natAbs.log2<1920 then .ok (.str (txI i)) h else .bad):=(rfl)
theorem qHC(b:Bool)(h:AH):unD .int (.bl b) h=(.ok (.int (b2i b)) h):=(rfl)
theorem qHB(x:Tx)(h:AH):unD .int (.str x) h=(if x≠[]/\x.length<=640/\jV x=true then .ok (.int (kN x)) h else .bad):=(rfl)
theorem qG2(c:Nat)(h:AH):unD .ord (.str [c]) h=(.ok (.int c) h):=(rfl)
theorem qGz(i:Nat)(h:AH):unD .tuple (.ref i) h=(match qC h i with | some xs=>.ok (.tup xs) h | none=>.bad):=(rfl)
theorem qG5(i:Nat)(h:AH):unD .list (.ref i) h=(match qC h i with | some xs=>newL xs h | none=>.bad):=(rfl)
theorem qHE(i:Nat)(h:AH):unD .all (.ref i) h=(match (qC h i).bind bO with | some b=>.ok (.bl b) h | none=>.bad):=(rfl)
theorem qG1(i:Nat)(h:AH):unD .sorted (.ref i) h=(match qC h i with | some ds=>cA ds h | none=>.bad):=(rfl)
theorem qHD(k i:Nat)(h:AH):unD (.fld k) (.ref i) h=(match h[i]? with | some (.ins _ fs)=>(match qI k fs with | some d=>.ok d h | none=>.bad) | _=>.bad):=(rfl)
theorem qHA(d:D)(h:AH):unD .isN d h=(.ok (.bl (match d with | .non=>true | _=>false)) h):=(rfl)
theorem qG3(d:D)(h:AH):unD .notN d h=(.ok (.bl (match d with | .non=>false | _=>true)) h):=(rfl)
theorem qG9(t:Ty)(d:D)(h:AH):unD (.isi t) d h=(match kS h t d with | some b=>.ok (.bl b) h | none=>.bad):=(rfl)
theorem qJ8(i j:Int)(h:AH):biD .add (.int i) (.int j) h=(.ok (.int (i+j)) h):=(rfl)
theorem qJ7(a b:Tx)(h:AH):biD .add (.str a) (.str b) h=(if a.length+b.length<=16777216 then .ok (.str (a++b)) h else .bad):=(rfl)
theorem qJ6(a b:List D)(h:AH):biD .add (.tup a) (.tup b) h=(if a.length+b.length<=16777216 then .ok (.tup (a++b)) h else .bad):=(rfl)
theorem qJ5(i j:Nat)(h:AH):biD .add (.ref i) (.ref j) h=(match h[i]?,h[j]? with | some (.lst xs),some (.lst ys)=>newL (xs++ys) h | _,_=>.bad):=(rfl)
theorem qJh(i j:Int)(h:AH):biD .sub (.int i) (.int j) h=(.ok (.int (i-j)) h):=(rfl)
theorem qJm(i j:Int)(h:AH):biD .mul (.int i) (.int j) h=(if vR i j then .ok (.int (i*j)) h else .bad):=(rfl)
theorem qJi(a:Tx)(c:Nat)(h:AH):biD .split (.str a) (.str [c]) h=(if c<256/\a.length<=1000000 then newL ((kJ a (zZ c 0 a)).map .str) h else .bad):=(rfl)
theorem qJj(a:Tx)(c:Nat)(h:AH):biD .rpart (.str a) (.str [c]) h=(if a.length<=1000000 then .ok (.tup ((kB a c).map .str)) h else .bad):=(rfl)
theorem qJz(k:Nat)(i:Int)(h:AH):biD .get (.ref k) (.int i) h=(eE k (.int i) h):=(rfl)
theorem qJ2(k j:Nat)(h:AH):biD .extend (.ref k) (.ref j) h=(match h[k]?,h[j]? with | some (.lst xs),some (.lst ys)=>if xs.length+ys.length<=16777216 then .ok .non (h.set k (.lst (xs++ys))) else .bad | _,_=>.bad):=(rfl)
theorem qJ1(i j:Int)(h:AH):biD .fdiv (.int i) (.int j) h=(if 0<j/\j<1073741824 then .ok (.int (i / j)) h else .bad):=(rfl)
theorem qJn(i j:Int)(h:AH):biD .mod (.int i) (.int j) h=(if 0<j then .ok (.int (i % j)) h else .bad):=(rfl)
theorem qJ3(x y:D)(h:AH):biD .eq x y h=(match kW h x y with | some b=>.ok (.bl b) h | none=>.bad):=(rfl)
theorem qJl(x y:D)(h:AH):biD .ne x y h=(match kW h x y with | some b=>.ok (.bl (!b)) h | none=>.bad):=(rfl)
theorem qJq(i j:Int)(h:AH):biD .lt (.int i) (.int j) h=(.ok (.bl (decide (i<j))) h):=(rfl)
theorem qJr(i j:Int)(h:AH):biD .le (.int i) (.int j) h=(.ok (.bl (decide (i<=j))) h):=(rfl)
theorem qJy(i j:Int)(h:AH):biD .gt (.int i) (.int j) h=(.ok (.bl (decide (j<i))) h):=(rfl)
theorem qJ0(i j:Int)(h:AH):biD .ge (.int i) (.int j) h=(.ok (.bl (decide (j<=i))) h):=(rfl)
theorem qJx(c:Nat)(b:Tx)(h:AH):biD .isin (.str [c]) (.str b) h=(.ok (.bl (b.contains c)) h):=(rfl)
theorem qJw(a:Int)(i:Nat)(h:AH):biD .isin (.int a) (.ref i) h=(match (qC h i).bind jC with | some xs=>.ok (.bl (xs.contains a)) h | none=>vW i (.int a) h):=(rfl)
theorem qJk(a:Int)(i:Nat)(h:AH):biD .notin (.int a) (.ref i) h=(match (qC h i).bind jC with | some xs=>.ok (.bl (!xs.contains a)) h | none=>kT i (.int a) h):=(rfl)
theorem qJv(xs:List D)(i:Int)(h:AH):biD .ix (.tup xs) (.int i) h=(match (ixN xs.length i).bind (xs[·]?) with | some d=>.ok d h | none=>.bad):=(rfl)
theorem qJu(x:Tx)(i:Int)(h:AH):biD .ix (.str x) (.int i) h=(if x.length<=16777216 then (match (ixN x.length i).bind (x[·]?) with | some c=>.ok (.str [c]) h | none=>.bad) else .bad):=(rfl)
theorem qJt(k:Nat)(i:Int)(h:AH):biD .ix (.ref k) (.int i) h=(match (qC h k).bind fun xs=>(ixN xs.length i).bind (xs[·]?) with | some d=>.ok d h | none=>ixK k (.int i) h):=(rfl)
theorem qJo(i j:Int)(h:AH):biD .min2 (.int i) (.int j) h=(.ok (.int (if j<i then j else i)) h):=(rfl)
theorem qJp(i j:Int)(h:AH):biD .max2 (.int i) (.int j) h=(.ok (.int (if j > i then j else i)) h):=(rfl)
theorem qJg(x:Tx)(n:Int)(h:AH):biD .zfill (.str x) (.int n) h=(if 0<=n/\n<=1000/\jV x=true/\x.length<=1000 then .ok (.str (List.replicate (n.toNat-x.length) 48++x)) h else .bad):=(rfl)
theorem qJs(x:Tx)(i:Nat)(h:AH):biD .join (.str x) (.ref i) h=(match (qC h i).bind jO with | some xs=>if jY x xs<=16777216 then .ok (.str (qX x xs)) h else .bad | none=>.bad):=(rfl)
theorem qJ4(k:Nat)(d:D)(h:AH):biD .append (.ref k) d h=(match h[k]? with | some (.lst xs)=>if xs.length<16777216 then .ok .non (h.set k (.lst (xs++[d]))) else .bad | _=>.bad):=(rfl)
theorem qHb(b:Bool)(h:AH):yV (.bl b) h=(.ok b h):=(rfl)
theorem qM8(x:Tx)(h:AH):dW (.str x) h=(.ok (.row (x.map fun c=>.str [c])) h):=(rfl)
theorem qM7(xs:List D)(h:AH):dW (.tup xs) h=(.ok (.row xs) h):=(rfl)
theorem qM9(i:Nat)(h:AH):dW (.ref i) h=(match qC h i with | some _=>.ok (.live i) h | none=>.bad):=(rfl)
theorem qIY(x:Tx)(l u:Option Int)(h:AH):slD (.str x) l u h=(if x.length<=16777216 then .ok (.str (qO x l u)) h else .bad):=(rfl)
theorem qIW(x:List D)(l u:Option Int)(h:AH):slD (.tup x) l u h=(.ok (.tup (qO x l u)) h):=(rfl)
theorem qIe(i:Nat)(l u:Option Int)(h:AH):slD (.ref i) l u h=(match qC h i with | some xs=>newL (qO xs l u) h | none=>.bad):=(rfl)
theorem qLX(i:Nat)(h:AH):jL .append (.ref i) h=(match qC h i with | some _=>.ok () h | none=>.bad):=(rfl)
theorem qLR(x:Tx)(h:AH):jL .zfill (.str x) h=.ok () h:=(rfl)
theorem qLU(x:Tx)(h:AH):jL .join (.str x) h=.ok () h:=(rfl)
theorem qLV(i:Nat)(h:AH):jL .get (.ref i) h=(match h[i]? with | some (.dct _)=>.ok () h | _=>.bad):=(rfl)
theorem qLW(i:Nat)(h:AH):jL .extend (.ref i) h=(match qC h i with | some _=>.ok () h | none=>.bad):=(rfl)
theorem qGp(i:Nat)(k:List D->M D)(h:AH):qBj (.ref i) k h=(match h[i]? with | some (.dct kvs)=>if kvs.length<16777216 then gO i (k (jU kvs) (h.set i (.rod kvs))) else .bad | _=>.bad):=(rfl)
theorem qHY{α:Type}(i:Nat)(a:α)(h:AH):gO i (.ok a h)=(match h[i]? with | some (.rod kvs)=>.ok a (h.set i (.dct kvs)) | _=>.bad):=(rfl)
theorem qOt(step:D->Env->AH->SR)(i:Nat)(U:Env)(h:AH):qEe step (.ref i) U h=(match h[i]? with | some (.dct kvs)=>(zJ step (jU kvs) U (h.set i (.rod kvs))).thaw i | _=>.bad):=(rfl)
theorem qHX(i:Nat)(U:Env)(h:AH):SR.thaw i (.nx U h)=(match h[i]? with | some (.rod kvs)=>.nx U (h.set i (.dct kvs)) | _=>.bad):=(rfl)
theorem qLS(x:Tx)(h:AH):jL .split (.str x) h=.ok () h:=(rfl)
theorem qLT(x:Tx)(h:AH):jL .rpart (.str x) h=.ok () h:=(rfl)
theorem qNM(i:Int)(h:AH):qD3 (.int i) h=.ok (some i) h:=(rfl)
theorem isi_int(t:Ty)(i:Int)(h:AH):kS h t (.int i)=(some (t == .int)):=(rfl)
theorem isi_str(t:Ty)(x:Tx)(h:AH):kS h t (.str x)=(some (t == .str)):=(rfl)
theorem isi_tup(t:Ty)(xs:List D)(h:AH):kS h t (.tup xs)=(some (t == .tuple)):=(rfl)
theorem qPA(b1:Bool)(b2:Bool)(h:AH):kW h (.bl b1) (.bl b2)=(some (b1 == b2)):=(rfl)
theorem qO9(i1:Int)(i2:Int)(h:AH):kW h (.int i1) (.int i2)=(some (i1 == i2)):=(rfl)
theorem qO8(x1:Tx)(x2:Tx)(h:AH):kW h (.str x1) (.str x2)=(some (x1 == x2)):=(rfl)
theorem qO7(t1:List D)(t2:List D)(h:AH):kW h (.tup t1) (.tup t2)=(eqW (eqD h 39) t1 t2):=(rfl)
open PySem PySem.Spec PyProof.Rows
open L2 (V Hp HO VK TE TT TA TS TI Cx Inv RelV Vals SqL SqT Rd upd qL qH PE PT PA PS PSs EP)
mutual
noncomputable def RepV(K:PySem.W.Frag)(Y:List Addr)(H:Hp):D->V->Prop
 | .non,v=>v=.non
 | .bl b,v=>v=.bl b
 | .int i,v=>v=.int i
 | .str x,v=>v=.str ⟨x.toArray⟩
 | .tup xs,v=>∃ a vs,v=.ref a/\SqT K H a vs/\RepL K Y H xs vs
 | .ref i,v=>∃ a,Y[i]?=some a/\v=.ref a
noncomputable def RepL(K:PySem.W.Frag)(Y:List Addr)(H:Hp):List D->List V->Prop
 | [],vs=>vs=[]
 |x::xs,vs=>∃ v r,vs=v::r/\RepV K Y H x v/\RepL K Y H xs r
end
def KL(K:PySem.W.Frag)(a:Addr)(xs:List V):Prop:=
 ∃ (o:Obj) (its:Array Value) (n:Nat),K.lookup a=some o/\o.cls=.type "list"/\o.dict=none/\o.data=.seq its n/\its.size<=sizeLine/\Vals xs its.toList
def zW(K:PySem.W.Frag)(c:Nat)(C:Addr):Prop:=PySem.W.nsIn K mainGlobals (qD c)=some (some (.ref C))
def xcO(a C:Addr):HO:=.ext fun h=>∃ o,h.get? a=some o/\o.cls=.ref C
def RepF(K:PySem.W.Frag)(Y:List Addr)(H:Hp)(C:Addr):List (Nat × D)->List (Str × V)->Prop
 | [],vs=>vs=[]
 |x::xs,vs=>∃ v r,vs=(qD x.1,v)::r/\x.1<256 ^ 60/\L2.NoAttr K C (qD x.1)/\RepV K Y H x.2 v/\RepF K Y H C xs r
def kyV:Ky->L2.Key
 | .int i=>.inl i
 | .str x=>.inr ⟨x.toArray⟩
def RepK(K:PySem.W.Frag)(Y:List Addr)(H:Hp):List (Ky × D)->List (L2.Key × V)->Prop
 | [],vs=>vs=[]
 |x::xs,vs=>∃ v r,vs=(kyV x.1,v)::r/\RepV K Y H x.2 v/\RepK K Y H xs r
def RepO(K:PySem.W.Frag)(Y:List Addr)(H:Hp):O->Addr->Prop
 | .lst xs,a=>∃ vs,H a=some (.lst vs)/\RepL K Y H xs vs
 | .rol xs,a=>∃ vs,((∃ o,H a=some (.frz o (.lst vs)))\/KL K a vs)/\RepL K Y H xs vs
 | .ins c fs,a=>∃ C dx vs,zW K c C/\L2.Cls K C/\H a=some (.ins C dx vs)/\RepF K Y H C fs vs
 | .dct kvs,a=>∃ vs,H a=some (.dK vs)/\RepK K Y H kvs vs
 | .xc c,a=>∃ C,zW K c C/\H a=some (xcO a C)
 | .rod kvs,a=>∃ ob vs,H a=some (.frz ob (.dK vs))/\RepK K Y H kvs vs
def kK:O->Bool
 | .rol _=>false
 | .xc _=>false
 |_=>true
structure RepH (K:PySem.W.Frag) (Y:List Addr) (h:AH) (H:Hp):Prop where
 len:Y.length=h.length
 obj:∀ (i:Nat) (o:O),h[i]?=some o->∃ a,Y[i]?=some a/\RepO K Y H o a
 inj:∀ (i j:Nat) (a:Addr) (o o':O),h[i]?=some o->h[j]?=some o'->kK o=true->kK o'=true->Y[i]?=some a->Y[j]?=some a->i=j
def Imm:HO->Bool
 | .tup _=>true
 | .frz _ _=>true
 | .ext _=>true
 |_=>false
structure Step (Y:List Addr) (H:Hp) (Y':List Addr) (H':Hp):Prop where
 pre:Y <+: Y'
 new:∀ a∈Y',a∈Y\/H a=none
 keep:∀ a o,H a=some o->(Imm o=true\/a∉Y)->H' a=some o
theorem Step.refl(Y:List Addr)(H:Hp):Step Y H Y H:=⟨List.prefix_refl _,fun _ h=>.inl h,fun _ _ h _=>h⟩
theorem Step.trans(a:Step Y H Y1 H1)(b:Step Y1 H1 Y2 H2):Step Y H Y2 H2:=by
 refine⟨a.pre.trans b.pre,fun x hx=>?_,fun x o h c=>b.keep x o (a.keep x o h c) (c.imp id fun n m=>?_)⟩
 ·rcases b.new x hx with h | h
  ·exact a.new x h
  ·by_cases m:x∈Y
   ·exact .inl m
   ·cases q:H x with
    |none=>exact .inr rfl
    |some o=>rw[a.keep x o q (.inr m)] at h;cases h
 ·rcases a.new x m with z | z
  ·exact n z
  ·rw[h] at z;cases z
theorem Step.tup(e:Step Y H Y' H')(h:Rd H a (.tup vs)):Rd H' a (.tup vs):=by
 rcases h with h | ⟨o,h⟩
 ·exact .inl (e.keep _ _ h (.inl rfl))
 ·exact .inr ⟨o,e.keep _ _ h (.inl rfl)⟩
theorem Step.sqt{K:PySem.W.Frag}(e:Step Y H Y' H')(h:SqT K H a vs):SqT K H' a vs:=h.imp e.tup id
theorem vQ(p:Y <+: Y'){i:Nat}{a:Addr}(h:Y[i]?=some a):Y'[i]?=some a:=by
 obtain ⟨t,rfl⟩:=p;rw[List.getElem?_append_left (List.getElem?_eq_some_iff.mp h).1];exact h
section
variable {K:PySem.W.Frag}{Y Y':List Addr}{H H':Hp}{a:Addr}
mutual
theorem RepV.mono(e:Step Y H Y' H'):∀ (d:D) (v:V),RepV K Y H d v->RepV K Y' H' d v
 | .non,_,h=>h
 | .bl _,_,h=>h
 | .int _,_,h=>h
 | .str _,_,h=>h
 | .tup xs,v,⟨a,vs,h1,h2,h3⟩=>⟨a,vs,h1,e.sqt h2,RepL.mono e xs vs h3⟩
 | .ref _,_,⟨a,h1,h2⟩=>⟨a,vQ e.pre h1,h2⟩
theorem RepL.mono(e:Step Y H Y' H'):∀ (ds:List D) (vs:List V),RepL K Y H ds vs->RepL K Y' H' ds vs
 | [],_,h=>h
 |d::ds,_,⟨v,r,h1,h2,h3⟩=>⟨v,r,h1,RepV.mono e d v h2,RepL.mono e ds r h3⟩
end
theorem RepL.length:∀ {ds:List D} {vs:List V},RepL K Y H ds vs->vs.length=ds.length
 | [],_,h=>by cases h;rfl
 |d::ds,_,⟨v,r,h1,_,h3⟩=>by subst h1;simp[RepL.length h3]
theorem RepL.get:∀ {ds:List D} {vs:List V} {i:Nat} {d:D},RepL K Y H ds vs->ds[i]?=some d->∃ v,vs[i]?=some v/\RepV K Y H d v
 | [],_,_,_,_,e=>by simp at e
 |x::ds,_,0,d,⟨v,r,h1,h2,_⟩,e=>by
  subst h1;simp at e;subst e
  exact⟨v,rfl,h2⟩
 |x::ds,_,i+1,d,⟨v,r,h1,_,h3⟩,e=>by
  subst h1;simpa using RepL.get (i:=i) h3 (by simpa using e)
theorem RepL.append:∀ {ds es:List D} {vs ws:List V},RepL K Y H ds vs->RepL K Y H es ws->RepL K Y H (ds++es) (vs++ws)
 | [],_,_,_,h,k=>by cases h;exact k
 |x::ds,es,_,ws,⟨v,r,h1,h2,h3⟩,k=>by subst h1;exact⟨v,r++ws,rfl,h2,RepL.append h3 k⟩
theorem RepL.drop:∀ {ds:List D} {vs:List V} (n:Nat),RepL K Y H ds vs->RepL K Y H (ds.drop n) (vs.drop n)
 |_,_,0,h=>h
 | [],_,n+1,h=>by cases h;exact rfl
 |x::ds,_,n+1,⟨v,r,h1,_,h3⟩=>by subst h1;exact RepL.drop n h3
theorem RepL.take:∀ {ds:List D} {vs:List V} (n:Nat),RepL K Y H ds vs->RepL K Y H (ds.take n) (vs.take n)
 |_,_,0,h=>by simp[RepL]
 | [],_,n+1,h=>by cases h;simp[RepL]
 |x::ds,_,n+1,⟨v,r,h1,h2,h3⟩=>by subst h1;exact⟨v,r.take n,rfl,h2,RepL.take n h3⟩
theorem Step.fresh(hp:H p=none):Step Y H Y (upd H p o):=
 ⟨List.prefix_refl _,fun _ h=>.inl h,fun a ob h _=>by rw[qH (L2.ne_of_none h hp)];exact h⟩
theorem Step.new1(hp:H p=none):Step Y H (Y++[p]) (upd H p o):=
 ⟨List.prefix_append _ _,fun a h=>(List.mem_append.mp h).imp id fun z=>by rw[List.mem_singleton.mp z];exact hp,fun a ob h _=>by rw[qH (L2.ne_of_none h hp)];exact h⟩
theorem Step.turn(hp:H p=some o)(hi:Imm o=false)(hm:p∈Y):Step Y H Y (upd H p o'):=by
 refine⟨List.prefix_refl _,fun _ h=>.inl h,fun a ob h c=>?_⟩;rw[qH]
 ·exact h
 ·intro z;subst z;rcases c with c | c
  ·rw[hp] at h;cases h;rw[hi] at c;cases c
  ·exact c hm
theorem RepF.mono{C:Addr}(e:Step Y H Y' H'):∀ (ds:List (Nat × D)) (vs:List (Str × V)),RepF K Y H C ds vs->RepF K Y' H' C ds vs
 | [],_,h=>h
 |d::ds,_,⟨v,r,h1,hb,hn,h2,h3⟩=>⟨v,r,h1,hb,hn,RepV.mono e _ v h2,RepF.mono e ds r h3⟩
theorem RepK.mono(e:Step Y H Y' H'):∀ (ds:List (Ky × D)) (vs:List (L2.Key × V)),RepK K Y H ds vs->RepK K Y' H' ds vs
 | [],_,h=>h
 |d::ds,_,⟨v,r,h1,h2,h3⟩=>⟨v,r,h1,RepV.mono e _ v h2,RepK.mono e ds r h3⟩
theorem RepO.mono(e:Step Y H Y' H'){o:O}(l:kK o=true->∀ u,H a=some u->H' a=some u)(h:RepO K Y H o a):RepO K Y' H' o a:=by
 cases o with
 |lst xs=>
  obtain ⟨vs,h1,h2⟩:=h
  exact⟨vs,l rfl _ h1,RepL.mono e _ _ h2⟩
 |rol xs=>
  obtain ⟨vs,h1,h2⟩:=h;refine⟨vs,?_,RepL.mono e _ _ h2⟩;rcases h1 with⟨ob,h1⟩ | h1
  ·exact .inl ⟨ob,e.keep _ _ h1 (.inl rfl)⟩
  ·exact .inr h1
 |ins c fs=>
  obtain ⟨C,dx,vs,h1,hc,h2,h3⟩:=h
  exact⟨C,dx,vs,h1,hc,l rfl _ h2,RepF.mono e _ _ h3⟩
 |dct kvs=>
  obtain ⟨vs,h1,h2⟩:=h
  exact⟨vs,l rfl _ h1,RepK.mono e _ _ h2⟩
 |xc c=>
  obtain ⟨C,h1,h2⟩:=h
  exact⟨C,h1,e.keep _ _ h2 (.inl rfl)⟩
 |rod kvs=>
  obtain ⟨ob,vs,h1,h2⟩:=h
  exact⟨ob,vs,e.keep _ _ h1 (.inl rfl),RepK.mono e _ _ h2⟩
theorem RepO.there{o:O}(h:RepO K Y H o a)(m:kK o=true):∃ u,H a=some u:=by
 cases o with
 |lst xs=>obtain ⟨vs,h1,_⟩:=h;exact⟨_,h1⟩
 |rol xs=>cases m
 |ins c fs=>obtain ⟨C,dx,vs,_,_,h1,_⟩:=h;exact⟨_,h1⟩
 |dct kvs=>obtain ⟨vs,h1,_⟩:=h;exact⟨_,h1⟩
 |xc c=>cases m
 |rod kvs=>obtain ⟨ob,vs,h1,_⟩:=h;exact⟨_,h1⟩
theorem RepH.fresh{h:AH}{p:Addr}{o:HO}(r:RepH K Y h H)(hp:H p=none):RepH K Y h (upd H p o):=
 ⟨r.len,fun i ob hi=>let ⟨a,h1,h2⟩:=r.obj i ob hi;⟨a,h1,h2.mono (Step.fresh hp) (fun _ u z=>by rw[qH (L2.ne_of_none z hp)];exact z)⟩,r.inj⟩
theorem RepH.newO{h:AH}(r:RepH K Y h H){p:Addr}{o:O}{u:HO}(hp:H p=none)(ho:RepO K (Y++[p]) (upd H p u) o p) :
  RepH K (Y++[p]) (h++[o]) (upd H p u):=by
 have e:Step Y H (Y++[p]) (upd H p u):=Step.new1 hp;refine⟨by simp[r.len],fun i ob hi=>?_,fun i j a o1 o2 hi hj m1 m2 hai haj=>?_⟩
 ·by_cases hlt:i<h.length
  ·rw[List.getElem?_append_left hlt] at hi;obtain ⟨a,h1,h2⟩:=r.obj i ob hi
   exact⟨a,vQ e.pre h1,h2.mono e (fun _ u z=>by rw[qH (L2.ne_of_none z hp)];exact z)⟩
  ·have hi':=(List.getElem?_eq_some_iff.mp hi).1;simp at hi';have e':i=h.length:=by lia
   subst e';rw[List.getElem?_append_right (Nat.le_refl _)] at hi;simp at hi;subst hi;refine⟨p,?_,ho⟩;rw[<- r.len,List.getElem?_append_right (Nat.le_refl _)];simp
 ·have key:∀ (i:Nat) (z:O),kK z=true->(h++[o])[i]?=some z->(Y++[p])[i]?=some a->(i<h.length/\h[i]?=some z/\Y[i]?=some a/\a≠p)\/(i=h.length/\a=p):=fun i z mz hi hai=>by
   by_cases hlt:i<h.length
   ·rw[List.getElem?_append_left hlt] at hi;rw[List.getElem?_append_left (by rw[r.len];exact hlt)] at hai;refine .inl ⟨hlt,hi,hai,fun q=>?_⟩;obtain ⟨b,h1,h2⟩:=r.obj i _ hi;rw[hai] at h1;cases h1;obtain ⟨w,h3⟩:=h2.there mz;rw[q,hp] at h3;cases h3
   ·have hi':=(List.getElem?_eq_some_iff.mp hi).1;simp at hi';have e':i=h.length:=by lia
    subst e';rw[<- r.len,List.getElem?_append_right (Nat.le_refl _)] at hai;simp at hai;exact .inr ⟨rfl,hai.symm⟩
  rcases key i _ m1 hi hai with⟨h1,h2,h3,h4⟩ | ⟨h1,h2⟩ <;> rcases key j _ m2 hj haj with⟨k1,k2,k3,k4⟩ | ⟨k1,k2⟩
  ·exact r.inj i j a _ _ h2 k2 m1 m2 h3 k3
  ·exact absurd k2 h4
  ·exact absurd h2 k4
  ·lia
theorem RepH.setO{h:AH}(r:RepH K Y h H){k:Nat}{p:Addr}{o o':O}{u u':HO}(hk:h[k]?=some o)(m:kK o=true)(m':kK o'=true)(hr:Y[k]?=some p)(hp:H p=some u)(hi':Imm u=false)(hx:RepO K Y (upd H p u') o' p) :
  RepH K Y (h.set k o') (upd H p u'):=by
 have e:Step Y H Y (upd H p u'):=Step.turn hp hi' (List.mem_of_getElem? hr);have hkl:=(List.getElem?_eq_some_iff.mp hk).1;refine⟨by simp[r.len],fun i ob hi=>?_,fun i j a o1 o2 hi hj m1 m2 hai haj=>?_⟩
 ·rw[List.getElem?_set] at hi
  by_cases hik:k=i
  ·rw[if_pos hik,if_pos (by lia)] at hi;cases hi;subst hik
   exact⟨p,hr,hx⟩
  ·rw[if_neg hik] at hi;obtain ⟨a,h1,h2⟩:=r.obj i ob hi;refine⟨a,h1,h2.mono e fun mo w hw=>?_⟩;rw[qH fun z=>hik (r.inj k i p _ _ hk hi m mo hr (by rw[<- z];exact h1))];exact hw
 ·have key:∀ (i:Nat) (z:O),kK z=true->(h.set k o')[i]?=some z->∃ z',h[i]?=some z'/\kK z'=true:=fun i z mz hi=>by
   rw[List.getElem?_set] at hi
   by_cases hik:k=i
   ·subst hik
    exact⟨_,hk,m⟩
   ·rw[if_neg hik] at hi
    exact⟨_,hi,mz⟩
  obtain ⟨_,hi',n1⟩:=key i _ m1 hi;obtain ⟨_,hj',n2⟩:=key j _ m2 hj;exact r.inj i j a _ _ hi' hj' n1 n2 hai haj
theorem RepH.newList{h:AH}(r:RepH K Y h H){p:Addr}{xs:List D}{vs:List V}(hp:H p=none)(hx:RepL K Y H xs vs) :
  RepH K (Y++[p]) (h++[.lst xs]) (upd H p (.lst vs)):=r.newO hp ⟨vs,qL,RepL.mono (Step.new1 hp) _ _ hx⟩
theorem RepH.setList{h:AH}(r:RepH K Y h H){k:Nat}{p:Addr}{xs ys:List D}{us vs:List V}(hk:h[k]?=some (.lst xs))(hr:Y[k]?=some p)(hp:H p=some (.lst us))(hx:RepL K Y H ys vs) :
  RepH K Y (h.set k (.lst ys)) (upd H p (.lst vs)):=r.setO hk rfl rfl hr hp rfl ⟨vs,qL,RepL.mono (Step.turn hp rfl (List.mem_of_getElem? hr)) _ _ hx⟩
theorem RepH.list{h:AH}(r:RepH K Y h H){i:Nat}{xs:List D}(hi:qC h i=some xs):∃ a vs,Y[i]?=some a/\SqL K H a vs/\RepL K Y H xs vs:=by
 unfold qC at hi;cases e:h[i]? with
 |none=>rw[e] at hi;cases hi
 |some o=>
  rw[e] at hi;obtain ⟨a,h1,h2⟩:=r.obj i o e;cases o with
  |lst ys=>
   cases hi;obtain ⟨vs,h3,h4⟩:=h2
   exact⟨a,vs,h1,L2.SqL.of h3,h4⟩
  |rol ys=>
   cases hi;obtain ⟨vs,h3,h4⟩:=h2;refine⟨a,vs,h1,?_,h4⟩;rcases h3 with⟨ob,h3⟩ | h3
   ·exact .inl (.inr ⟨ob,h3⟩)
   ·exact .inr h3
  |_=>cases hi
end
def RepS(K:PySem.W.Frag)(Y:List Addr)(H:Hp)(env:Env)(U:L2.St):Prop:=env.length=U.length/\∀ (i:Nat) (d:D),env[i]?=some (some d)->∃ v,U[i]?=some (some v)/\RepV K Y H d v
theorem RepS.mono{K:PySem.W.Frag}(s:RepS K Y H env U)(e:Step Y H Y' H'):RepS K Y' H' env U:=
 ⟨s.1,fun i d h=>let ⟨v,h1,h2⟩:=s.2 i d h;⟨v,h1,h2.mono e _ _⟩⟩
theorem RepS.set{K:PySem.W.Frag}(s:RepS K Y H env U)(k:Nat)(r:RepV K Y H d v):RepS K Y H (env.set k (some d)) (U.set k (some v)):=by
 refine⟨by simp[s.1],fun i d' h=>?_⟩;rw[List.getElem?_set] at h ⊢
 by_cases hk:k=i
 ·subst hk;rw[if_pos rfl] at h ⊢
  by_cases hl:k<env.length
  ·rw[if_pos hl] at h;cases h;rw[if_pos (by rw[<- s.1];exact hl)]
   exact⟨v,rfl,r⟩
  ·rw[if_neg hl] at h;cases h
 ·rw[if_neg hk] at h ⊢;exact s.2 i d' h
abbrev WX:=Nat->L2.St->Hp->Prop
abbrev W1:=Nat->Hp->Prop
abbrev WX.at(W:WX)(U:L2.St):W1:=fun c H=>W c U H
def Post{α:Type}(K:PySem.W.Frag)(w:W1)(rep:List Addr->Hp->α->Prop)(Y:List Addr)(H:Hp):R α->Prop
 | .ok a h=>∀ (Y':List Addr) (H':Hp),Step Y H Y' H'->RepH K Y' h H'->rep Y' H' a
 | .exc c h=>∀ (Y':List Addr) (H':Hp),Step Y H Y' H'->RepH K Y' h H'->w c H'
 | .bad=>False
abbrev PostV(K:PySem.W.Frag)(w:W1)(Q:VK)(Y:List Addr)(H:Hp)(r:R D):Prop:=Post K w (fun Y' H' d=>∀ v,RepV K Y' H' d v->Q v H') Y H r
theorem Post.mono{α:Type}{K:PySem.W.Frag}{rep:List Addr->Hp->α->Prop}{r:R α}(p:Post K w rep Y H r)(e:Step Y H Y1 H1):Post K w rep Y1 H1 r:=by
 cases r with
 |ok a h=>exact fun Y' H' e' rh=>p Y' H' (e.trans e') rh
 |exc _ _=>exact fun Y' H' e' rh=>p Y' H' (e.trans e') rh
 |bad=>exact p
def tD(K:PySem.W.Frag)(W:WX)(m:Env->M D):TE:=fun U H Q=>∃ Y env h,RepS K Y H env U/\RepH K Y h H/\PostV K (W.at U) Q Y H (m env h)
def tDT(K:PySem.W.Frag)(W:WX)(m:Env->M Bool):TT:=fun U H Q=>∃ Y env h,RepS K Y H env U/\RepH K Y h H/\Post K (W.at U) (fun _ H' b=>Q b H') Y H (m env h)
def tDL(K:PySem.W.Frag)(W:WX)(m:Env->M (List D)):TA:=fun U H Q=>∃ Y env h,RepS K Y H env U/\RepH K Y h H/\Post K (W.at U) (fun Y' H' ds=>∀ vs,RepL K Y' H' ds vs->Q vs H') Y H (m env h)
theorem PE.imp(h:PE X e t)(i:∀ U H Q,t' U H Q->t U H Q):PE X e t':=fun pins s U H Q I q=>h pins s U H Q I (i U H Q q)
theorem PT.imp(h:PT X e t)(i:∀ U H Q,t' U H Q->t U H Q):PT X e t':=fun pins s U H Q I q=>h pins s U H Q I (i U H Q q)
theorem PA.imp(h:PA X e t)(i:∀ U H Q,t' U H Q->t U H Q):PA X e t':=fun pos pins s U H Q I q=>h pos pins s U H Q I (i U H Q q)
theorem PS.imp(h:PS X e t)(i:∀ D U H,t' D U H->t D U H):PS X e t':=fun pins s U H D I q=>h pins s U H D I (i D U H q)
theorem PSs.imp(h:PSs X e t)(i:∀ D U H,t' D U H->t D U H):PSs X e t':=fun pins s U H D I q=>h pins s U H D I (i D U H q)
open L2 (V Hp HO VK TE TT TA TS TI Cx Inv RelV Vals SqL SqT Rd upd qL qH PE PT PA PS PSs EP OpR qN IxR MtR SlR PO TO)
theorem zX:sizeLine=16777216:=sizeLine_eq
theorem uA(a b:Tx):((⟨a.toArray⟩:Str)++(⟨b.toArray⟩:Str))=⟨(a++b).toArray⟩:=by
 show Str.append _ _=_;unfold Str.append;simp
theorem zY(a:Tx):(⟨a.toArray⟩:Str).length=a.length:=by
 unfold Str.length;simp
section
variable {X:Cx}{K:PySem.W.Frag}{Y:List Addr}{H:Hp}{Q:VK}{h:AH}{w:W1}
theorem PostV.ite[Decidable c](p:PostV K w Q Y H (if c then r else .bad)):c/\PostV K w Q Y H r:=by
 by_cases hc:c
 ·rw[if_pos hc] at p
  exact⟨hc,p⟩
 ·rw[if_neg hc] at p;cases p
theorem PostV.now(p:PostV K w Q Y H (.ok d h))(r:RepH K Y h H)(hv:RepV K Y H d v):Q v H:=p Y H (Step.refl Y H) r v hv
theorem PostV.newL(p:PostV K w Q Y H (newL xs h))(r:RepH K Y h H)(hv:RepL K Y H xs vs):vs.length<=sizeLine/\∀ l,H l=none->Q (.ref l) (upd H l (.lst vs)):=by
 obtain ⟨hc,p⟩:=PostV.ite (c:=xs.length<=16777216) p;refine⟨by rw[hv.length,zX];exact hc,fun l hl=>?_⟩;refine p (Y++[l]) _ (Step.new1 hl) (r.newList hl hv) _ ⟨l,?_,rfl⟩;rw[<- r.len,List.getElem?_append_right (Nat.le_refl _)];simp
theorem PostV.newT(p:PostV K w Q Y H (.ok (.tup xs) h))(r:RepH K Y h H)(hv:RepL K Y H xs vs):∀ l,H l=none->Q (.ref l) (upd H l (.tup vs)):=fun l hl=>by
 have e:Step Y H Y (upd H l (.tup vs)):=Step.fresh hl;exact p Y _ e (r.fresh hl) _ ⟨l,vs,rfl,L2.SqT.of qL,hv.mono e _ _⟩
def rB(K:PySem.W.Frag)(o:Bi):L2.R2:=fun x y H Q=>∃ (w:W1),∃ Y h d e,RepH K Y h H/\RepV K Y H d x/\RepV K Y H e y/\PostV K w Q Y H (biD o d e h)
theorem qJM:OpR X (binaryOp .Sub) (rB X.K .sub):=by
 rintro pins s U H x y v u Q I rx ry ⟨w,Y,h,d,e,r,hd,he,p⟩
 cases d with
 |int i=>
  cases e with
  |int j=>cases hd;cases he;exact L2.op_sub pins s U H _ _ v u Q I rx ry ⟨i,j,rfl,rfl,p.now r rfl⟩
  |_=>cases p
 |_=>cases p
theorem qJP:OpR X (binaryOp .Mult) (rB X.K .mul):=by
 rintro pins s U H x y v u Q I rx ry ⟨w,Y,h,d,e,r,hd,he,p⟩
 cases d with
 |int i=>
  cases e with
  |int j=>cases hd;cases he;obtain ⟨hc,p⟩:=PostV.ite (c:=vR i j) p;exact L2.op_mul pins s U H _ _ v u Q I rx ry ⟨i,j,rfl,rfl,hc,p.now r rfl⟩
  |_=>cases p
 |_=>cases p
theorem qJW:OpR X (binaryOp .FloorDiv) (rB X.K .fdiv):=by
 rintro pins s U H x y v u Q I rx ry ⟨w,Y,h,d,e,r,hd,he,p⟩
 cases d with
 |int i=>
  cases e with
  |int j=>cases hd;cases he;obtain ⟨hc,p⟩:=PostV.ite (c:=0<j/\j<1073741824) p;exact L2.op_fdiv pins s U H _ _ v u Q I rx ry ⟨i,j,rfl,rfl,hc,p.now r rfl⟩
  |_=>cases p
 |_=>cases p
theorem qJQ:OpR X (binaryOp .Mod) (rB X.K .mod):=by
 rintro pins s U H x y v u Q I rx ry ⟨w,Y,h,d,e,r,hd,he,p⟩
 cases d with
 |int i=>
  cases e with
  |int j=>cases hd;cases he;obtain ⟨hc,p⟩:=PostV.ite (c:=0<j) p;exact L2.op_mod pins s U H _ _ v u Q I rx ry ⟨i,j,rfl,rfl,hc,p.now r rfl⟩
  |_=>cases p
 |_=>cases p
theorem qJR:OpR X (compareOp .Lt) (rB X.K .lt):=by
 rintro pins s U H x y v u Q I rx ry ⟨w,Y,h,d,e,r,hd,he,p⟩
 cases d with
 |int i=>
  cases e with
  |int j=>cases hd;cases he;exact L2.op_lt pins s U H _ _ v u Q I rx ry ⟨i,j,rfl,rfl,p.now r rfl⟩
  |_=>cases p
 |_=>cases p
theorem qJS:OpR X (compareOp .LtE) (rB X.K .le):=by
 rintro pins s U H x y v u Q I rx ry ⟨w,Y,h,d,e,r,hd,he,p⟩
 cases d with
 |int i=>
  cases e with
  |int j=>cases hd;cases he;exact L2.op_le pins s U H _ _ v u Q I rx ry ⟨i,j,rfl,rfl,p.now r rfl⟩
  |_=>cases p
 |_=>cases p
theorem qJU:OpR X (compareOp .Gt) (rB X.K .gt):=by
 rintro pins s U H x y v u Q I rx ry ⟨w,Y,h,d,e,r,hd,he,p⟩
 cases d with
 |int i=>
  cases e with
  |int j=>cases hd;cases he;exact L2.op_gt pins s U H _ _ v u Q I rx ry ⟨i,j,rfl,rfl,p.now r rfl⟩
  |_=>cases p
 |_=>cases p
theorem qJV:OpR X (compareOp .GtE) (rB X.K .ge):=by
 rintro pins s U H x y v u Q I rx ry ⟨w,Y,h,d,e,r,hd,he,p⟩
 cases d with
 |int i=>
  cases e with
  |int j=>cases hd;cases he;exact L2.op_ge pins s U H _ _ v u Q I rx ry ⟨i,j,rfl,rfl,p.now r rfl⟩
  |_=>cases p
 |_=>cases p
theorem RepH.own(r:RepH K Y h H)(e:h[i]?=some (.lst xs))(hv:RepV K Y H (.ref i) v):∃ a vs,v=.ref a/\Y[i]?=some a/\H a=some (.lst vs)/\RepL K Y H xs vs:=by
 obtain ⟨a,h1,h2⟩:=hv;obtain ⟨b,h3,vs,h4,h5⟩:=r.obj i _ e;rw[h1] at h3;cases h3
 exact⟨a,vs,h2,h1,h4,h5⟩
theorem RepH.seen(r:RepH K Y h H)(e:qC h i=some xs)(hv:RepV K Y H (.ref i) v):∃ a vs,v=.ref a/\SqL K H a vs/\RepL K Y H xs vs:=by
 obtain ⟨a,h1,h2⟩:=hv;obtain ⟨b,vs,h3,h4,h5⟩:=r.list e;rw[h1] at h3;cases h3
 exact⟨a,vs,h2,h4,h5⟩
theorem qJY:OpR X (binaryOp .Add) (rB X.K .add):=by
 rintro pins s U H x y v u Q I rx ry ⟨w,Y,h,d,e,r,hd,he,p⟩
 cases d with
 |int i=>
  cases e with
  |int j=>cases hd;cases he;exact L2.op_add pins s U H _ _ v u Q I rx ry ⟨i,j,rfl,rfl,p.now r rfl⟩
  |_=>cases p
 |str a=>
  cases e with
  |str b=>cases hd;cases he;obtain ⟨hc,p⟩:=PostV.ite (c:=a.length+b.length<=16777216) p;exact L2.op_add_str pins s U H _ _ v u Q I rx ry ⟨_,_,rfl,rfl,by rw[zY,zY,zX];exact hc,by rw[uA];exact p.now r rfl⟩
  |_=>cases p
 |tup a=>
  cases e with
  |tup b=>
   obtain ⟨pa,va,rfl,ta,la⟩:=hd;obtain ⟨pb,vb,rfl,tb,lb⟩:=he;obtain ⟨hz,p⟩:=PostV.ite (c:=a.length+b.length<=16777216) p
   by_cases hc:a=[]
   ·subst hc;have ev:va=[]:=List.eq_nil_of_length_eq_zero la.length;subst ev;cases rx;cases ry;obtain ⟨its,r1,p1,_⟩:=I.tuple ta;obtain ⟨its2,r2,p2,_⟩:=I.tuple tb;have ei:its=[]:=r1.nil_iff.mpr rfl;subst ei;obtain ⟨⟨cls,dd,data,sl⟩,ho,hc,n,hd⟩:=id p1;obtain ⟨⟨cls2,dd2,data2,sl2⟩,ho2,hc2,n2,hd2⟩:=id p2;simp only at hc hd hc2 hd2;subst hc hd hc2 hd2
    exact concat_meets ⟨_,ho,rfl⟩ ⟨_,ho2,rfl⟩ noFill_tuple_add seq_tuple_add PySem.F.slot_tuple_add PySem.F.entry_tuple_add (PySem.F.args_tuple_add_2 _ _)
     (tuple_addW0 pa pb _ _ n n2 dd dd2 sl sl2 rfl) ⟨ho,ho2,⟨.ref pb,H,I,rfl,p.now r ⟨pb,vb,rfl,tb,lb⟩⟩⟩
   refine L2.op_catT pins s U H _ _ v u Q I rx ry ⟨pa,pb,va,vb,rfl,rfl,ta,tb,fun z=>hc ?_,by rw[la.length,lb.length,zX];exact hz,fun z=>?_,fun _=>p.newT r (la.append lb)⟩
   ·have:=la.length
    rw[z] at this;exact List.eq_nil_of_length_eq_zero this.symm
   ·subst z;have e:b=[]:=List.eq_nil_of_length_eq_zero lb.length.symm;subst e;rw[List.append_nil] at p;exact p.now r ⟨pa,va,rfl,ta,la⟩
  |_=>cases p
 |ref i=>
  cases e with
  |ref j=>
   have p:PostV X.K w Q Y H (match h[i]?,h[j]? with | some (.lst xs),some (.lst ys)=>newL (xs++ys) h | _,_=>.bad):=p;split at p
   ·rename_i xs ys e1 e2;obtain ⟨a,va,rfl,_,ha,la⟩:=r.own e1 hd;obtain ⟨b,vb,rfl,_,hb,lb⟩:=r.own e2 he;obtain ⟨hz,q⟩:=p.newL r (la.append lb);exact L2.op_cat pins s U H _ _ v u Q I rx ry ⟨a,b,va,vb,rfl,rfl,ha,hb,by rw[<- List.length_append];exact hz,q⟩
   ·cases p
  |_=>cases p
 |_=>cases p
end
theorem Post.bind{α β:Type}{K:PySem.W.Frag}{rep:List Addr->Hp->β->Prop}{rep':List Addr->Hp->α->Prop}{m:M α}{f:α->M β}(p:Post K w rep Y H (M.bind m f h))
  (k:∀ Y' h' a H',Step Y H Y' H'->RepH K Y' h' H'->Post K w rep Y' H' (f a h')->rep' Y' H' a):Post K w rep' Y H (m h):=by
 unfold M.bind at p;cases e:m h with
 |ok a h1=>rw[e] at p;exact fun Y1 H1 e1 r1=>k Y1 h1 a H1 e1 r1 (Post.mono p e1)
 |exc c h1=>rw[e] at p;exact p
 |bad=>rw[e] at p;exact p
theorem Post.when{α:Type}{K:PySem.W.Frag}{rep:List Addr->Hp->α->Prop}[Decidable c]{m:M α}(p:Post K w rep Y H (M.when c m h)):c/\Post K w rep Y H (m h):=by
 unfold M.when at p
 by_cases hc:c
 ·rw[if_pos hc] at p
  exact⟨hc,p⟩
 ·rw[if_neg hc] at p;cases p
theorem Post.imp{α:Type}{K:PySem.W.Frag}{rep rep':List Addr->Hp->α->Prop}{r:R α}(p:Post K w rep Y H r)(k:∀ Y' H' a,rep Y' H' a->rep' Y' H' a):Post K w rep' Y H r:=by
 cases r with
 |ok a h=>exact fun Y' H' e rh=>k Y' H' a (p Y' H' e rh)
 |exc _ _=>exact p
 |bad=>exact p
theorem Post.ret{α:Type}{K:PySem.W.Frag}{rep:List Addr->Hp->α->Prop}{a:α}(p:Post K w rep Y H (M.ret a h))(r:RepH K Y h H):rep Y H a:=p Y H (Step.refl Y H) r
section
variable {X:Cx}{F:Nat->List D->M D}{W:WX}{w:W1}
theorem two(t:tD X.K W (den F (.bi o ca cb)) U H Q):L2.tOp (rB X.K o) (tD X.K W (den F ca)) (tD X.K W (den F cb)) U H Q:=by
 obtain ⟨Y,env,h,s,r,p⟩:=t;dsimp only[den] at p
 exact⟨Y,env,h,s,r,Post.bind p fun Y1 h1 d H1 e1 r1 q v hv=>⟨Y1,env,h1,s.mono e1,r1,Post.bind q fun Y2 h2 d2 H2 e2 r2 q2 w hw=>⟨_,Y2,h2,d,d2,r2,hv.mono e2 _ _,hw,q2⟩⟩⟩
def rU(K:PySem.W.Frag)(o:Un):V->Hp->VK->Prop:=fun x H Q=>∃ (w:W1),∃ Y h d,RepH K Y h H/\RepV K Y H d x/\PostV K w Q Y H (unD o d h)
def rC(K:PySem.W.Frag)(o:Un):List V->Hp->VK->Prop:=fun xs H Q=>∃ x,xs=[x]/\rU K o x H Q
def rC2(K:PySem.W.Frag)(o:Bi):List V->Hp->VK->Prop:=fun xs H Q=>∃ x y,xs=[x,y]/\rB K o x y H Q
theorem one(t:tD X.K W (den F (.un o ca)) U H Q):tD X.K W (den F ca) U H fun x H1=>rU X.K o x H1 Q:=by
 obtain ⟨Y,env,h,s,r,p⟩:=t;dsimp only[den] at p
 exact⟨Y,env,h,s,r,Post.bind p fun Y1 h1 d H1 e1 r1 q v hv=>⟨_,Y1,h1,d,r1,hv,q⟩⟩
theorem aV(he:PE X e (L2.tC v))(hv:∀ Y H,RepV X.K Y H d v):PE X e (tD X.K W (den F (.lit d))):=PE.imp he fun U H Q t=>by
 obtain ⟨Y,env,h,s,r,p⟩:=t;dsimp only[den] at p;exact Post.ret p r v (hv Y H)
theorem qPj(he:PE X e (L2.tVar i)):PE X e (tD X.K W (den F (.var i))):=PE.imp he fun U H Q t=>by
 obtain ⟨Y,env,h,s,r,p⟩:=t;dsimp only[den] at p;cases q:env[i]? with
 |none=>rw[q] at p;cases p
 |some o=>
  cases o with
  |none=>rw[q] at p;cases p
  |some d=>
   rw[q] at p;obtain ⟨v,h1,h2⟩:=s.2 i d q
   exact⟨v,h1,p Y H (Step.refl Y H) r v h2⟩
theorem qPg{es:List Expr}:PA X [] (tDL X.K W (zB F .nil)):=PA.imp L2.pa_nil fun U H Q t=>by
 obtain ⟨Y,env,h,s,r,p⟩:=t;dsimp only[zB] at p;exact Post.ret p r [] rfl
theorem qPh(he:PE X e (tD X.K W (den F c)))(hr:PA X es (tDL X.K W (zB F cl)))(hs:starEach (e::es) X.env=(false,eval e X.env)::starEach es X.env) :
  PA X (e::es) (tDL X.K W (zB F (.cons c cl))):=PA.imp (L2.pa_cons he hr hs) fun U H Q t=>by
 obtain ⟨Y,env,h,s,r,p⟩:=t;dsimp only[zB] at p;refine⟨Y,env,h,s,r,Post.bind p fun Y1 h1 d H1 e1 r1 q v hv=>⟨Y1,env,h1,s.mono e1,r1,Post.bind q fun Y2 h2 ds H2 e2 r2 q2 vs hvs=>?_⟩⟩;exact Post.ret q2 r2 (v::vs) ⟨v,vs,rfl,hv.mono e2 _ _,hvs⟩
theorem qQC(ha:PE X a (tD X.K W (den F ca)))(hb:PE X (.BoolOp .And (b::rest) pos) (tD X.K W (den F cb))) :
  PE X (.BoolOp .And (a::b::rest) pos) (tD X.K W (den F (.and ca cb))):=PE.imp (L2.pe_and ha hb) fun U H Q t=>by
 obtain ⟨Y,env,h,s,r,p⟩:=t;dsimp only[den] at p;refine⟨Y,env,h,s,r,Post.bind p fun Y1 h1 d H1 e1 r1 q v hv=>?_⟩;cases d with
 |bl c=>
  cases hv;cases c with
  |true=>exact⟨true,rfl,⟨Y1,env,h1,s.mono e1,r1,q⟩⟩
  |false=>exact⟨false,rfl,Post.ret q r1 _ rfl⟩
 |_=>cases q
theorem qPo(ha:PE X a (tD X.K W (den F ca)))(hb:PE X (.BoolOp .Or (b::rest) pos) (tD X.K W (den F cb))) :
  PE X (.BoolOp .Or (a::b::rest) pos) (tD X.K W (den F (.or ca cb))):=PE.imp (L2.pe_or ha hb) fun U H Q t=>by
 obtain ⟨Y,env,h,s,r,p⟩:=t;dsimp only[den] at p;refine⟨Y,env,h,s,r,Post.bind p fun Y1 h1 d H1 e1 r1 q v hv=>?_⟩;cases d with
 |bl c=>
  cases hv;cases c with
  |true=>exact⟨true,rfl,Post.ret q r1 _ rfl⟩
  |false=>exact⟨false,rfl,⟨Y1,env,h1,s.mono e1,r1,q⟩⟩
 |_=>cases q
theorem TruV.of(r:RepH X.K Y h H)(hv:RepV X.K Y H d v)(p:Post X.K w rep Y H (yV d h)):∃ k,L2.TruV X.K v H k/\rep Y H k:=by
 cases d with
 |non=>cases hv;exact⟨false,rfl,Post.ret (a:=false) p r⟩
 |bl b=>cases hv;exact⟨b,rfl,Post.ret (a:=b) p r⟩
 |int i=>cases hv;exact⟨i != 0,rfl,Post.ret (a:=i != 0) p r⟩
 |str x=>
  cases hv;have p:Post X.K w rep Y H (if x.length<=16777216 then .ok (!x.isEmpty) h else .bad):=p
  by_cases hc:x.length<=16777216
  ·rw[if_pos hc] at p;refine⟨!x.isEmpty,⟨by rw[zY,zX];exact hc,?_⟩,Post.ret (a:=!x.isEmpty) p r⟩;rw[zY];cases x with
   |nil=>rfl
   |cons c x=>simp;lia
  ·rw[if_neg hc] at p;cases p
 |tup xs=>
  obtain ⟨a,vs,rfl,h1,h2⟩:=hv;refine⟨!xs.isEmpty,.inr (.inl ⟨vs,h1,?_⟩),Post.ret (a:=!xs.isEmpty) p r⟩
  have:=h2.length
  cases xs <;> cases vs <;> simp_all
 |ref i=>
  have p:Post X.K w rep Y H (match qC h i with | some xs=>.ok (!xs.isEmpty) h | none=>.bad):=p;cases e:qC h i with
  |none=>rw[e] at p;cases p
  |some xs=>
   rw[e] at p;obtain ⟨a,vs,rfl,h1,h2⟩:=r.seen e hv;refine⟨!xs.isEmpty,.inl ⟨vs,h1,?_⟩,Post.ret (a:=!xs.isEmpty) p r⟩
   have:=h2.length
   cases xs <;> cases vs <;> simp_all
theorem qPF(he:PE X e (tD X.K W (den F c)))(hi:∀ whole,isTrue e X.env whole=(do let v <- whole;standAt e.pos;holding [v] (truthy v))) :
  PT X e (tDT X.K W (qM F (.val c))):=PT.imp (L2.pt_truth he hi) fun U H Q t=>by
 obtain ⟨Y,env,h,s,r,p⟩:=t;dsimp only[qM] at p
 exact⟨Y,env,h,s,r,Post.bind p fun Y1 h1 d H1 e1 r1 q v hv=>TruV.of r1 hv q⟩
def uR:Bi->Bool
 | .eq | .ne | .lt | .le | .gt | .ge | .isin | .notin=>true
 |_=>false
theorem qOX(q:vW k y h=.ok r h'):∃ b,r=.bl b:=by
 unfold vW at q;split at q
 ·cases q;exact⟨_,rfl⟩
 ·cases q
theorem qOW(q:kT k y h=.ok r h'):∃ b,r=.bl b:=by
 unfold kT at q;split at q
 ·cases q;exact⟨_,rfl⟩
 ·cases q
theorem qE1(hc:uR o=true)(q:biD o d e h=.ok r h'):∃ k,r=.bl k:=by
  cases o with
  |eq=>
    have q:(match kW h d e with | some b=>R.ok (D.bl b) h | none=>.bad)=.ok r h':=q;split at q <;> cases q
    exact⟨_,rfl⟩
  |ne=>
    have q:(match kW h d e with | some b=>R.ok (D.bl (!b)) h | none=>.bad)=.ok r h':=q;split at q <;> cases q
    exact⟨_,rfl⟩
  |lt=>cases d <;> first | cases q | (cases e <;> first | (cases q;exact⟨_,rfl⟩) | cases q)
  |le=>cases d <;> first | cases q | (cases e <;> first | (cases q;exact⟨_,rfl⟩) | cases q)
  |gt=>cases d <;> first | cases q | (cases e <;> first | (cases q;exact⟨_,rfl⟩) | cases q)
  |ge=>cases d <;> first | cases q | (cases e <;> first | (cases q;exact⟨_,rfl⟩) | cases q)
  |isin=>
    cases d <;> first | cases q | cases e <;> first
      | (rename_i x y
         have q:(match eA x y with | some b=>R.ok (D.bl b) h | none=>.bad)=.ok r h':=q;split at q <;> cases q
         exact⟨_,rfl⟩)
      | (rename_i x y
         have q:(match (qC h y).bind jC with | some xs=>R.ok (D.bl (xs.contains x)) h | none=>vW y (.int x) h)=.ok r h':=q;split at q
         . cases q;exact⟨_,rfl⟩
         . exact qOX q)
      |cases q
  |notin=>
    cases d <;> first | cases q | cases e <;> first
      | (rename_i x y
         have q:(match eA x y with | some b=>R.ok (D.bl (!b)) h | none=>.bad)=.ok r h':=q;split at q <;> cases q
         exact⟨_,rfl⟩)
      | (rename_i x y
         have q:(match (qC h y).bind jC with | some xs=>R.ok (D.bl (!xs.contains x)) h | none=>kT y (.int x) h)=.ok r h':=q;split at q
         . cases q;exact⟨_,rfl⟩
         . exact qOW q)
      |cases q
  |_=>cases hc
theorem Post.cmp{K:PySem.W.Frag}{Q:Bool->Hp->Prop}(hc:uR o=true)(p:Post K w (fun _ H' b=>Q b H') Y H (M.bind (biD o d e) yV h)) :
  PostV K w (fun x H'=>∃ k,x=.bl k/\Q k H') Y H (biD o d e h):=by
 unfold M.bind at p;cases q:biD o d e h with
 |ok r h'=>rw[q] at p;obtain ⟨k,rfl⟩:=qE1 hc q;exact fun Y' H' e' r' v hv=>⟨k,hv,p Y' H' e' r'⟩
 |exc c h'=>rw[q] at p;exact p
 |bad=>rw[q] at p;exact p
theorem qP8(ho:OpR X (compareOp op) (rB X.K o))(ha:PE X a (tD X.K W (den F ca)))(hb:PE X b (tD X.K W (den F cb)))(hm:behindInMarks op b=false) :
  PE X (.Compare a [op] [b] pos) (tD X.K W (den F (.bi o ca cb))):=PE.imp (L2.pe_cmpR ho ha hb hm) fun _ _ _ t=>two t
theorem kG{α β γ:Type}(m:M α)(f:α->M β)(g:β->M γ):M.bind (M.bind m f) g=M.bind m fun x=>M.bind (f x) g:=by
 funext h;unfold M.bind;cases m h <;> rfl
theorem qPJ(hc:uR o=true)(ho:OpR X (compareOp op) (rB X.K o))(ha:PE X a (tD X.K W (den F ca)))(hb:PE X b (tD X.K W (den F cb)))(hm:behindInMarks op b=false) :
  PT X (.Compare a [op] [b] pos) (tDT X.K W (qM F (.val (.bi o ca cb)))):=PT.imp (L2.pt_cmpR ho ha hb hm) fun U H Q t=>by
 obtain ⟨Y,env,h,s,r,p⟩:=t;dsimp only[qM,den] at p;rw[kG] at p;refine⟨Y,env,h,s,r,Post.bind p fun Y1 h1 d H1 e1 r1 q v hv=>⟨Y1,env,h1,s.mono e1,r1,?_⟩⟩;have q:Post X.K (W.at U) (fun _ H' b=>Q b H') Y1 H1 (M.bind (M.bind (den F cb env) fun y=>biD o d y) yV h1):=q;rw[kG] at q;exact Post.bind q fun Y2 h2 d2 H2 e2 r2 q2 w hw=>⟨_,Y2,h2,d,d2,r2,hv.mono e2 _ _,hw,Post.cmp hc q2⟩
theorem qE9(t:tD X.K W (den F (.chain o o' ca cb cc)) U H Q):L2.tChain (rB X.K o) (rB X.K o') (tD X.K W (den F ca)) (tD X.K W (den F cb)) (tD X.K W (den F cc)) U H Q:=by
 obtain ⟨Y,env,h,s,r,p⟩:=t;dsimp only[den] at p;refine⟨Y,env,h,s,r,Post.bind p fun Y1 h1 d H1 e1 r1 q v hv=>⟨Y1,env,h1,s.mono e1,r1,Post.bind q fun Y2 h2 d2 H2 e2 r2 q2 w hw=>⟨_,Y2,h2,d,d2,r2,hv.mono e2 _ _,hw,Post.bind q2 fun Y3 h3 z H3 e3 r3 q3 zv hz=>?_⟩⟩⟩;cases z with
 |bl k=>
  cases hz;cases k with
  |true=>exact⟨true,rfl,L2.iteT ⟨Y3,env,h3,((s.mono e1).mono e2).mono e3,r3,Post.bind q3 fun Y4 h4 d4 H4 e4 r4 q4 x hx=>⟨_,Y4,h4,d2,d4,r4,(hw.mono e3 _ _).mono e4 _ _,hx,q4⟩⟩⟩
  |false=>exact⟨false,rfl,L2.iteF (Post.ret q3 r3 _ rfl)⟩
 |_=>cases q3
theorem qP9(ho:OpR X (compareOp op) (rB X.K o))(ho':OpR X (compareOp op') (rB X.K o'))(ha:PE X a (tD X.K W (den F ca)))(hb:PE X b (tD X.K W (den F cb)))(hc:PE X c (tD X.K W (den F cc)))
  (hm:lastMarks [op,op'] [b,c]=false):PE X (.Compare a [op,op'] [b,c] pos) (tD X.K W (den F (.chain o o' ca cb cc))):=PE.imp (L2.pe_chain ho ho' ha hb hc hm) fun U H Q t=>qE9 t
theorem iI(hb:∀ env h d h',den F ce env h=.ok d h'->∃ k,d=.bl k)(t:tDT X.K W (qM F (.val ce)) U H Q):tD X.K W (den F ce) U H (fun x H'=>∃ k,x=.bl k/\Q k H'):=by
 obtain ⟨Y,env,h,s,r,p⟩:=t;dsimp only[qM] at p;refine⟨Y,env,h,s,r,?_⟩;unfold M.bind at p;cases q:den F ce env h with
 |ok d h'=>rw[q] at p;obtain ⟨k,rfl⟩:=hb _ _ _ _ q;exact fun Y' H' e' r' v hv=>⟨k,hv,p Y' H' e' r'⟩
 |exc c h'=>rw[q] at p;exact p
 |bad=>rw[q] at p;exact p
theorem bind_ok{α β:Type}{m:M α}{f:α->M β}{b:β}(e:M.bind m f h=.ok b h'):∃ a h1,m h=.ok a h1/\f a h1=.ok b h':=by
 unfold M.bind at e;cases q:m h with
 |ok a h1=>rw[q] at e;exact⟨a,h1,rfl,e⟩
 |exc _ _=>rw[q] at e;cases e
 |bad=>rw[q] at e;cases e
theorem qQT(h2:uR o'=true)(env:Env)(h:AH)(d:D)(h':AH)(e:den F (.chain o o' ca cb cc) env h=.ok d h'):∃ k,d=.bl k:=by
 dsimp only[den] at e;obtain ⟨x,g1,_,e⟩:=bind_ok e;obtain ⟨y,g2,_,e⟩:=bind_ok e;obtain ⟨z,g3,_,e⟩:=bind_ok e;cases z with
 |bl k=>
  cases k with
  |true=>obtain ⟨w,g4,_,e⟩:=bind_ok e;exact qE1 h2 e
  |false=>cases e;exact⟨_,rfl⟩
 |_=>cases e
theorem qPK(h2:uR o'=true)(ho:OpR X (compareOp op) (rB X.K o))(ho':OpR X (compareOp op') (rB X.K o'))(ha:PE X a (tD X.K W (den F ca)))(hb:PE X b (tD X.K W (den F cb)))(hc:PE X c (tD X.K W (den F cc)))
  (hm:lastMarks [op,op'] [b,c]=false):PT X (.Compare a [op,op'] [b,c] pos) (tDT X.K W (qM F (.val (.chain o o' ca cb cc)))):=PT.imp (L2.pt_chain ho ho' ha hb hc hm) fun U H Q t=>qE9 (iI (qQT h2) t)
theorem qPq(ha:PE X a (tD X.K W (den F ca))):PE X (.UnaryOp .Not a pos) (tD X.K W (den F (.not ca))):=by
 intro pins s U H Q I t;refine UnaryOp_ (L2.thn (ha pins s U H (fun x H1=>∃ k,L2.TruV X.K x H1 k/\Q (.bl (!k)) H1) I ?_) fun v s1 ⟨x,H1,I1,r1,k,hk,q1⟩=>?_)
 ·obtain ⟨Y,env,h,s',r,p⟩:=t;dsimp only[den] at p;refine⟨Y,env,h,s',r,Post.bind (rep':=fun Y' H' d=>∀ v,RepV X.K Y' H' d v->∃ k,L2.TruV X.K v H' k/\Q (.bl (!k)) H') (by rw[kG] at p;exact p) fun Y1 h1 d H1 e1 r1 q v hv=>?_⟩;exact TruV.of (rep:=fun Y' H' k=>Q (.bl (!k)) H') r1 hv (Post.bind q fun Y2 h2 k H2 e2 r2 q2=>Post.ret q2 r2 _ rfl)
 ·exact not_of (L2.thn (L2.tru_ok pins s1 U H1 x v (fun k H'=>Q (.bl (!k)) H') I1 r1 ⟨k,hk,q1⟩) fun c s2 ⟨H2,I2,q2⟩=>⟨.bl (!c),H2,I2,rfl,q2⟩)
theorem qP0(hc:PT X c (tDT X.K W (qM F cc)))(ha:PE X a (tD X.K W (den F ca)))(hb:PE X b (tD X.K W (den F cb))):PE X (.IfExp c a b pos) (tD X.K W (den F (.ite cc ca cb))):=PE.imp (L2.pe_ifExp hc ha hb) fun U H Q t=>by
 obtain ⟨Y,env,h,s,r,p⟩:=t;dsimp only[den] at p;refine⟨Y,env,h,s,r,Post.bind p fun Y1 h1 k H1 e1 r1 q=>?_⟩;cases k with
 |true=>exact L2.iteT ⟨Y1,env,h1,s.mono e1,r1,q⟩
 |false=>exact L2.iteF ⟨Y1,env,h1,s.mono e1,r1,q⟩
theorem qPk(h:PA X es (tDL X.K W (zB F cl))):PE X (.Tuple es k pos) (tD X.K W (den F (.tup cl))):=PE.imp (L2.pe_tup h) fun U H Q t=>by
 obtain ⟨Y,env,h,s,r,p⟩:=t;dsimp only[den] at p;refine⟨Y,env,h,s,r,Post.bind p fun Y1 h1 ds H1 e1 r1 q vs hvs=>?_⟩;obtain ⟨hc,q⟩:=Post.when q
 exact⟨by rw[hvs.length,zX];exact hc,PostV.newT q r1 hvs⟩
theorem qPx(h:PA X es (tDL X.K W (zB F cl))):PE X (.List es pos) (tD X.K W (den F (.lst cl))):=PE.imp (L2.pe_lst h) fun U H Q t=>by
 obtain ⟨Y,env,h,s,r,p⟩:=t;dsimp only[den] at p
 exact⟨Y,env,h,s,r,Post.bind p fun Y1 h1 ds H1 e1 r1 q vs hvs=>PostV.newL q r1 hvs⟩
def spD(K:PySem.W.Frag)(m:List D->M D):L2.Sp:=fun vs H Q E=>∃ Y h ds,RepH K Y h H/\RepL K Y H ds vs/\PostV K (fun c H'=>∀ e,E e (some c) H') Q Y H (m ds h)
theorem eO{a:Expr}{ca:CE}{o:Un}{e:Expr}{r:List V->Hp->VK->Prop}(he:PE X e (L2.tCB r (L2.tCons (tD X.K W (den F ca)) L2.tNil)))(hr:∀ x H Q,rU X.K o x H Q->r [x] H Q):PE X e (tD X.K W (den F (.un o ca))):=PE.imp he fun U H Q t=>by
 obtain ⟨Y,env,h,s,r',p⟩:=one t
 exact⟨Y,env,h,s,r',Post.imp p fun Y' H' d q v hv=>hr v H' Q (q v hv)⟩
theorem qQA(he:PE X e (L2.tCB r (L2.tCons (tD X.K W (den F ca)) (L2.tCons (tD X.K W (den F cb)) L2.tNil))))(hr:∀ x y H Q,rB X.K o x y H Q->r [x,y] H Q):PE X e (tD X.K W (den F (.bi o ca cb))):=PE.imp he fun U H Q t=>by
 obtain ⟨Y,env,h,s,r',p⟩:=two t;refine⟨Y,env,h,s,r',Post.imp p fun Y' H' d q v hv=>?_⟩;obtain ⟨Y1,env1,h1,s1,r1,p1⟩:=q v hv
 exact⟨Y1,env1,h1,s1,r1,Post.imp p1 fun Y2 H2 d2 q2 w hw=>hr v w H2 Q (q2 w hw)⟩
end
theorem kyV_inj:kyV a=kyV b↔a=b:=by
 constructor
 ·intro h;cases a with
  |int i=>cases b with
   |int j=>cases h;rfl
   |str y=>cases h
  |str x=>cases b with
   |int j=>cases h
   |str y=>
    have h:(Sum.inr (⟨x.toArray⟩:Str):L2.Key)=Sum.inr ⟨y.toArray⟩:=h;have h2:=congrArg Str.cps (Sum.inr.inj h);have h3:x=y:=by simpa using congrArg Array.toList h2
    rw[h3]
 ·rintro rfl;rfl
section
variable {K:PySem.W.Frag}{Y:List Addr}{H:Hp}
theorem RepK.val(k:Ky):∀ {kvs:List (Ky × D)} {vs:List (L2.Key × V)},RepK K Y H kvs vs->(∃ d v,zD kvs k=some d/\L2.valV vs (kyV k)=some v/\RepV K Y H d v)\/(zD kvs k=none/\L2.valV vs (kyV k)=none)
 | [],_,h=>by cases h;exact .inr ⟨rfl,rfl⟩
 |x::kvs,_,⟨v,r,rfl,h1,h2⟩=>by
  by_cases e:x.1=k
  ·refine .inl ⟨x.2,v,?_,L2.valV_pos (kyV_inj.mpr e),h1⟩;unfold zD;rw[List.find?_cons_of_pos (by simpa using e)];rfl
  ·have e2:zD (x::kvs) k=zD kvs k:=by unfold zD;rw[List.find?_cons_of_neg (by simpa using e)]
   rw[e2,L2.valV_neg (fun z=>e (kyV_inj.mp z))];exact RepK.val k h2
theorem RepK.any(k:Ky):∀ {kvs:List (Ky × D)} {vs:List (L2.Key × V)},RepK K Y H kvs vs->(kvs.any fun kv=>decide (kv.1=k))=(vs.any fun kv=>decide (kv.1=kyV k))
 | [],_,h=>by cases h;rfl
 |x::kvs,_,⟨v,r,rfl,h1,h2⟩=>by
  rw[List.any_cons,List.any_cons,RepK.any k h2];congr 1;exact decide_eq_decide.mpr kyV_inj.symm
theorem RepK.length:∀ {kvs:List (Ky × D)} {vs:List (L2.Key × V)},RepK K Y H kvs vs->kvs.length=vs.length
 | [],_,h=>by cases h;rfl
 |x::kvs,_,⟨v,r,rfl,h1,h2⟩=>by rw[List.length_cons,List.length_cons,RepK.length h2]
theorem RepK.repl(k:Ky)(hv:RepV K Y H d v):∀ {kvs:List (Ky × D)} {vs:List (L2.Key × V)},RepK K Y H kvs vs->RepK K Y H (kvs.map fun kv=>if kv.1=k then (kv.1,d) else kv) (vs.map fun kv=>if kv.1=kyV k then (kv.1,v) else kv)
 | [],_,h=>by cases h;rfl
 |x::kvs,_,⟨u,r,rfl,h1,h2⟩=>by
  rw[List.map_cons,List.map_cons]
  by_cases e:x.1=k
  ·rw[if_pos e,if_pos (kyV_inj.mpr e)]
   exact⟨v,_,rfl,hv,RepK.repl k hv h2⟩
  ·rw[if_neg e,if_neg (fun z=>e (kyV_inj.mp z))]
   exact⟨u,_,rfl,h1,RepK.repl k hv h2⟩
theorem RepK.snoc(k:Ky)(hv:RepV K Y H d v):∀ {kvs:List (Ky × D)} {vs:List (L2.Key × V)},RepK K Y H kvs vs->RepK K Y H (kvs++[(k,d)]) (vs++[(kyV k,v)])
 | [],_,h=>by cases h;exact⟨v,[],rfl,hv,rfl⟩
 |x::kvs,_,⟨u,r,rfl,h1,h2⟩=>⟨u,r++[(kyV k,v)],rfl,h1,RepK.snoc k hv h2⟩
theorem RepK.put(k:Ky)(hv:RepV K Y H d v)(h:RepK K Y H kvs vs):RepK K Y H (kI kvs k d) (L2.putK vs (kyV k) v):=by
 unfold kI L2.putK;rw[h.any k];split
 ·exact h.repl k hv
 ·exact h.snoc k hv
theorem RepK.merge:∀ {more:List (Ky × D)} {ms:List (L2.Key × V)} {kvs:List (Ky × D)} {vs:List (L2.Key × V)},RepK K Y H more ms->RepK K Y H kvs vs->RepK K Y H (uG kvs more) (L2.mergeK vs ms)
 | [],_,_,_,h,h0=>by cases h;exact h0
 |x::more,_,kvs,vs,⟨v,r,rfl,h1,h2⟩,h0=>RepK.merge (more:=more) (ms:=r) h2 (h0.put x.1 h1)
theorem RepH.dict(r:RepH K Y h H)(e:h[i]?=some (.dct kvs))(hv:RepV K Y H (.ref i) v):∃ a vs,v=.ref a/\Y[i]?=some a/\H a=some (.dK vs)/\RepK K Y H kvs vs:=by
 obtain ⟨a,h1,h2⟩:=hv;obtain ⟨b,h3,vs,h4,h5⟩:=r.obj i _ e;rw[h1] at h3;cases h3
 exact⟨a,vs,h2,h1,h4,h5⟩
theorem RepH.setDict(r:RepH K Y h H)(hk:h[k]?=some (.dct xs))(hr:Y[k]?=some p)(hp:H p=some (.dK us))(hx:RepK K Y H ys vs) :
  RepH K Y (h.set k (.dct ys)) (upd H p (.dK vs)):=r.setO hk rfl rfl hr hp rfl ⟨vs,qL,RepK.mono (Step.turn hp rfl (List.mem_of_getElem? hr)) _ _ hx⟩
end
section
variable {X:Cx}{pins:List (Addr × Obj)}{U:L2.St}{H:Hp}{s:Shared}{a:Addr}{vs:List (L2.Key × V)}{k:L2.Key}{v:V}{u:Value}{A:Around}{E:Value->Shared->Prop}
theorem qPV(I:Inv X pins U H s)(e:Rd H a (.dK vs))(l:L2.valV vs k=some v)(ry:RelV (L2.kV k) u)(h:∀ w' s',Inv X pins U H s'->RelV v w'->Q w' s'):wpAny (model X.prog X.w) A (getItem (.ref a) u) Q E s:=by
 obtain ⟨z,hd,ws,rel,dd⟩:=L2.dk_rd I.hok e;obtain ⟨w',hw,rw'⟩:=L2.RelO.some_of (v:=v) (o:=valueAt ws k) (by rw[<- l];exact rel.val k);exact wpAny_getItem_of (L2.kV_is ry) dd.mapOf hw (h w' _ (I.tok _) rw')
theorem qPU(I:Inv X pins U H s)(e:H a=some (.dK vs))(ry:RelV (L2.kV k) u)(h:∀ s',Inv X pins U H s'->Q (.bool (L2.valV vs k).isSome) s'):wpAny (model X.prog X.w) A (compareOp .In u (.ref a)) Q E s:=by
 obtain ⟨z,hd,ws,rel,dd⟩:=L2.dk_rd I.hok (.inl e);refine wpAny_in_of (L2.kV_is ry) hd dd.mapOf ?_;rw[<- (rel.val k).isSome_eq];exact h _ (I.tok _)
theorem qPS(I:Inv X pins U H s)(e:H a=some (.dK vs))(ry:RelV (L2.kV k) u)(h:∀ s',Inv X pins U H s'->Q (.bool (!(L2.valV vs k).isSome)) s'):wpAny (model X.prog X.w) A (compareOp .NotIn u (.ref a)) Q E s:=by
 obtain ⟨z,hd,ws,rel,dd⟩:=L2.dk_rd I.hok (.inl e);refine wpAny_notIn_of (L2.kV_is ry) hd dd.mapOf ?_;rw[<- (rel.val k).isSome_eq];exact h _ (I.tok _)
theorem qPT (I:Inv X pins U H s) (e:H a=some (.dK vs)) (h:∀ t s',Inv X pins U H s'->Q (.int vs.length t) s'):wpAny (model X.prog X.w) A (call (.builtin "len") [.ref a]) Q E s:=by
 obtain ⟨z,hd,ws,rel,dd⟩:=L2.dk_rd I.hok (.inl e);refine call_len_dict hd dd (by rw[<- rel.length];rw[sizeLine_eq] at z;lia) ?_;rw[<- rel.length];exact h _ _ (I.tok _)
theorem qPR(I:Inv X pins U H s)(e:H a=some (.dK vs))(hl0:vs.length<sizeLine)(ry:RelV (L2.kV k) u)(rv:RelV v r)(h:∀ s',Inv X pins U (upd H a (.dK (L2.putK vs k v))) s'->Q () s'):wpAny (model X.prog X.w) A (setItem (.ref a) u r) Q E s:=by
 obtain ⟨z,hd,ws,rel,dd⟩:=L2.dk_of I.hok e;have hz:ws.length<=sizeLine:=by rw[<- rel.length];exact z
 have hl:(L2.putK vs k v).length<=sizeLine:=by have:=L2.length_putK vs k v;lia
 refine wpAny_setItem_pairs (hsz:=hz) (L2.kV_is ry) dd fun h' dd' hs=>h _ ?_;have he:∃ q,h'.get? a=some q:=let ⟨q,_,_,hq,_⟩:=dd';⟨q,hq⟩;exact L2.d_write I (by rw[e];exact True.intro) hs he (L2.dk_new hl hd (rel.put k rv) dd')
theorem qPP (I:Inv X pins U H s) (e:Rd H a (.dK vs)):s.TypeIs (.ref a) "dict":=by
 obtain ⟨_,_,_,_,dd⟩:=L2.dk_rd I.hok e;exact dd.typeIs
theorem qPQ (hT:s.TypeIs (.ref a) "dict") (hs:subscripted slice false (.ref a) u=operate [.ref a,u] (getItem (.ref a) u)) (h₂:wpAny (model X.prog X.w) A (getItem (.ref a) u) Q E s):wpAny (model X.prog X.w) A (subscriptTail value slice (.ref a) u) Q E s:=by
 unfold subscriptTail;refine wpAny_bind ?_;rw[getitemInPython_of_ne hT.not_modules];refine wpAny_bind (wpAny_specialOf hT PySem.F.slot_dict_getitem.lookup ?_)
 have fin:wpAny (model X.prog X.w) A (subscripted slice false (.ref a) u) (fun r s₃=>wpAny (model X.prog X.w) A (letTemporaryGo value (.ref a) r >>= fun _=>pure r) Q E s₃) E s:=by
  rw[hs];exact wpAny_operating (wpAny_mono h₂ (fun r s₃ h₃=>wpAny_bind (wpAny_letTemporaryGo (wpAny_pure h₃))) fun _ _ x=>x)
 first
  |exact wpAny_pure (wpAny_bind fin)
  |exact wpAny_bind (wpAny_pure (wpAny_bind fin))
  |exact wpAny_bind fin
end
section
variable {X:Cx}{F:Nat->List D->M D}{W:WX}
theorem dF{K:PySem.W.Frag}(h:RepV K Y H (kyD k) x):x=L2.kV (kyV k):=by
 cases k with
 |int i=>cases h;rfl
 |str y=>cases h;rfl
theorem qDo(I:Inv X pins U H s)(r:RepH X.K Y h H)(hd:RepV X.K Y H (.ref k) x)(he:RepV X.K Y H (kyD ky) y)(rx:RelV x v)(ry:RelV y u)
  (p:PostV X.K w Q Y H (ixK k ky h)) (hs:subscripted slice false v u=operate [v,u] (getItem v u)):wpAny (model X.prog X.w) X.A (subscriptTail value slice v u) (EP X pins U Q) X.xe s:=by
 have go:∀ {kvs:List (Ky × D)} {a:Addr} {vs:List (L2.Key × V)},x=.ref a->Rd H a (.dK vs)->RepK X.K Y H kvs vs->PostV X.K w Q Y H (match zD kvs ky with | some d=>.ok d h | none=>.bad)->wpAny (model X.prog X.w) X.A (subscriptTail value slice v u) (EP X pins U Q) X.xe s:=fun {kvs a vs} ea hH hk p=>by
  subst ea;cases rx;have hy:=dF he;subst hy;rcases hk.val ky with⟨d,v',e1,e2,hv⟩ | ⟨e1,_⟩
  ·rw[e1] at p;exact qPQ (qPP I hH) hs (qPV I hH e2 ry fun w' s' I' rw'=>⟨v',H,I',rw',PostV.now p r hv⟩)
  ·rw[e1] at p;cases p
 have p:PostV X.K w Q Y H (match h[k]? with | some (.dct kvs)=>(match zD kvs ky with | some d=>.ok d h | none=>.bad) | some (.rod kvs)=>(match zD kvs ky with | some d=>.ok d h | none=>.bad) | _=>.bad):=p;obtain ⟨a,h1,h2⟩:=hd;split at p
 ·rename_i kvs q;obtain ⟨b,h3,vs,h4,h5⟩:=r.obj k _ q;rw[h1] at h3;cases h3;exact go h2 (.inl h4) h5 p
 ·rename_i kvs q;obtain ⟨b,h3,ob,vs,h4,h5⟩:=r.obj k _ q;rw[h1] at h3;cases h3;exact go h2 (.inr ⟨ob,h4⟩) h5 p
 ·cases p
theorem qNN(I:Inv X pins U H s)(r:RepH X.K Y h H)(hd:RepV X.K Y H (kyD ky) x)(he:RepV X.K Y H (.ref k) y)(rx:RelV x v)(ry:RelV y u)
  (p:PostV X.K w Q Y H (vW k ky h)):wpAny (model X.prog X.w) X.A (compareOp .In v u) (EP X pins U Q) X.xe s:=by
 have p:PostV X.K w Q Y H (match h[k]? with | some (.dct kvs)=>.ok (.bl (zD kvs ky).isSome) h | _=>.bad):=p;split at p
 ·rename_i kvs q;obtain ⟨a,vs,rfl,ha,hH,hk⟩:=r.dict q he;cases ry;have hy:=dF hd;subst hy;refine qPU I hH rx fun s' I'=>⟨.bl (L2.valV vs (kyV ky)).isSome,H,I',rfl,?_⟩
  have e:(L2.valV vs (kyV ky)).isSome=(zD kvs ky).isSome:=by
   rcases hk.val ky with⟨d,v',e1,e2,hv⟩ | ⟨e1,e2⟩
   ·rw[e1,e2];rfl
   ·rw[e1,e2];rfl
  rw[e];exact PostV.now p r rfl
 ·cases p
theorem qJ9(I:Inv X pins U H s)(r:RepH X.K Y h H)(hd:RepV X.K Y H (kyD ky) x)(he:RepV X.K Y H (.ref k) y)(rx:RelV x v)(ry:RelV y u)
  (p:PostV X.K w Q Y H (kT k ky h)):wpAny (model X.prog X.w) X.A (compareOp .NotIn v u) (EP X pins U Q) X.xe s:=by
 have p:PostV X.K w Q Y H (match h[k]? with | some (.dct kvs)=>.ok (.bl (!(zD kvs ky).isSome)) h | _=>.bad):=p;split at p
 ·rename_i kvs q;obtain ⟨a,vs,rfl,ha,hH,hk⟩:=r.dict q he;cases ry;have hy:=dF hd;subst hy;refine qPS I hH rx fun s' I'=>⟨.bl (!(L2.valV vs (kyV ky)).isSome),H,I',rfl,?_⟩
  have e:(L2.valV vs (kyV ky)).isSome=(zD kvs ky).isSome:=by
   rcases hk.val ky with⟨d,v',e1,e2,hv⟩ | ⟨e1,e2⟩
   ·rw[e1,e2];rfl
   ·rw[e1,e2];rfl
  rw[e];exact PostV.now p r rfl
 ·cases p
theorem qMW(I:Inv X pins U H s)(r:RepH X.K Y h H)(he:RepV X.K Y H (.ref k) y)(ry:RelV y u)
  (p:PostV X.K w Q Y H (uL k h)):wpAny (model X.prog X.w) X.A (call (.builtin "len") [u]) (EP X pins U Q) X.xe s:=by
 have p:PostV X.K w Q Y H (match h[k]? with | some (.dct kvs)=>.ok (.int kvs.length) h | _=>.bad):=p;split at p
 ·rename_i kvs q;obtain ⟨a,vs,rfl,ha,hH,hk⟩:=r.dict q he;cases ry;refine qPT I hH fun t s' I'=>⟨.int vs.length,H,I',⟨t,rfl⟩,?_⟩;rw[<- hk.length];exact PostV.now p r rfl
 ·cases p
end
def fD:CL->Nat
 | .nil=>0
 | .cons _ l=>fD l+1
section
variable {X:Cx}{F:Nat->List D->M D}{W:WX}
def trs(X:Cx)(F:Nat->List D->M D)(W:WX):List Ky->CL->List (TE × TE)
 |k::ks,.cons e l=>(L2.tC (L2.kV (kyV k)),tD X.K W (den F e))::trs X F W ks l
 |_,_=>[]
theorem qCt:∀ {ks:List Ky} {es:CL} {U:L2.St} {H:Hp} {env:Env} {Y:List Addr} {h:AH} {Q:List (V × V)->Hp->Prop},fD es=ks.length->RepS X.K Y H env U->RepH X.K Y h H ->
  Post X.K (W.at U) (fun Y' H' ds=>∀ vs,RepL X.K Y' H' ds vs->Q (((ks.map kyV).zip vs).map fun kv=>(L2.kV kv.1,kv.2)) H') Y H (zB F es env h)->L2.tPairs (trs X F W ks es) U H Q
 | [],.nil,U,H,env,Y,h,Q,_,s,r,p=>by
  dsimp only[zB] at p;exact Post.ret p r [] rfl
 | [],.cons _ _,_,_,_,_,_,_,hl,_,_,_=>by cases hl
 |_::_,.nil,_,_,_,_,_,_,hl,_,_,_=>by cases hl
 |k::ks,.cons e l,U,H,env,Y,h,Q,hl,s,r,p=>by
  dsimp only[zB] at p;refine⟨Y,env,h,s,r,Post.bind p fun Y1 h1 d H1 e1 r1 q v hv=>?_⟩;refine qCt (ks:=ks) (es:=l) (Nat.succ.inj hl) (s.mono e1) r1 (Post.bind q fun Y2 h2 ds H2 e2 r2 q2=>?_);intro vs hvs;exact Post.ret q2 r2 (v::vs) ⟨v,vs,rfl,hv.mono e2 _ _,hvs⟩
theorem RepK.zip{K:PySem.W.Frag}:∀ {ks:List Ky} {ds:List D} {vs:List V},RepL K Y H ds vs->RepK K Y H (ks.zip ds) ((ks.map kyV).zip vs)
 | [],_,_,_=>by simp[RepK]
 |k::ks,[],_,h=>by cases h;simp[RepK]
 |k::ks,d::ds,_,⟨v,r,rfl,h1,h2⟩=>⟨v,_,rfl,h1,RepK.zip h2⟩
theorem qP7(h:L2.PPs X pos keys values (trs X F W ks es))(hall:keys.all (·.isSome)=true)(hl:keys.length=values.length)(h15:keys.length<=15)(hk:fD es=ks.length)(h0:keys=[]->ks=[]/\es=.nil/\values=[]) :
  PE X (.Dict keys values pos) (tD X.K W (den F (.disp ks es))):=by
 have main:∀ (U:L2.St) (H:Hp) (Q:VK),tD X.K W (den F (.disp ks es)) U H Q->∀ p,H p=none->L2.tPairs (trs X F W ks es) U (upd H p (.dK [])) fun ps H2=>H2 p=some (.dK [])/\∃ kvs:List (L2.Key × V),ps=kvs.map (fun kv=>(L2.kV kv.1,kv.2))/\kvs.length<=15/\Q (.ref p) (upd H2 p (.dK (L2.mergeK [] kvs))):=by
  intro U H Q t p hp;obtain ⟨Y,env,h,s,r,q⟩:=t;dsimp only[den] at q;have st:Step Y H (Y++[p]) (upd H p (.dK [])):=Step.new1 hp;have r1:RepH X.K (Y++[p]) (h++[.dct []]) (upd H p (.dK [])):=r.newO hp ⟨[],qL,rfl⟩;have q1:PostV X.K (W.at U) Q (Y++[p]) (upd H p (.dK [])) (M.bind (zB F es env) (fun ds=>aU ks ds h.length) (h++[.dct []])):=Post.mono q st;refine qCt hk (s.mono st) r1 (Post.bind q1 fun Y2 h2 ds H2 e2 r2 q2=>?_);intro vs hvs;have q2:PostV X.K (W.at U) Q Y2 H2 (match h2[h.length]? with | some (.dct [])=>(if ks.length=ds.length/\ks.length<=15 then .ok (.ref h.length) (h2.set h.length (.dct (uG [] (ks.zip ds)))) else .bad) | _=>.bad):=q2;have hpl:(Y++[p])[h.length]?=some p:=by rw[<- r.len,List.getElem?_append_right (Nat.le_refl _)];simp
  have hpl2:Y2[h.length]?=some p:=vQ e2.pre hpl;split at q2
  ·rename_i z;obtain ⟨⟨c1,c2⟩,q2⟩:=PostV.ite q2;obtain ⟨a,us,ea,ha,hH,hu⟩:=r2.dict z (v:=.ref p) ⟨p,hpl2,rfl⟩;cases ea;cases hu;refine⟨hH,(ks.map kyV).zip vs,rfl,?_,?_⟩
   ·rw[List.length_zip,List.length_map];lia
   ·have stp:Step Y2 H2 Y2 (upd H2 p (.dK (L2.mergeK [] ((ks.map kyV).zip vs)))):=Step.turn hH rfl (List.mem_of_getElem? ha);exact q2 Y2 _ stp (r2.setDict z ha hH (RepK.merge (RepK.zip hvs) rfl)) (.ref p) ⟨p,hpl2,rfl⟩
  ·cases q2
 by_cases z:keys=[]
 ·obtain ⟨rfl,rfl,rfl⟩:=h0 z;subst z;refine PE.imp L2.pe_dnewK fun U H Q t p hp=>?_;obtain ⟨hH,kvs,e1,_,q⟩:=main U H Q t p hp;cases kvs with
  |cons a b=>cases e1
  |nil=>
   have:upd (upd H p (.dK [])) p (.dK (L2.mergeK [] []))=upd H p (.dK []):=L2.upd_upd
   rw[this] at q;exact q
 ·exact PE.imp (L2.pe_disp h hall hl z h15) fun U H Q t=>main U H Q t
end
open L2 (V Hp HO VK TE TT TA TS TI Cx Inv RelV Vals SqL SqT Rd upd qL qH PE PT PA PS PSs EP OpR qN IxR MtR SlR PO TO PI PG PIE Turn qS Ends)
def Its(z:Str):L2.It:=⟨fun i _=>i<z.cps.size,fun i H x H'=>H'=H/\∃ c,z.cps[i]?=some c/\x=.str ⟨#[c]⟩,fun i _=>i=z.cps.size⟩
theorem qBp{P:Program}{w:World}{K:PySem.W.Frag}{tg:Expr}{z:Str}{t:Tok}{ty:String}(it:Addr)
  (hty:["enumerate","zip","dict_itemiterator","dict_reverseitemiterator","odict_iterator","itertools.zip_longest","itertools.pairwise"].contains ty=false)
  (W:∀ A':Around,A'.handled=none->Walks P w A' it [it] [it] z.cps.size (SignAt z) (fun i h=>h.IsStrIter it ty z t i))
  (W':∀ (A:Around) (i:Nat) (s:Shared) (Q:Value->Shared->Prop) (E:Value->Shared->Prop),s.heap.IsStrIter it ty z t i->Q (.ref it) s->wpAny (model P w) A (pyIter (.ref it)) Q E s) :
  Turn P w K tg (Its z) [it] it (fun i h=>h.IsStrIter it ty z t i) where
 mem:=by simp
 obj:=fun i h st b hb=>by
  have e:b=it:=by simpa using hb
  subst e;obtain ⟨o,e,c,d⟩:=st
  exact⟨o,e,fun v z=>by rw[d] at z;cases z⟩
 keep:=fun i h h' st k=>by
  obtain ⟨o,e,c,d⟩:=st
  exact⟨o,k it (by simp) o e,c,d⟩
 item:=by
  intro X hP hw hK hc i pins s U H E I hf st hg;subst hP hw hK;obtain ⟨f0,f1,f2,f3,f4,f5⟩:=hf it (by simp);refine (W X.A (I.ok.hd hc)).item i s _ E hg st fun v h' tk hv st' kp=>?_;obtain ⟨c,u,hcz,rfl⟩:=hv;have I1:Inv X pins U H { s with heap:=h',toks:=tk }:=I.turned (t':=tk) (fun b o hb e=>kp b o (by simpa using hb) e) f0 f1 f3 f4 f5;obtain ⟨o,e,cc,d⟩:=id st'
  exact⟨_,rfl,L2.go_of (s:={ s with heap:=h',toks:=tk }) e cc d hty ⟨.str ⟨#[c]⟩,H,I1,⟨u,rfl⟩,⟨rfl,c,hcz,rfl⟩,st',fun b hb=>(hf b hb).1⟩⟩
 done:=by
  intro X hP hw hK hc i pins s U H E I hf st hg;subst hP hw hK;obtain ⟨f0,f1,f2,f3,f4,f5⟩:=hf it (by simp);have hg:i=z.cps.size:=hg;subst hg;exact (W X.A (I.ok.hd hc)).done s _ E st fun h' tk kp=>⟨rfl,I.turned (t':=tk) (fun b o hb e=>kp b o (by simpa using hb) e) f0 f1 f3 f4 f5⟩
 self:=fun A i s Q E st h=>W' A i s Q E st h
section
variable {X:Cx}{tg:Expr}
def qOH(K:PySem.W.Frag)(tl:TE):TI:=fun U H R=>tl U H fun x H1=>
 (∃ a,x=.ref a/\(∃ xs,SqL K H1 a xs)/\R (L2.Itl K a) H1)\/(∃ a,x=.ref a/\(∃ xs,SqT K H1 a xs)/\R (L2.Itt K a) H1)\/∃ z,x=.str z/\R (Its z) H1
theorem qJH(hl:PE X l tl):PI X tg l (qOH X.K tl):=by
 intro pins s U H R I h;refine L2.thn (hl pins s U H _ I h) fun v s1 ⟨x,H1,I1,r1,q1⟩=>?_
 have one:∀ {h':Heap} {t':Nat} {b:Addr},b∈[s1.heap.objs.size]->qS X pins H1 b:=fun hb=>by
  have e:=List.mem_singleton.mp hb;subst e;exact I1.fpOk (Nat.le_refl _) (I1.hok.fresh (Nat.le_refl _))
 rcases q1 with⟨a,e,⟨xs,hq⟩,q⟩ | ⟨a,e,⟨xs,hq⟩,q⟩ | ⟨z,e,q⟩
 ·subst e;cases r1;obtain ⟨its,rv,p,hz⟩:=I1.list hq;refine wpAny_pyIter_list p.isList ?_
  exact⟨s1.heap.objs.size,[s1.heap.objs.size],_,_,H1,rfl,I1.kept (t':=s1.toks) fun b o e=>Heap.get?_push_of_some _ e,L2.turn_list a _,⟨_,Heap.get?_push_size _ rfl,rfl,rfl⟩,fun b hb=>one (h':=s1.heap) (t':=0) hb,q⟩
 ·subst e;cases r1;obtain ⟨its,rv,p,hz⟩:=I1.tuple hq;refine wpAny_pyIter_tuple (show s1.heap.IsTuple a its.toArray from p) ?_
  exact⟨s1.heap.objs.size,[s1.heap.objs.size],_,_,H1,rfl,I1.kept (t':=s1.toks) fun b o e=>Heap.get?_push_of_some _ e,L2.turn_tuple a _,⟨_,Heap.get?_push_size _ rfl,rfl,rfl⟩,fun b hb=>one (h':=s1.heap) (t':=0) hb,q⟩
 ·subst e;obtain ⟨t,rfl⟩:=r1;cases ha:z.cps.all (·<128)
  ·refine wpAny_pyIter_wide ha ?_
   exact⟨s1.heap.objs.size,[s1.heap.objs.size],_,_,H1,rfl,I1.kept (t':=s1.toks) fun b o e=>Heap.get?_push_of_some _ e,qBp (t:=t) _ (by decide) (fun A' hA=>Walks.strWide hA _ z t) (fun A i s Q E st h=>wpAny_pyIter_striter_wide st h),⟨_,Heap.get?_push_size _ rfl,rfl,rfl⟩,fun b hb=>one (h':=s1.heap) (t':=0) hb,q⟩
  ·refine wpAny_pyIter_ascii ha ?_
   exact⟨s1.heap.objs.size,[s1.heap.objs.size],_,_,H1,rfl,I1.kept (t':=s1.toks) fun b o e=>Heap.get?_push_of_some _ e,qBp (t:=t) _ (by decide) (fun A' hA=>Walks.strAscii hA _ z t) (fun A i s Q E st h=>wpAny_pyIter_striter_ascii st h),⟨_,Heap.get?_push_size _ rfl,rfl,rfl⟩,fun b hb=>one (h':=s1.heap) (t':=0) hb,q⟩
end
def PostS(K:PySem.W.Frag)(W:WX)(D:Ends)(Y:List Addr)(H:Hp):SR->Prop
 | .nx e h=>∀ Y' H' st,Step Y H Y' H'->RepH K Y' h H'->RepS K Y' H' e st->D.nx st H'
 | .rt d h=>∀ Y' H' v,Step Y H Y' H'->RepH K Y' h H'->RepV K Y' H' d v->D.rt v H'
 | .bk e h=>∀ Y' H' st,Step Y H Y' H'->RepH K Y' h H'->RepS K Y' H' e st->D.bk st H'
 | .ct e h=>∀ Y' H' st,Step Y H Y' H'->RepH K Y' h H'->RepS K Y' H' e st->D.ct st H'
 | .exc c e h=>∀ Y' H' st,Step Y H Y' H'->RepH K Y' h H'->RepS K Y' H' e st->W c st H'
 | .bad=>False
theorem PostS.mono{K:PySem.W.Frag}{D:Ends}(p:PostS K W D Y H r)(e:Step Y H Y1 H1):PostS K W D Y1 H1 r:=by
 cases r with
 |nx _ _=>exact fun Y' H' st e'=>p Y' H' st (e.trans e')
 |rt _ _=>exact fun Y' H' st e'=>p Y' H' st (e.trans e')
 |bk _ _=>exact fun Y' H' st e'=>p Y' H' st (e.trans e')
 |ct _ _=>exact fun Y' H' st e'=>p Y' H' st (e.trans e')
 |exc _ _ _=>exact fun Y' H' st e'=>p Y' H' st (e.trans e')
 |bad=>exact p
abbrev WF:WX:=fun _ _ _=>False
def tDS(K:PySem.W.Frag)(W:WX)(m:Env->AH->SR):TS:=fun D U H=>∃ Y env h,RepS K Y H env U/\RepH K Y h H/\PostS K W D Y H (m env h)
theorem PostS.ofR{α:Type}{K:PySem.W.Frag}{D:Ends}{rep:List Addr->Hp->α->Prop}{r:R α}{f:α->AH->SR}(s:RepS K Y H env U)(p:PostS K W D Y H (SR.ofR env r f))
  (k:∀ Y' h' a H',Step Y H Y' H'->RepH K Y' h' H'->PostS K W D Y' H' (f a h')->rep Y' H' a):Post K (W.at U) rep Y H r:=by
 cases r with
 |ok a h=>exact fun Y' H' e r'=>k Y' h a H' e r' (PostS.mono p e)
 |exc c h=>exact fun Y' H' e r'=>p Y' H' U e r' (s.mono e)
 |bad=>exact p
section
variable {X:Cx}{F:Nat->List D->M D}{B:Nat}{W:WX}
theorem qIj:PSs X [] (tDS X.K W (qB F B .skip)):=PSs.imp L2.pss_nil fun D U H t=>by
 obtain ⟨Y,env,h,s,r,p⟩:=t;exact p Y H U (Step.refl Y H) r s
theorem qIo{st:Stmt}(h1:PS X st (tDS X.K W (qB F B a)))(h2:PSs X rest (tDS X.K W (qB F B b))):PSs X (st::rest) (tDS X.K W (qB F B (.seq a b))):=PSs.imp (L2.pss_cons h1 h2) fun D U H t=>by
 obtain ⟨Y,env,h,s,r,p⟩:=t;refine⟨Y,env,h,s,r,?_⟩;dsimp only[qB] at p;cases e:qB F B a env h with
 |nx e1 g1=>rw[e] at p;exact fun Y' H' st' e' r' s'=>⟨Y',e1,g1,s',r',PostS.mono p e'⟩
 |rt _ _=>rw[e] at p;exact p
 |bk _ _=>rw[e] at p;exact p
 |ct _ _=>rw[e] at p;exact p
 |exc _ _ _=>rw[e] at p;exact p
 |bad=>rw[e] at p;exact p
theorem qCJ(hN:X.N.Nodup)(hi:X.N[i]?=some x)(hx:L2.Loc X.env.scope x)(he:PE X e (tD X.K W (den F c)))
  (hs:swapsWith e (some (.Name x pos')) pos.line X.env=pure false) (hf:X.fn x=true\/X.env.scope.names.lookup x=some .local):PS X (.Assign [.Name x pos'] e pos) (tDS X.K W (qB F B (.set (.nm i) c))):=PS.imp (L2.ps_set hN hi hx he hs hf) fun D U H t=>by
 obtain ⟨Y,env,h,s,r,p⟩:=t;dsimp only[qB] at p
 exact⟨Y,env,h,s,r,PostS.ofR s p fun Y' h' d H' e' r' q v hv=>q Y' H' _ (Step.refl _ _) r' ((s.mono e').set i hv)⟩
theorem qIn(he:PE X e (tD X.K W (den F c)))(hs:swapsWith e none pos.line X.env=pure false):PS X (.Expr e pos) (tDS X.K W (qB F B (.exp c))):=PS.imp (L2.ps_expr he hs) fun D U H t=>by
 obtain ⟨Y,env,h,s,r,p⟩:=t;dsimp only[qB] at p
 exact⟨Y,env,h,s,r,PostS.ofR s p fun Y' h' d H' e' r' q v hv=>q Y' H' _ (Step.refl _ _) r' (s.mono e')⟩
theorem qId(he:PE X e (tD X.K W (den F c))):PS X (.Return (some e) pos) (tDS X.K W (qB F B (.ret c))):=PS.imp (L2.ps_ret he) fun D U H t=>by
 obtain ⟨Y,env,h,s,r,p⟩:=t;dsimp only[qB] at p
 exact⟨Y,env,h,s,r,PostS.ofR s p fun Y' h' d H' e' r' q v hv=>q Y' H' v (Step.refl _ _) r' hv⟩
theorem qIc:PS X (.Return none pos) (tDS X.K W (qB F B .retN)):=PS.imp L2.ps_retN fun D U H t=>by
 obtain ⟨Y,env,h,s,r,p⟩:=t;dsimp only[qB] at p;exact p Y H .non (Step.refl _ _) r rfl
theorem qIg:PS X (.Pass pos) (tDS X.K W (qB F B .skip)):=PS.imp L2.ps_pass fun D U H t=>by
 obtain ⟨Y,env,h,s,r,p⟩:=t;exact p Y H U (Step.refl Y H) r s
theorem qIq:PS X (.Break pos) (tDS X.K W (qB F B .brk)):=PS.imp L2.ps_break fun D U H t=>by
 obtain ⟨Y,env,h,s,r,p⟩:=t;exact p Y H U (Step.refl Y H) r s
theorem qIp:PS X (.Continue pos) (tDS X.K W (qB F B .cnt)):=PS.imp L2.ps_continue fun D U H t=>by
 obtain ⟨Y,env,h,s,r,p⟩:=t;exact p Y H U (Step.refl Y H) r s
theorem qIk(hc:PT X c (tDT X.K W (qM F cc)))(ha:PSs X a (tDS X.K W (qB F B ca)))(hb:PSs X b (tDS X.K W (qB F B cb))) :
  PS X (.If c a b pos) (tDS X.K W (qB F B (.ite cc ca cb))):=PS.imp (L2.ps_if hc ha hb) fun D U H t=>by
 obtain ⟨Y,env,h,s,r,p⟩:=t;dsimp only[qB] at p;refine⟨Y,env,h,s,r,PostS.ofR s p fun Y' h' k H' e' r' q=>?_⟩;cases k with
 |true=>exact L2.iteT ⟨Y',env,h',s.mono e',r',q⟩
 |false=>exact L2.iteF ⟨Y',env,h',s.mono e',r',q⟩
def yA(K:PySem.W.Frag)(t:TG)(g:L2.TG):Prop:=∀ (Y:List Addr) (H:Hp) (env env':Env) (U:L2.St) (d:D) (v:V) (Q:L2.St->Hp->Prop),RepS K Y H env U->RepV K Y H d v->gP t d env=some env'->(∀ st,RepS K Y H env' st->Q st H)->g v U H Q
theorem qHZ{K:PySem.W.Frag}(i:Nat):yA K (.nm i) (L2.gName i):=by
 intro Y H env env' U d v Q s hv e q;cases e;exact q _ (s.set i hv)
theorem PostS.turn{K:PySem.W.Frag}{D:Ends}(p:PostS K W D Y H (r.turn f))
  (hN:∀ Y' H' env h st,Step Y H Y' H'->RepH K Y' h H'->RepS K Y' H' env st->PostS K W D Y' H' (f env h)->N st H'):PostS K WF { D with nx:=N,ct:=N,bk:=D.nx } Y H r:=by
 cases r with
 |nx e g=>exact fun Y' H' st e' r' s'=>hN Y' H' e g st e' r' s' (PostS.mono p e')
 |ct e g=>exact fun Y' H' st e' r' s'=>hN Y' H' e g st e' r' s' (PostS.mono p e')
 |bk e g=>exact p
 |rt _ _=>exact p
 |exc _ _ _=>cases p
 |bad=>exact p
theorem qCx{K:PySem.W.Frag}(ht:yA K t g)(s:RepS K Y H env U)(r:RepH K Y h H)(hv:RepV K Y H d v)
  (p:PostS K W E Y H ((qV t (qB F B cb) d env h).turn f)) (hN:∀ Y' H' env h st,Step Y H Y' H'->RepH K Y' h H'->RepS K Y' H' env st->PostS K W E Y' H' (f env h)->N st H') :
  g v U H fun U2 H2=>tDS K WF (qB F B cb) { E with nx:=N,ct:=N,bk:=E.nx } U2 H2:=by
 unfold qV at p;cases e:gP t d env with
 |none=>rw[e] at p;cases p
 |some env'=>rw[e] at p;exact ht Y H env env' U d v _ s hv e fun st s'=>⟨Y,env',h,s',r,PostS.turn p hN⟩
theorem qDX{K:PySem.W.Frag}{J:L2.It}(ht:yA K t g)(s:RepS K Y H env U)(r:RepH K Y h H)
  (go:∀ (i:Nat) Y' H',Step Y H Y' H'->i<xs.length->J.go i H') (yl:∀ (i:Nat) Y' H' x H'',Step Y H Y' H'->i<xs.length->J.yld i H' x H''->H''=H'/\∃ d,xs[i]?=some d/\RepV K Y' H' d x) (sp:∀ (i:Nat) Y' H',Step Y H Y' H'->i=xs.length->J.stop i H')
  (p:PostS K W E Y H (zJ (qV t (qB F B cb)) xs env h)) :
  ∃ Wi:Nat->Nat->L2.St->Hp->Prop,(∃ m,Wi 0 m U H)/\∀ i m U H,Wi i m U H ->
   (J.stop i H/\E.nx U H)\/(J.go i H/\∃ N:L2.St->Hp->Prop,(∀ U' H',N U' H'->∃ m',m'<m/\Wi (i+1) m' U' H')/\∀ x H',J.yld i H x H'->g x U H' fun U2 H2=>tDS K WF (qB F B cb) { E with nx:=N,ct:=N,bk:=E.nx } U2 H2):=by
 refine⟨fun i m U' H'=>m=xs.length-i/\i<=xs.length/\∃ Y' env' h',Step Y H Y' H'/\RepS K Y' H' env' U'/\RepH K Y' h' H'/\PostS K W E Y' H' (zJ (qV t (qB F B cb)) (xs.drop i) env' h'),⟨_,rfl,Nat.zero_le _,Y,env,h,Step.refl _ _,s,r,p⟩,?_⟩
 rintro i m U' H' ⟨rfl,hi,Y',env',h',e',s',r',p'⟩
 by_cases hlt:i<xs.length
 ·refine .inr ⟨go i Y' H' e' hlt,fun U2 H2=>∃ Y2 env2 h2,Step Y H Y2 H2/\RepS K Y2 H2 env2 U2/\RepH K Y2 h2 H2/\PostS K W E Y2 H2 (zJ (qV t (qB F B cb)) (xs.drop (i+1)) env2 h2),fun U2 H2 q=>⟨xs.length-(i+1),by lia,rfl,hlt,q⟩,fun x H'' y=>?_⟩;obtain ⟨rfl,d,hd,hv⟩:=yl i Y' H' x H'' e' hlt y;rw[List.drop_eq_getElem_cons hlt] at p'
  have ed:xs[i]=d:=by
   rw[List.getElem?_eq_getElem hlt] at hd;exact Option.some.inj hd
  rw[ed,zJ] at p';exact qCx ht s' r' hv p' fun Y2 H2 env2 h2 st e2 r2 s2 p2=>⟨Y2,env2,h2,e'.trans e2,s2,r2,p2⟩
 ·have e:i=xs.length:=by lia
  subst e;rw[List.drop_length] at p';exact .inl ⟨sp _ Y' H' e' rfl,p' Y' H' U' (Step.refl _ _) r' s'⟩
theorem qMT{K:PySem.W.Frag}(ht:yA K t g)(s:RepS K Y H env U)(r:RepH K Y h H)(ha:Y[k]?=some a)
  (p:PostS K W E Y H (jW (qV t (qB F B cb)) k n 0 env h)) :
  ∃ Wi:Nat->Nat->L2.St->Hp->Prop,(∃ m,Wi 0 m U H)/\∀ i m U H,Wi i m U H ->
   ((L2.Itl K a).stop i H/\E.nx U H)\/((L2.Itl K a).go i H/\∃ N:L2.St->Hp->Prop,(∀ U' H',N U' H'->∃ m',m'<m/\Wi (i+1) m' U' H')/\∀ x H',(L2.Itl K a).yld i H x H'->g x U H' fun U2 H2=>tDS K WF (qB F B cb) { E with nx:=N,ct:=N,bk:=E.nx } U2 H2):=by
 refine⟨fun i m U' H'=>∃ Y' env' h',Step Y H Y' H'/\RepS K Y' H' env' U'/\RepH K Y' h' H'/\PostS K W E Y' H' (jW (qV t (qB F B cb)) k m i env' h'),⟨n,Y,env,h,Step.refl _ _,s,r,p⟩,?_⟩
 rintro i m U' H' ⟨Y',env',h',e',s',r',p'⟩
 cases m with
 |zero=>cases p'
 |succ m=>
  rw[jW] at p';cases q:qC h' k with
  |none=>rw[q] at p';cases p'
  |some xs=>
   rw[q] at p';obtain ⟨b,vs,h1,h2,h3⟩:=r'.list q;rw[vQ e'.pre ha] at h1;cases h1;cases qx:xs[i]? with
   |none=>simp only[qx] at p';refine .inl ⟨⟨vs,h2,?_⟩,p' Y' H' U' (Step.refl _ _) r' s'⟩;rw[h3.length];exact List.getElem?_eq_none_iff.mp qx
   |some d=>simp only[qx] at p';obtain ⟨w,hw,hv⟩:=h3.get qx;refine .inr ⟨⟨vs,w,h2,hw⟩,fun U2 H2=>∃ Y2 env2 h2,Step Y H Y2 H2/\RepS K Y2 H2 env2 U2/\RepH K Y2 h2 H2/\PostS K W E Y2 H2 (jW (qV t (qB F B cb)) k m (i+1) env2 h2),fun U2 H2 z=>⟨m,by lia,z⟩,fun x H'' y=>?_⟩;obtain ⟨rfl,y⟩:=y;have ew:=y vs h2;rw[hw] at ew;cases ew;exact qCx ht s' r' hv p' fun Y2 H2 env2 h2 st e2 r2 s2 p2=>⟨Y2,env2,h2,e'.trans e2,s2,r2,p2⟩
end
section
variable {X:Cx}{F:Nat->List D->M D}{W:WX}
theorem qGb{K:PySem.W.Frag}(l:RepL K Y H xs vs)(e:(ixN xs.length i).bind (xs[·]?)=some d):∃ w,L2.atI vs i=some w/\RepV K Y H d w:=by
 cases q:ixN xs.length i with
 |none=>rw[q] at e;cases e
 |some j=>rw[q] at e;have e:xs[j]?=some d:=e;obtain ⟨w,h1,h2⟩:=l.get e;refine⟨w,?_,h2⟩;show (L2.ixN vs.length i).bind (fun j=>vs[j]?)=some w;rw[l.length];have q':L2.ixN xs.length i=some j:=q;rw[q'];exact h1
theorem qM4:IxR X (rB X.K .ix):=by
 rintro value slice pins s U H x y v u Q I rx ry ⟨w,Y,h,d,e,r,hd,he,p⟩ hs
 cases d with
 |tup xs=>
  cases e with
  |int i=>
   cases he;obtain ⟨a,vs,rfl,h1,h2⟩:=hd;have p:PostV X.K w Q Y H (match (ixN xs.length i).bind (xs[·]?) with | some d=>.ok d h | none=>.bad):=p;cases q:(ixN xs.length i).bind (xs[·]?) with
   |none=>rw[q] at p;cases p
   |some d=>rw[q] at p;obtain ⟨w,h3,h4⟩:=qGb h2 q;exact L2.ix_tup value slice pins s U H _ _ v u Q I rx ry ⟨a,vs,i,w,rfl,rfl,h1,h3,PostV.now p r h4⟩ hs
  |_=>cases p
 |str x=>
  cases e with
  |int i=>
   cases he;cases hd;have p:PostV X.K w Q Y H (if x.length<=16777216 then (match (ixN x.length i).bind (x[·]?) with | some c=>.ok (.str [c]) h | none=>.bad) else .bad):=p;obtain ⟨hz,p⟩:=PostV.ite p;cases q:(ixN x.length i).bind (x[·]?) with
   |none=>rw[q] at p;cases p
   |some c=>rw[q] at p;exact L2.ix_str value slice pins s U H _ _ v u Q I rx ry ⟨⟨x.toArray⟩,i,c,rfl,rfl,by rw[zY,zX];exact hz,q,PostV.now p r rfl⟩ hs
  |_=>cases p
 |ref k=>
  cases e with
  |int i=>
   have p:PostV X.K w Q Y H (match (qC h k).bind fun xs=>(ixN xs.length i).bind (xs[·]?) with | some d=>.ok d h | none=>ixK k (.int i) h):=p;cases q:((qC h k).bind fun xs=>(ixN xs.length i).bind (xs[·]?)) with
   |none=>rw[q] at p;exact qDo (ky:=.int i) I r hd he rx ry p hs
   |some d=>
    rw[q] at p;cases he;cases q0:qC h k with
    |none=>rw[q0] at q;cases q
    |some xs=>rw[q0] at q;obtain ⟨a,vs,rfl,h1,h2⟩:=r.seen q0 hd;obtain ⟨w,h3,h4⟩:=qGb h2 q;exact L2.ix_list value slice pins s U H _ _ v u Q I rx ry ⟨a,vs,i,w,rfl,rfl,h1,h3,PostV.now p r h4⟩ hs
  |str x=>exact qDo (ky:=.str x) I r hd he rx ry p hs
  |_=>cases p
 |_=>cases p
theorem qPz(ha:PE X a (tD X.K W (den F ca)))(hb:PE X b (tD X.K W (den F cb)))(hs:L2.PlainIx b):PE X (.Subscript a b pos) (tD X.K W (den F (.bi .ix ca cb))):=PE.imp (L2.pe_ix qM4 ha hb hs) fun _ _ _ t=>two t
theorem qGy:L2.UnR X (unaryOp .USub) (rU X.K .neg):=by
 rintro pins s U H x v Q I rx ⟨w,Y,h,d,r,hd,p⟩
 cases d with
 |int i=>cases hd;exact L2.un_neg pins s U H _ v Q I rx ⟨i,rfl,PostV.now p r rfl⟩
 |_=>cases p
theorem qPr(ha:PE X a (tD X.K W (den F ca))):PE X (.UnaryOp .USub a pos) (tD X.K W (den F (.un .neg ca))):=PE.imp (L2.pe_un qGy ha) fun _ _ _ t=>one t
theorem qQh:qN X (.builtin "len") (rC X.K .len):=by
 rintro pins s U H xs us Q I rv ⟨x,rfl,w,Y,h,d,r,hd,p⟩
 cases d with
 |str x=>cases hd;obtain ⟨hz,p⟩:=PostV.ite (c:=x.length<=16777216) p;exact L2.call_len pins s U H _ us Q I rv ⟨_,x.length,rfl,⟨by rw[zY,zX];exact hz,by rw[zY]⟩,PostV.now p r rfl⟩
 |tup ys=>obtain ⟨a,vs,rfl,h1,h2⟩:=hd;exact L2.call_len pins s U H _ us Q I rv ⟨_,ys.length,rfl,.inr ⟨vs,h1,h2.length.symm⟩,PostV.now (h:=h) p r rfl⟩
 |ref i=>
  have p:PostV X.K w Q Y H (match qC h i with | some xs=>.ok (.int xs.length) h | none=>uL i h):=p;cases q:qC h i with
  |none=>
   rw[q] at p;cases rv with
   |cons ru rn=>cases rn;exact qMW I r hd ru p
  |some ys=>rw[q] at p;obtain ⟨a,vs,rfl,h1,h2⟩:=r.seen q hd;exact L2.call_len pins s U H _ us Q I rv ⟨_,ys.length,rfl,.inl ⟨vs,h1,h2.length.symm⟩,PostV.now p r rfl⟩
 |_=>cases p
theorem qQb:qN X (.builtin "ord") (rC X.K .ord):=by
 rintro pins s U H xs us Q I rv ⟨x,rfl,w,Y,h,d,r,hd,p⟩
 cases d with
 |str x=>
  cases hd
  match x,p with
  | [c],p=>exact L2.call_ord pins s U H _ us Q I rv ⟨_,rfl,rfl,PostV.now (h:=h) p r rfl⟩
  | [],p=>cases p
  |_::_::_,p=>cases p
 |_=>cases p
theorem qHJ(i:Int):((toString i:String):Str)=⟨(txI i).toArray⟩:=by
 show Str.ofString (toString i)=_;rw[Str.ofString_eq_toList];rfl
theorem qQZ:qN X (.type "str") (rC X.K .str):=by
 rintro pins s U H xs us Q I rv ⟨x,rfl,w,Y,h,d,r,hd,p⟩
 cases d with
 |int i=>cases hd;obtain ⟨hz,p⟩:=PostV.ite (c:=i.natAbs.log2<1920) p;exact L2.call_str_int pins s U H _ us Q I rv ⟨i,rfl,hz,PostV.now p r (qHJ i ▸ rfl)⟩
 |_=>cases p
theorem qQj:qN X (.type "int") (rC X.K .int):=by
 rintro pins s U H xs us Q I rv ⟨x,rfl,w,Y,h,d,r,hd,p⟩
 cases d with
 |int i=>cases hd;exact L2.call_int1 pins s U H _ us Q I rv (.inl ⟨i,rfl,PostV.now (h:=h) p r rfl⟩)
 |bl b=>cases hd;exact L2.call_int1 pins s U H _ us Q I rv (.inr ⟨b,rfl,PostV.now (h:=h) p r rfl⟩)
 |str x=>
  cases hd;obtain ⟨hc,p⟩:=PostV.ite (c:=x≠[]/\x.length<=640/\jV x=true) p;obtain ⟨h1,h2,h3⟩:=hc;obtain ⟨u,rfl,t,rfl⟩:=L2.vals1 rv
  have hd:PySem.NumText.AllDigits x:=fun c hc=>by
   have:=List.all_eq_true.mp h3 c hc
   exact of_decide_eq_true this
  exact PySem.W.KIN.call_text (PySem.intText_digits (x:=⟨x.toArray⟩) hd h1 (by rw[zY];lia)) (by rw[zY];exact h2) ⟨.int _,H,I.tok _,⟨_,rfl⟩,PostV.now p r rfl⟩
 |_=>cases p
theorem qQY:qN X (.type "tuple") (rC X.K .tuple):=by
 rintro pins s U H xs us Q I rv ⟨x,rfl,w,Y,h,d,r,hd,p⟩
 cases d with
 |tup ys=>obtain ⟨a,vs,rfl,h1,h2⟩:=hd;exact L2.call_tuple_of pins s U H _ us Q I rv ⟨a,vs,rfl,.inr ⟨h1,PostV.now (h:=h) p r ⟨a,vs,rfl,h1,h2⟩⟩⟩
 |ref i=>
  have p:PostV X.K w Q Y H (match qC h i with | some xs=>.ok (.tup xs) h | none=>.bad):=p;cases q:qC h i with
  |none=>rw[q] at p;cases p
  |some ys=>rw[q] at p;obtain ⟨a,vs,rfl,h1,h2⟩:=r.seen q hd;exact L2.call_tuple_of pins s U H _ us Q I rv ⟨a,vs,rfl,.inl ⟨h1,PostV.newT p r h2⟩⟩
 |_=>cases p
theorem qQg:qN X (.type "list") (rC X.K .list):=by
 rintro pins s U H xs us Q I rv ⟨x,rfl,w,Y,h,d,r,hd,p⟩
 cases d with
 |tup ys=>obtain ⟨a,vs,rfl,h1,h2⟩:=hd;exact L2.call_list_of pins s U H _ us Q I rv ⟨a,vs,rfl,.inr h1,(PostV.newL (h:=h) p r h2).2⟩
 |ref i=>
  have p:PostV X.K w Q Y H (match qC h i with | some xs=>newL xs h | none=>.bad):=p;cases q:qC h i with
  |none=>rw[q] at p;cases p
  |some ys=>rw[q] at p;obtain ⟨a,vs,rfl,h1,h2⟩:=r.seen q hd;exact L2.call_list_of pins s U H _ us Q I rv ⟨a,vs,rfl,.inl h1,(PostV.newL p r h2).2⟩
 |_=>cases p
theorem qQe (hc:X.calm=true):qN X (.builtin "min") (rC2 X.K .min2):=by
 rintro pins s U H xs us Q I rv ⟨x,y,rfl,w,Y,h,d,e,r,hd,he,p⟩
 cases d with
 |int i=>
  cases e with
  |int j=>cases hd;cases he;exact L2.call_min2 hc pins s U H _ us Q I rv ⟨i,j,rfl,PostV.now (h:=h) p r rfl⟩
  |_=>cases p
 |_=>cases p
theorem qQf (hc:X.calm=true):qN X (.builtin "max") (rC2 X.K .max2):=by
 rintro pins s U H xs us Q I rv ⟨x,y,rfl,w,Y,h,d,e,r,hd,he,p⟩
 cases d with
 |int i=>
  cases e with
  |int j=>cases hd;cases he;exact L2.call_max2 hc pins s U H _ us Q I rv ⟨i,j,rfl,PostV.now (h:=h) p r rfl⟩
  |_=>cases p
 |_=>cases p
theorem qDt(t:tD X.K W (den F (.un .isN ca)) U H Q):L2.tIsN (tD X.K W (den F ca)) U H Q:=by
 obtain ⟨Y,env,h,s,r,p⟩:=one t;refine⟨Y,env,h,s,r,Post.imp p fun Y' H' d q v hv=>?_⟩;obtain ⟨w1,Y1,h1,d1,r1,hd1,p1⟩:=q v hv
 have e:=PostV.now (h:=h1) p1 r1 (v:=.bl (decide (v=.non))) (by
  cases d1 <;> first
   | (cases hd1;rfl)
   | (obtain ⟨a,vs,rfl,_⟩:=hd1;rfl)
   | (obtain ⟨a,_,rfl⟩:=hd1;rfl))
 exact e
theorem qC2(t:tD X.K W (den F (.un .notN ca)) U H Q):L2.tNotN (tD X.K W (den F ca)) U H Q:=by
 obtain ⟨Y,env,h,s,r,p⟩:=one t;refine⟨Y,env,h,s,r,Post.imp p fun Y' H' d q v hv=>?_⟩;obtain ⟨w1,Y1,h1,d1,r1,hd1,p1⟩:=q v hv
 have e:=PostV.now (h:=h1) p1 r1 (v:=.bl (!decide (v=.non))) (by
  cases d1 <;> first
   | (cases hd1;rfl)
   | (obtain ⟨a,vs,rfl,_⟩:=hd1;rfl)
   | (obtain ⟨a,_,rfl⟩:=hd1;rfl))
 exact e
theorem qBo(ho:o=.isN\/o=.notN)(env:Env)(h:AH)(d:D)(h':AH)(e:den F (.un o ca) env h=.ok d h'):∃ k,d=.bl k:=by
 dsimp only[den] at e;obtain ⟨x,g1,_,e⟩:=bind_ok e;rcases ho with rfl | rfl <;> (cases e;exact⟨_,rfl⟩)
theorem qP2(ha:PE X a (tD X.K W (den F ca))):PE X (.Compare a [.Is] [.Constant .none j pos'] pos) (tD X.K W (den F (.un .isN ca))):=PE.imp (L2.pe_cmp (L2.pc_isN ha)) fun U H Q t=>qDt t
theorem qPp(ha:PE X a (tD X.K W (den F ca))):PE X (.Compare a [.IsNot] [.Constant .none j pos'] pos) (tD X.K W (den F (.un .notN ca))):=PE.imp (L2.pe_cmp (L2.pc_notN ha)) fun U H Q t=>qC2 t
theorem qPI(ha:PE X a (tD X.K W (den F ca))):PT X (.Compare a [.Is] [.Constant .none j pos'] pos) (tDT X.K W (qM F (.val (.un .isN ca)))):=PT.imp (L2.pt_cmp (L2.pc_isN ha)) fun U H Q t=>qDt (iI (qBo (.inl rfl)) t)
theorem qPG(ha:PE X a (tD X.K W (den F ca))):PT X (.Compare a [.IsNot] [.Constant .none j pos'] pos) (tDT X.K W (qM F (.val (.un .notN ca)))):=PT.imp (L2.pt_cmp (L2.pc_notN ha)) fun U H Q t=>qC2 (iI (qBo (.inr rfl)) t)
end
section
variable {X:Cx}{F:Nat->List D->M D}{B:Nat}{W:WX}
theorem PS.nox{st:Stmt}(h:PS X.nox st t):PS X st t:=fun pins s U H D I hw=>
 wpAny_mono (h pins s U H D (I.wish _) hw) (fun _ _ q=>q.unwish) fun _ _ z=>False.elim z
theorem qIV(hc:PT X.nox c (tDT X.K WF (qM F cc)))(hb:PSs X.nox body (tDS X.K WF (qB F B cb))) :
  PS X (.While c body [] pos) (tDS X.K W (qB F B (.whil cc cb))):=PS.imp (PS.nox (L2.ps_while PassesOwn.never hc hb)) fun E U H q=>by
 obtain ⟨Y,env,h,s,r,p⟩:=q;dsimp only[qB] at p;refine⟨fun m U' H'=>∃ Y' env' h',RepS X.K Y' H' env' U'/\RepH X.K Y' h' H'/\PostS X.K W E Y' H' (kH (qM F cc) (qB F B cb) m env' h'),⟨B,Y,env,h,s,r,p⟩,?_⟩
 rintro m U' H' ⟨Y',env',h',s',r',p'⟩
 cases m with
 |zero=>cases p'
 |succ m=>
  rw[kH] at p';refine⟨Y',env',h',s',r',?_⟩;cases q:qM F cc env' h' with
  |ok k g=>
   rw[q] at p';intro Y1 H1 e1 r1;have q1:=PostS.mono p' e1;cases k with
   |true=>
    refine L2.iteT ⟨fun U2 H2=>∃ Y2 env2 h2,RepS X.K Y2 H2 env2 U2/\RepH X.K Y2 h2 H2/\PostS X.K W E Y2 H2 (kH (qM F cc) (qB F B cb) m env2 h2),fun U2 H2 z=>⟨m,Nat.lt_succ_self _,z⟩,?_⟩
    exact⟨Y1,env',g,s'.mono e1,r1,PostS.turn q1 fun Y2 H2 env2 h2 st e2 r2 s2 p2=>⟨Y2,env2,h2,s2,r2,p2⟩⟩
   |false=>exact L2.iteF (q1 Y1 H1 U' (Step.refl _ _) r1 (s'.mono e1))
  |exc _ _=>rw[q] at p';cases p'
  |bad=>rw[q] at p';cases p'
theorem qPH(ha:PT X a (tDT X.K W (qM F ca))):PT X (.UnaryOp .Not a pos) (tDT X.K W (qM F (.not ca))):=PT.imp (L2.pt_not ha) fun U H Q t=>by
 obtain ⟨Y,env,h,s,r,p⟩:=t;dsimp only[qM] at p
 exact⟨Y,env,h,s,r,Post.bind p fun Y1 h1 k H1 e1 r1 q=>Post.ret q r1⟩
theorem qPC(ha:PT X a (tDT X.K W (qM F ca)))(hb:L2.PW X (.BoolOp .And (b::rest) pos) (tDT X.K W (qM F cb))):L2.PW X (.BoolOp .And (a::b::rest) pos) (tDT X.K W (qM F (.and ca cb))):=fun wh pins s U H Q I t=>
 L2.pw_and ha hb wh pins s U H Q I (by
  obtain ⟨Y,env,h,s,r,p⟩:=t;dsimp only[qM] at p;refine⟨Y,env,h,s,r,Post.bind p fun Y1 h1 k H1 e1 r1 q=>?_⟩;cases k with
  |true=>exact L2.iteT ⟨Y1,env,h1,s.mono e1,r1,q⟩
  |false=>exact L2.iteF (Post.ret q r1))
theorem qPB(ha:PT X a (tDT X.K W (qM F ca)))(hb:L2.PW X (.BoolOp .Or (b::rest) pos) (tDT X.K W (qM F cb))):L2.PW X (.BoolOp .Or (a::b::rest) pos) (tDT X.K W (qM F (.or ca cb))):=fun wh pins s U H Q I t=>
 L2.pw_or ha hb wh pins s U H Q I (by
  obtain ⟨Y,env,h,s,r,p⟩:=t;dsimp only[qM] at p;refine⟨Y,env,h,s,r,Post.bind p fun Y1 h1 k H1 e1 r1 q=>?_⟩;cases k with
  |true=>exact L2.iteT (Post.ret q r1)
  |false=>exact L2.iteF ⟨Y1,env,h1,s.mono e1,r1,q⟩)
end
open PySem PySem.Spec PyProof.Rows PySem.SeqAt
def kD(f:D->D->Option Bool)(xs ys:List D)(j:Nat):Bool:=match xs[j]?,ys[j]? with
 |some x,some y=>(f x y).getD false
 |_,_=>false
theorem gB:∀ {xs ys:List D} {b:Bool},eqW f xs ys=some b ->
  (∀ j x y,xs[j]?=some x->ys[j]?=some y->f x y=some (kD f xs ys j))/\b=((List.range (min xs.length ys.length)).all (kD f xs ys)&&(xs.length == ys.length))
 | [],[],b,e=>by
  cases e
  exact⟨fun j x y h=>by simp at h,rfl⟩
 | [],y::ys,b,e=>by
  cases e
  exact⟨fun j x y h=>by simp at h,by simp⟩
 |x::xs,[],b,e=>by
  cases e
  exact⟨fun j x y _ h=>by simp at h,by simp⟩
 |x::xs,y::ys,b,e=>by
  unfold eqW at e;cases e1:f x y with
  |none=>rw[e1] at e;cases e
  |some c=>
   cases e2:eqW f xs ys with
   |none=>rw[e1,e2] at e;cases e
   |some d=>
    rw[e1,e2] at e;cases e;obtain ⟨h1,h2⟩:=gB e2;refine⟨fun j x' y' hx hy=>?_,?_⟩
    ·cases j with
     |zero=>cases hx;cases hy;show f x y=some ((f x y).getD false);rw[e1];rfl
     |succ j=>exact h1 j x' y' (by simpa using hx) (by simpa using hy)
    ·rw[h2]
     have e3:kD f (x::xs) (y::ys) 0=c:=by
      show (f x y).getD false=c;rw[e1];rfl
     have e4:∀ j,kD f (x::xs) (y::ys) (j+1)=kD f xs ys j:=fun j=>by
      unfold kD;simp
     have e5:min (x::xs).length (y::ys).length=min xs.length ys.length+1:=by simp
     rw[e5,List.range_succ_eq_map,List.all_cons,e3,List.all_map];have e6:(kD f (x::xs) (y::ys) ∘ Nat.succ)=kD f xs ys:=funext e4;rw[e6];simp[Bool.and_assoc]
section
variable {X:Cx}{pins:List (Addr × Obj)}{U:L2.St}{H:Hp}{s:Shared}{Y:List Addr}{h:AH}
theorem qDz(h:RepV X.K Y H y .non):y=.non:=by
 cases y with
 |non=>rfl
 |tup xs=>obtain ⟨_,_,z,_⟩:=h;cases z
 |ref i=>obtain ⟨_,_,z⟩:=h;cases z
 |_=>cases h
theorem qD1(h:RepV X.K Y H y (.bl c)):y=.bl c:=by
 cases y with
 |bl d=>cases h;rfl
 |tup xs=>obtain ⟨_,_,z,_⟩:=h;cases z
 |ref i=>obtain ⟨_,_,z⟩:=h;cases z
 |_=>cases h
theorem qD0(h:RepV X.K Y H y (.int c)):y=.int c:=by
 cases y with
 |int d=>cases h;rfl
 |tup xs=>obtain ⟨_,_,z,_⟩:=h;cases z
 |ref i=>obtain ⟨_,_,z⟩:=h;cases z
 |_=>cases h
theorem qDy(h:RepV X.K Y H y (.str ⟨c.toArray⟩)):y=.str c:=by
 cases y with
 |str d=>
  have z:V.str ⟨c.toArray⟩=V.str ⟨d.toArray⟩:=h;have z:c.toArray=d.toArray:=by injection z with z;injection z
  have z:c=d:=by simpa using congrArg Array.toList z
  rw[z]
 |tup xs=>obtain ⟨_,_,z,_⟩:=h;cases z
 |ref i=>obtain ⟨_,_,z⟩:=h;cases z
 |_=>cases h
theorem dY(h:RepV X.K Y H y (.ref a)):(∃ ys vs,y=.tup ys/\SqT X.K H a vs/\RepL X.K Y H ys vs)\/∃ j,y=.ref j/\Y[j]?=some a:=by
 cases y with
 |tup xs=>obtain ⟨_,vs,z,h1,h2⟩:=h;cases z;exact .inl ⟨xs,vs,rfl,h1,h2⟩
 |ref i=>obtain ⟨_,h1,z⟩:=h;cases z;exact .inr ⟨i,rfl,h1⟩
 |_=>cases h
theorem qJD(h:RepV X.K Y H x v)(r:RelV v vv):vv=.none\/(∃ c,vv=.bool c)\/(∃ c t,vv=.int c t)\/(∃ c t,vv=.str c t)\/∃ c,vv=.ref c:=by
 cases x with
 |non=>cases h;exact .inl r
 |bl c=>cases h;exact .inr (.inl ⟨c,r⟩)
 |int c=>cases h;obtain ⟨t,r⟩:=r;exact .inr (.inr (.inl ⟨c,t,r⟩))
 |str c=>cases h;obtain ⟨t,r⟩:=r;exact .inr (.inr (.inr (.inl ⟨_,t,r⟩)))
 |tup xs=>obtain ⟨a,_,rfl,_⟩:=h;exact .inr (.inr (.inr (.inr ⟨a,r⟩)))
 |ref i=>obtain ⟨a,_,rfl⟩:=h;exact .inr (.inr (.inr (.inr ⟨a,r⟩)))
theorem qIU(I:Inv X pins U H s)(r:RepH X.K Y h H):∀ (n:Nat) (x y:D) (b:Bool) (v:V),eqD h n x y=some b->RepV X.K Y H x v->RepV X.K Y H y v->b=true:=by
 intro n
 have rows:∀ m,(∀ (x y:D) (b:Bool) (v:V),eqD h m x y=some b->RepV X.K Y H x v->RepV X.K Y H y v->b=true)->∀ (xs ys:List D) (b:Bool) (vs:List V),eqW (eqD h m) xs ys=some b->RepL X.K Y H xs vs->RepL X.K Y H ys vs->b=true:=by
  intro m ih xs
  induction xs with
  |nil=>
   intro ys b vs e hx hy;cases hx;cases ys with
   |nil=>cases e;rfl
   |cons y ys=>obtain ⟨_,_,z,_⟩:=hy;cases z
  |cons x xs ihx=>
   intro ys b vs e hx hy;obtain ⟨v,rest,rfl,h1,h2⟩:=hx;cases ys with
   |nil=>cases hy
   |cons y ys=>
    obtain ⟨v',rest',z,k1,k2⟩:=hy;cases z;unfold eqW at e;cases e1:eqD h m x y with
    |none=>rw[e1] at e;cases e
    |some c=>
     cases e2:eqW (eqD h m) xs ys with
     |none=>rw[e1,e2] at e;cases e
     |some d=>rw[e1,e2] at e;cases e;rw[ih x y c v e1 h1 k1,ihx ys d rest e2 h2 k2];rfl
 induction n with
 |zero=>
  intro x y b v e hx hy;cases x with
  |non=>cases hx;cases qDz hy;cases e;rfl
  |bl c=>cases hx;cases qD1 hy;cases e;simp
  |int c=>cases hx;cases qD0 hy;cases e;simp
  |str c=>cases hx;cases qDy hy;cases e;simp
  |tup xs=>
   obtain ⟨a,vs,rfl,k1,k2⟩:=hx;rcases dY hy with⟨ys,ws,rfl,k3,k4⟩ | ⟨j,rfl,k3⟩
   ·cases e
   ·cases e
  |ref i=>
   obtain ⟨a,k1,rfl⟩:=hx;rcases dY hy with⟨ys,ws,rfl,k3,k4⟩ | ⟨j,rfl,k3⟩
   ·cases e
   ·cases e
 |succ n ih=>
  intro x y b v e hx hy;cases x with
  |non=>cases hx;cases qDz hy;cases e;rfl
  |bl c=>cases hx;cases qD1 hy;cases e;simp
  |int c=>cases hx;cases qD0 hy;cases e;simp
  |str c=>cases hx;cases qDy hy;cases e;simp
  |tup xs=>
   obtain ⟨a,vs,rfl,k1,k2⟩:=hx;rcases dY hy with⟨ys,ws,rfl,k3,k4⟩ | ⟨j,rfl,k3⟩
   ·have:=I.tuple_inj k1 k3
    subst this;exact rows n ih xs ys b vs e k2 k4
   ·cases e
  |ref i=>
   obtain ⟨a,k1,rfl⟩:=hx;rcases dY hy with⟨ys,ws,rfl,k3,k4⟩ | ⟨j,rfl,k3⟩
   ·cases e
   ·have e:(match qC h i,qC h j with | some xs,some ys=>eqW (eqD h n) xs ys | _,_=>none)=some b:=e;cases q:qC h i with
    |none=>rw[q] at e;cases e
    |some xs=>
     cases q2:qC h j with
     |none=>rw[q,q2] at e;cases e
     |some ys=>
      rw[q,q2] at e;obtain ⟨a1,vs,m1,m2,m3⟩:=r.list q;obtain ⟨a2,ws,n1,n2,n3⟩:=r.list q2;rw[k1] at m1;rw[k3] at n1;cases m1;cases n1
      have:=I.list_inj m2 n2
      subst this;exact rows n ih xs ys b vs e m3 n3
theorem qO3(I:Inv X pins U H s)(r:RepH X.K Y h H):∀ (m:Nat),(∀ (x y:D) (b:Bool) (v u:V) (vv uu:Value) (A:Around),eqD h m x y=some b->RepV X.K Y H x v->RepV X.K Y H y u->RelV v vv->RelV u uu->A.units+m<cLine->RcAt A s vv uu b) ->
  ∀ (x y:D) (b:Bool) (v u:V) (vv uu:Value) (A:Around),eqD h m x y=some b->RepV X.K Y H x v->RepV X.K Y H y u->RelV v vv->RelV u uu->A.units+m<cLine->EqAt A s vv uu b:=by
 intro m ih x y b v u vv uu A e hx hy rv ru hu prog w E Q hq;unfold eqBool;refine wpAny_holding ?_;refine wpAny_ite_split (fun hab=>?_) (fun _=>?_)
 ·have hab:=eq_of_beq hab;subst hab
  have:=rv.inj ru
  subst this
  have:=qIU I r m x y b v e hx hy
  subst this;exact wpAny_bind (wpAny_rule (wpAny_pure hq))
 ·have go:=ih x y b v u vv uu A e hx hy rv ru hu prog w E (fun c s'=>wpAny (model prog w) A (truthOfDropped c) Q E s') (wpAny_truthy_bool hq);rcases qJD hx rv with rfl | ⟨c,rfl⟩ | ⟨c,t,rfl⟩ | ⟨c,t,rfl⟩ | ⟨c,rfl⟩ <;> exact wpAny_bind go
theorem cC(I:Inv X pins U H s)(r:RepH X.K Y h H):∀ (m:Nat) (A:Around),(∀ (x y:D) (b:Bool) (v u:V) (vv uu:Value) (A:Around),eqD h m x y=some b->RepV X.K Y H x v->RepV X.K Y H y u->RelV v vv->RelV u uu->A.units+m<cLine->RcAt A s vv uu b)->A.units+(m+1)<cLine ->
  ∀ (xs ys:List D) (b:Bool) (vs us:List V) (its its2:List Value),eqW (eqD h m) xs ys=some b->RepL X.K Y H xs vs->RepL X.K Y H ys us->Vals vs its->Vals us its2 ->
   (∀ j (h1:j<its.toArray.size) (h2:j<its2.toArray.size),EqAt A.in1 s its.toArray[j] its2.toArray[j] (kD (eqD h m) xs ys j)):=by
 intro m A ih hu xs ys b vs us its its2 e hx hy rv ru j h1 h2;obtain ⟨k1,_⟩:=gB e;have l1:=rv.length;have l2:=ru.length;have l3:=hx.length;have l4:=hy.length;rw[List.size_toArray] at h1 h2;have q1:xs[j]?=some (xs[j]'(by lia)):=by simp
 have q2:ys[j]?=some (ys[j]'(by lia)):=by simp
 obtain ⟨w1,p1,p2⟩:=hx.get q1;obtain ⟨w2,p3,p4⟩:=hy.get q2;obtain ⟨u1,p5,p6⟩:=rv.get p1;obtain ⟨u2,p7,p8⟩:=ru.get p3
 have f1:its.toArray[j]'(by simpa using h1)=u1:=by
  have:its[j]?=some (its[j]'h1):=by simp
  rw[this] at p5;simpa using p5
 have f2:its2.toArray[j]'(by simpa using h2)=u2:=by
  have:its2[j]?=some (its2[j]'h2):=by simp
  rw[this] at p7;simpa using p7
 rw[f1,f2];exact qO3 I r m ih _ _ _ w1 w2 u1 u2 A.in1 (k1 j _ _ q1 q2) p2 p4 p6 p8 (by show A.units+1+m<cLine;lia)
theorem nM(I:Inv X pins U H s)(r:RepH X.K Y h H):∀ (n:Nat) (x y:D) (b:Bool) (v u:V) (vv uu:Value) (A:Around),eqD h n x y=some b->RepV X.K Y H x v->RepV X.K Y H y u->RelV v vv->RelV u uu->A.units+n<cLine->RcAt A s vv uu b:=by
 intro n
 have tups:∀ {l b:Addr} {vs us:List V},SqT X.K H l vs->SqT X.K H b us->∃ its its2:List Value,Vals vs its/\Vals us its2/\s.heap.IsTuple l its.toArray/\s.heap.IsTuple b its2.toArray:=fun h1 h2=>by
  obtain ⟨its,k1,k2,_⟩:=I.tuple h1;obtain ⟨its2,k3,k4,_⟩:=I.tuple h2
  exact⟨its,its2,k1,k3,k2,k4⟩
 have strEq:∀ {A:Around} (x y:Tx) (t t':Tok),RcAt A s (.str ⟨x.toArray⟩ t) (.str ⟨y.toArray⟩ t') (x == y):=fun x y t t'=>by
  have e:(x == y)=((⟨x.toArray⟩:Str) == (⟨y.toArray⟩:Str)):=by
   rw[Bool.eq_iff_iff];simp
  rw[e];exact RcAt.str_str _ _ _ _
 induction n with
 |zero=>
  intro x y b v u vv uu A e hx hy rv ru hu;have hu0:A.units<cLine:=by lia
  cases x with
  |non=>
   cases y with
   |non=>cases hx;cases rv;cases hy;cases ru;cases e;exact RcAt.none_none
   |_=>cases e
  |bl x=>
   cases y with
   |bl y=>cases hx;cases rv;cases hy;cases ru;cases e;exact RcAt.bool_bool _ _
   |int y=>cases hx;cases rv;cases hy;obtain ⟨t',rfl⟩:=ru;cases e;exact RcAt.bool_int _ _ _
   |_=>cases e
  |int x=>
   cases y with
   |bl y=>cases hx;obtain ⟨t,rfl⟩:=rv;cases hy;cases ru;cases e;exact RcAt.int_bool _ _ _
   |int y=>cases hx;obtain ⟨t,rfl⟩:=rv;cases hy;obtain ⟨t',rfl⟩:=ru;cases e;exact RcAt.int_int _ _ _ _
   |_=>cases e
  |str x=>
   cases y with
   |str y=>cases hx;obtain ⟨t,rfl⟩:=rv;cases hy;obtain ⟨t',rfl⟩:=ru;cases e;exact strEq _ _ _ _
   |_=>cases e
  |tup x=>
   cases y with
   |_=>cases e
  |ref x=>
   cases y with
   |_=>cases e
 |succ n ih=>
  intro x y b v u vv uu A e hx hy rv ru hu;have hu0:A.units<cLine:=by lia
  have tt:∀ {a a2:Addr} {vs us:List V} {xs ys:List D},SqT X.K H a vs->SqT X.K H a2 us->RepL X.K Y H xs vs->RepL X.K Y H ys us->eqW (eqD h n) xs ys=some b->RcAt A s (.ref a) (.ref a2) b:=fun k1 m1 k2 m2 e=>by
   obtain ⟨its,its2,q1,q2,q3,q4⟩:=tups k1 m1
   have:=RcAt.tuples (e:=kD (eqD h n) _ _) q3 q4 hu0 (cC I r n A ih (by lia) _ _ b _ _ its its2 e k2 m2 q1 q2)
   obtain ⟨_,eb⟩:=gB e;rw[eb];have l1:=q1.length;have l2:=q2.length;have l3:=k2.length;have l4:=m2.length;rw[List.size_toArray,List.size_toArray,<- l1,<- l2,l3,l4] at this;exact this
  have ll:∀ {i j:Nat} {a a2:Addr},Y[i]?=some a->Y[j]?=some a2->(match qC h i,qC h j with | some xs,some ys=>eqW (eqD h n) xs ys | _,_=>none)=some b->RcAt A s (.ref a) (.ref a2) b:=fun {i j a a2} k1 m1 e=>by
   cases q:qC h i with
   |none=>rw[q] at e;cases e
   |some xs=>
    cases q2:qC h j with
    |none=>rw[q,q2] at e;cases e
    |some ys=>
     rw[q,q2] at e;obtain ⟨a1,vs,p1,p2,p3⟩:=r.list q;obtain ⟨a2',us,o1,o2,o3⟩:=r.list q2;rw[k1] at p1;rw[m1] at o1;cases p1;cases o1;obtain ⟨its,r1,pl1,_⟩:=I.list p2;obtain ⟨its2,r2,pl2,_⟩:=I.list o2;have l1:=r1.length;have l2:=r2.length;have l3:=p3.length;have l4:=o3.length;obtain ⟨_,eb⟩:=gB e;rw[eb]
     by_cases hsz:xs.length=ys.length
     ·have:=RcAt.lists (e:=kD (eqD h n) xs ys) pl1.isList pl2.isList (by rw[List.size_toArray,List.size_toArray];lia) hu0 (cC I r n A ih (by lia) _ _ b _ _ its its2 e p3 o3 r1 r2)
      rw[List.size_toArray,<- l1,l3] at this;rw[<- hsz,Nat.min_self,beq_self_eq_true,Bool.and_true];exact this
     ·have e2:(xs.length == ys.length)=false:=by simpa using hsz
      rw[e2,Bool.and_false];exact RcAt.lists_lengths pl1.isList pl2.isList (by rw[List.size_toArray,List.size_toArray,<- l1,<- l2,l3,l4];simpa using hsz) hu0
  cases x with
  |non=>
   cases y with
   |non=>cases hx;cases rv;cases hy;cases ru;cases e;exact RcAt.none_none
   |_=>cases e
  |bl x=>
   cases y with
   |bl y=>cases hx;cases rv;cases hy;cases ru;cases e;exact RcAt.bool_bool _ _
   |int y=>cases hx;cases rv;cases hy;obtain ⟨t',rfl⟩:=ru;cases e;exact RcAt.bool_int _ _ _
   |_=>cases e
  |int x=>
   cases y with
   |bl y=>cases hx;obtain ⟨t,rfl⟩:=rv;cases hy;cases ru;cases e;exact RcAt.int_bool _ _ _
   |int y=>cases hx;obtain ⟨t,rfl⟩:=rv;cases hy;obtain ⟨t',rfl⟩:=ru;cases e;exact RcAt.int_int _ _ _ _
   |_=>cases e
  |str x=>
   cases y with
   |str y=>cases hx;obtain ⟨t,rfl⟩:=rv;cases hy;obtain ⟨t',rfl⟩:=ru;cases e;exact strEq _ _ _ _
   |_=>cases e
  |tup x=>
   cases y with
   |tup y=>obtain ⟨a,vs,rfl,k1,k2⟩:=hx;cases rv;obtain ⟨a2,us,rfl,m1,m2⟩:=hy;cases ru;exact tt k1 m1 k2 m2 e
   |_=>cases e
  |ref x=>
   cases y with
   |ref y=>obtain ⟨a,k1,rfl⟩:=hx;cases rv;obtain ⟨a2,m1,rfl⟩:=hy;cases ru;exact ll k1 m1 e
   |_=>cases e
theorem qLE(I:Inv X pins U H s)(r:RepH X.K Y h H):∀ (n:Nat) (x y:D) (b:Bool) (v u:V) (vv uu:Value) (A:Around),eqD h (n+1) x y=some b->RepV X.K Y H x v->RepV X.K Y H y u->RelV v vv->RelV u uu->A.units+(n+1)<cLine->RcNeAt A s vv uu (!b):=by
 intro n
 have tups:∀ {l b:Addr} {vs us:List V},SqT X.K H l vs->SqT X.K H b us->∃ its its2:List Value,Vals vs its/\Vals us its2/\s.heap.IsTuple l its.toArray/\s.heap.IsTuple b its2.toArray:=fun h1 h2=>by
  obtain ⟨its,k1,k2,_⟩:=I.tuple h1;obtain ⟨its2,k3,k4,_⟩:=I.tuple h2
  exact⟨its,its2,k1,k3,k2,k4⟩
 have strEq:∀ {A:Around} (x y:Tx) (t t':Tok),RcNeAt A s (.str ⟨x.toArray⟩ t) (.str ⟨y.toArray⟩ t') (!(x == y)):=fun x y t t'=>by
  have e:(x == y)=((⟨x.toArray⟩:Str) == (⟨y.toArray⟩:Str)):=by
   rw[Bool.eq_iff_iff];simp
  rw[e];exact RcNeAt.str_str _ _ _ _
 intro x y b v u vv uu A e hx hy rv ru hu;have hu0:A.units<cLine:=by lia
 have tt:∀ {a a2:Addr} {vs us:List V} {xs ys:List D},SqT X.K H a vs->SqT X.K H a2 us->RepL X.K Y H xs vs->RepL X.K Y H ys us->eqW (eqD h n) xs ys=some b->RcNeAt A s (.ref a) (.ref a2) (!b):=fun k1 m1 k2 m2 e=>by
  obtain ⟨its,its2,q1,q2,q3,q4⟩:=tups k1 m1
  have:=RcNeAt.tuples (e:=kD (eqD h n) _ _) q3 q4 hu0 (cC I r n A (nM I r n) (by lia) _ _ b _ _ its its2 e k2 m2 q1 q2)
  obtain ⟨_,eb⟩:=gB e;rw[eb];have l1:=q1.length;have l2:=q2.length;have l3:=k2.length;have l4:=m2.length;rw[List.size_toArray,List.size_toArray,<- l1,<- l2,l3,l4] at this;exact this
 have ll:∀ {i j:Nat} {a a2:Addr},Y[i]?=some a->Y[j]?=some a2->(match qC h i,qC h j with | some xs,some ys=>eqW (eqD h n) xs ys | _,_=>none)=some b->RcNeAt A s (.ref a) (.ref a2) (!b):=fun {i j a a2} k1 m1 e=>by
  cases q:qC h i with
  |none=>rw[q] at e;cases e
  |some xs=>
   cases q2:qC h j with
   |none=>rw[q,q2] at e;cases e
   |some ys=>
    rw[q,q2] at e;obtain ⟨a1,vs,p1,p2,p3⟩:=r.list q;obtain ⟨a2',us,o1,o2,o3⟩:=r.list q2;rw[k1] at p1;rw[m1] at o1;cases p1;cases o1;obtain ⟨its,r1,pl1,_⟩:=I.list p2;obtain ⟨its2,r2,pl2,_⟩:=I.list o2;have l1:=r1.length;have l2:=r2.length;have l3:=p3.length;have l4:=o3.length;obtain ⟨_,eb⟩:=gB e;rw[eb]
    by_cases hsz:xs.length=ys.length
    ·have:=RcNeAt.lists (e:=kD (eqD h n) xs ys) pl1.isList pl2.isList (by rw[List.size_toArray,List.size_toArray];lia) hu0 (cC I r n A (nM I r n) (by lia) _ _ b _ _ its its2 e p3 o3 r1 r2)
     rw[List.size_toArray,<- l1,l3] at this;rw[<- hsz,Nat.min_self,beq_self_eq_true,Bool.and_true];exact this
    ·have e2:(xs.length == ys.length)=false:=by simpa using hsz
     rw[e2,Bool.and_false];exact RcNeAt.lists_lengths pl1.isList pl2.isList (by rw[List.size_toArray,List.size_toArray,<- l1,<- l2,l3,l4];simpa using hsz) hu0
 cases x with
 |non=>
  cases y with
  |non=>cases hx;cases rv;cases hy;cases ru;cases e;exact RcNeAt.none_none
  |_=>cases e
 |bl x=>
  cases y with
  |bl y=>cases hx;cases rv;cases hy;cases ru;cases e;exact RcNeAt.bool_bool _ _
  |int y=>cases hx;cases rv;cases hy;obtain ⟨t',rfl⟩:=ru;cases e;exact RcNeAt.bool_int _ _ _
  |_=>cases e
 |int x=>
  cases y with
  |bl y=>cases hx;obtain ⟨t,rfl⟩:=rv;cases hy;cases ru;cases e;exact RcNeAt.int_bool _ _ _
  |int y=>cases hx;obtain ⟨t,rfl⟩:=rv;cases hy;obtain ⟨t',rfl⟩:=ru;cases e;exact RcNeAt.int_int _ _ _ _
  |_=>cases e
 |str x=>
  cases y with
  |str y=>cases hx;obtain ⟨t,rfl⟩:=rv;cases hy;obtain ⟨t',rfl⟩:=ru;cases e;exact strEq _ _ _ _
  |_=>cases e
 |tup x=>
  cases y with
  |tup y=>obtain ⟨a,vs,rfl,k1,k2⟩:=hx;cases rv;obtain ⟨a2,us,rfl,m1,m2⟩:=hy;cases ru;exact tt k1 m1 k2 m2 e
  |_=>cases e
 |ref x=>
  cases y with
  |ref y=>obtain ⟨a,k1,rfl⟩:=hx;cases rv;obtain ⟨a2,m1,rfl⟩:=hy;cases ru;exact ll k1 m1 e
  |_=>cases e
end
section
variable {X:Cx}
theorem qJX(hu:X.A.units+64<cLine):OpR X (compareOp .Eq) (rB X.K .eq):=by
 rintro pins s U H x y v u Q I rx ry ⟨w,Y,h,d,e,r,hd,he,p⟩
 have p:PostV X.K w Q Y H (match eqD h 40 d e with | some b=>.ok (.bl b) h | none=>.bad):=p;cases q:eqD h 40 d e with
 |none=>rw[q] at p;cases p
 |some b=>rw[q] at p;exact nM I r 40 d e b x y v u X.A q hd he rx ry (by lia) X.prog X.w X.xe _ ⟨.bl b,H,I,rfl,PostV.now p r rfl⟩
theorem qJO(hu:X.A.units+64<cLine):OpR X (compareOp .NotEq) (rB X.K .ne):=by
 rintro pins s U H x y v u Q I rx ry ⟨w,Y,h,d,e,r,hd,he,p⟩
 have p:PostV X.K w Q Y H (match eqD h 40 d e with | some b=>.ok (.bl (!b)) h | none=>.bad):=p;cases q:eqD h 40 d e with
 |none=>rw[q] at p;cases p
 |some b=>rw[q] at p;exact qLE I r 39 d e b x y v u X.A q hd he rx ry (by lia) X.prog X.w X.xe _ ⟨.bl (!b),H,I,rfl,PostV.now p r rfl⟩
end
open PySem PySem.Spec PyProof.Rows PySem.StrLaws Builtin.Str
theorem aW(n d:Nat)(o:Option Int):qZ n d o=HT.sIx n d o:=by cases o <;> rfl
theorem qEt(xs:List V)(lo hi:Option Int):L2.cutV xs lo hi=qO xs lo hi:=by
 unfold L2.cutV qO;rw[aW,aW]
theorem qEv(n d:Nat)(hd:d<=n)(o:Option Int):qZ n d o<=n:=by rw[aW];exact HT.sIx_le n d hd o
theorem RepL.cut{K:PySem.W.Frag}(l:RepL K Y H xs vs)(lo hi:Option Int):RepL K Y H (qO xs lo hi) (qO vs lo hi):=by
 unfold qO;rw[l.length];exact (l.drop _).take _
theorem qDn(lo hi:Option Int)(n:Nat):strSliceIndices lo hi 1 n=(List.range (qZ n n hi-qZ n 0 lo)).map fun k=>qZ n 0 lo+k:=by
 have c1:(match lo with | none=>(0:Int) | some i=>max 0 (min (if i<0 then i+(n:Int) else i) (n:Int)))=(qZ n 0 lo:Int):=by
  cases lo with
  |none=>rfl
  |some v=>unfold qZ;simp only;split <;> lia
 have c2:(match hi with | none=>(n:Int) | some i=>max 0 (min (if i<0 then i+(n:Int) else i) (n:Int)))=(qZ n n hi:Int):=by
  cases hi with
  |none=>rfl
  |some v=>unfold qZ;simp only;split <;> lia
 have e:strSliceIndices lo hi 1 n=sliceRange (qZ n 0 lo:Int) (qZ n n hi:Int) 1:=by
  rw[<- c1,<- c2];unfold strSliceIndices;cases lo <;> cases hi <;> simp
 rw[e];unfold sliceRange;simp only[show (1:Int) > 0 from by decide,if_true]
 by_cases hlt:(qZ n 0 lo:Int)<(qZ n n hi:Int)
 ·rw[if_pos hlt]
  have e3:(((qZ n n hi:Int)-(qZ n 0 lo:Int)+1-1) / 1).toNat=qZ n n hi-qZ n 0 lo:=by
   rw[Int.ediv_one]
   lia
  rw[e3];refine List.map_congr_left fun k _=>?_
  lia
 ·rw[if_neg hlt]
  have:qZ n n hi-qZ n 0 lo=0:=by lia
  rw[this];rfl
theorem qIF(x:Tx)(lo hi:Option Int):Txt.slice ⟨x.toArray⟩ lo hi=⟨(qO x lo hi).toArray⟩:=by
 have hl:(⟨x.toArray⟩:Str).length=x.length:=zY x;have a1:=qEv x.length 0 (Nat.zero_le _) lo;have a2:=qEv x.length x.length (Nat.le_refl _) hi
 have pk:((strSliceIndices lo hi 1 (⟨x.toArray⟩:Str).length).filterMap ((⟨x.toArray⟩:Str).cps[·]?))=qO x lo hi:=by
  rw[hl,qDn];unfold qO
  by_cases hc:qZ x.length 0 lo<=qZ x.length x.length hi
  ·have:=picks x (qZ x.length x.length hi-qZ x.length 0 lo) (qZ x.length 0 lo) (by lia)
   simpa using this
  ·have:qZ x.length x.length hi-qZ x.length 0 lo=0:=by lia
   rw[this];simp
 unfold Txt.slice;split
 ·rename_i hc;have hc':(strSliceIndices lo hi 1 (⟨x.toArray⟩:Str).length).length=x.length:=by simpa [hl] using hc
  rw[hl,qDn,List.length_map,List.length_range] at hc'
  have e:qO x lo hi=x:=by
   unfold qO;have z:qZ x.length 0 lo=0:=by lia
   rw[z,List.drop_zero];exact List.take_of_length_le (by lia)
  rw[e]
 ·rw[pk]
section
open HT
variable {prog:Program}{w:World}{A:Around}{E:Value->Shared->Prop}{s:Shared}
theorem qHS{vl:Value}{lo:Option Int}(ht:IsTup s.heap t items)(hs:s.heap.IsSliceOf sl vl vu .none)(pl:IsPart vl lo)(pu:IsPart vu hi)
  (hw:sIx items.size 0 lo=0/\sIx items.size items.size hi=items.size) (h:Q (.ref t) s):wpAny (model prog w) A (getItem (.ref t) (.ref sl)) Q E s:=by
 obtain ⟨os,hos,hcs,hds⟩:=id hs;have hTs:s.TypeIs (.ref sl) "slice":=⟨os,hos,hcs⟩;unfold getItem
 try with_reducible refine wpAny_holding ?_
 first | refine wpAny_bind (wpAny_pure ?_) | skip
 refine wpAny_bind (wpAny_sequenceKey ht.typeIs (by decide) ?_)
 refine wpAny_bind (wpAny_callSpecial?_slot (name:=Str.ofString "__getitem__") ht.typeIs PyProof.Rows.slot_tuple_getitem
  (wpAny_call_entry PyProof.Rows.slot_tuple_getitem ht.typeIs entry_tuple_getitem ?_ (args_tuple_getitem _ _)))
 show wpAny _ _ (Builtin.Tuple.tupleItemsOf (.ref t) >>= _) _ _ s;refine wpAny_bind (tupleItemsOf_ ht ?_);refine wpAny_bind (wpAny_typeOf hTs ?_);rw[if_pos (by decide)];refine wpAny_bind (qCG hs pl pu ?_)
 have hno:((((sIx items.size 0 lo:Nat):Int) == 0&&(1:Int) == 1&&(sIx items.size items.size hi-sIx items.size 0 lo) == items.size)=true):=by
  rw[hw.1,hw.2];simp
 show wpAny _ _ (if (((sIx items.size 0 lo:Nat):Int) == 0&&(1:Int) == 1&&(sIx items.size items.size hi-sIx items.size 0 lo) == items.size)=true then _ else _) _ _ s;rw[if_pos hno];refine wpAny_bind ?_;unfold Builtin.Tuple.tupleIsExact;refine wpAny_bind (wpAny_typeOf ht.typeIs (wpAny_pure ?_));rw[if_pos (by decide)];exact wpAny_bind (wpAny_rule (wpAny_pure ⟨_,rfl,wpAny_pure h⟩))
end
section
variable {X:Cx}{F:Nat->List D->M D}{W:WX}
theorem qCs(p:IsPart v o):∃ q:Option (Int × Tok),v=partValue q/\q.map (·.1)=o:=by
 cases p with
 |none=>exact⟨none,rfl,rfl⟩
 |int i t=>exact⟨some (i,t),rfl,rfl⟩
def rSl(K:PySem.W.Frag):V->Option Int->Option Int->Hp->VK->Prop:=fun x lo hi H Q=>∃ (w:W1),∃ Y h d,RepH K Y h H/\RepV K Y H d x/\PostV K w Q Y H (slD d lo hi h)
theorem qII:SlR X (rSl X.K):=by
 rintro pins s U H x v vl vu lo hi sl Q I rx hs pl pu ⟨w,Y,h,d,r,hd,p⟩
 unfold slD at p;cases d with
 |str x=>
  cases hd;obtain ⟨t,rfl⟩:=rx;obtain ⟨hz,p⟩:=PostV.ite (c:=x.length<=16777216) p;obtain ⟨ql,rfl,rfl⟩:=qCs pl;obtain ⟨qu,rfl,rfl⟩:=qCs pu;refine⟨"str",_,F.slot_str_getitem.lookup,typeIs_str _ _ _,wpAny_getItem_str_slice (l:=ql) (u:=qu) (st:=none) hs rfl ?_⟩;refine post_val_or_str ?_;show (Txt.slice ⟨x.toArray⟩ (ql.map (·.1)) (qu.map (·.1))).length<=sizeLine/\∀ t' k,EP X pins U Q (.str (Txt.slice ⟨x.toArray⟩ (ql.map (·.1)) (qu.map (·.1))) t') { s with toks:=k };refine⟨Nat.le_trans (Txt.slice_le _ _ _) (by rw[zY,zX];exact hz),fun t' k=>?_⟩;rw[qIF]
  exact⟨.str ⟨(qO x (ql.map fun z:Int × Tok=>z.1) (qu.map fun z:Int × Tok=>z.1)).toArray⟩,H,I.tok k,⟨t',rfl⟩,PostV.now p r rfl⟩
 |tup xs=>
  obtain ⟨a,vs,rfl,h1,h2⟩:=hd
  by_cases hw:HT.sIx vs.length 0 lo=0/\HT.sIx vs.length vs.length hi=vs.length
  ·cases rx;obtain ⟨its,rv,ht,hz⟩:=I.tuple h1;refine⟨"tuple",_,PyProof.Rows.slot_tuple_getitem.lookup,ht.typeIs,qHS ht hs pl pu (by rw[List.size_toArray,<- rv.length];exact hw) ?_⟩;refine⟨.ref a,H,I,rfl,PostV.now p r ⟨a,vs,rfl,h1,?_⟩⟩
   have e:qO xs lo hi=xs:=by
    unfold qO;rw[aW,aW,<- h2.length,hw.1,hw.2,List.drop_zero,Nat.sub_zero,h2.length];exact List.take_length
   rw[e];exact h2
  ·exact L2.sl_tup pins s U H _ v vl vu lo hi sl Q I rx hs pl pu ⟨a,vs,rfl,h1,hw,by rw[qEt];exact PostV.newT p r (h2.cut lo hi)⟩
 |ref i=>
  simp only at p;cases q:qC h i with
  |none=>rw[q] at p;cases p
  |some xs=>rw[q] at p;obtain ⟨a,vs,rfl,h1,h2⟩:=r.seen q hd;exact L2.sl_list pins s U H _ v vl vu lo hi sl Q I rx hs pl pu ⟨a,vs,rfl,h1,by rw[qEt];exact (PostV.newL p r (h2.cut lo hi)).2⟩
 |_=>cases p
def tDP(K:PySem.W.Frag)(W:WX)(m:Env->M (Option Int)):TO:=fun U H Q=>∃ Y env h,RepS K Y H env U/\RepH K Y h H/\Post K (W.at U) (fun _ H' o=>Q o H') Y H (m env h)
theorem PO.imp(h:PO X o t)(i:∀ U H Q,t' U H Q->t U H Q):PO X o t':=fun pins s U H Q I q=>h pins s U H Q I (i U H Q q)
theorem qPN:PO X none (tDP X.K W (kY F .no)):=PO.imp L2.po_none fun U H Q t=>by
 obtain ⟨Y,env,h,s,r,p⟩:=t;dsimp only[kY] at p;exact Post.ret p r
theorem qPO(he:PE X e (tD X.K W (den F c))):PO X (some e) (tDP X.K W (kY F (.at c))):=PO.imp (L2.po_some he) fun U H Q t=>by
 obtain ⟨Y,env,h,s,r,p⟩:=t;dsimp only[kY] at p;refine⟨Y,env,h,s,r,Post.bind p fun Y1 h1 d H1 e1 r1 q v hv=>?_⟩;cases d with
 |int i=>cases hv;exact⟨i,rfl,Post.ret (a:=some i) q r1⟩
 |_=>cases q
theorem qPm{lo:Option Expr}(ha:PE X a (tD X.K W (den F ca)))(hl:PO X lo (tDP X.K W (kY F cl)))(hh:PO X hi (tDP X.K W (kY F ch))) :
  PE X (.Subscript a (.Slice lo hi none p2) pos) (tD X.K W (den F (.sl ca cl ch))):=PE.imp (L2.pe_slice qII ha hl hh) fun U H Q t=>by
 obtain ⟨Y,env,h,s,r,p⟩:=t;dsimp only[den] at p
 exact⟨Y,env,h,s,r,Post.bind p fun Y1 h1 d H1 e1 r1 q v hv=>⟨Y1,env,h1,s.mono e1,r1,Post.bind q fun Y2 h2 l H2 e2 r2 q2=>⟨Y2,env,h2,(s.mono e1).mono e2,r2,Post.bind q2 fun Y3 h3 u H3 e3 r3 q3=>⟨_,Y3,h3,d,r3,(hv.mono e2 _ _).mono e3 _ _,q3⟩⟩⟩⟩
end
def tyS:Ty->String
 | .int=>"int" | .str=>"str" | .bool=>"bool" | .list=>"list" | .tuple=>"tuple"
section
variable (K:PySem.W.Frag)
theorem qMk (t:Ty):PySem.W.kitOne K (.type "NoneType") (.type (tyS t))=some false:=by cases t <;> first | rfl | kernel_rfl
theorem qMn (t:Ty):PySem.W.kitOne K (.type "bool") (.type (tyS t))=some (t == .bool || t == .int):=by cases t <;> first | rfl | kernel_rfl
theorem qMm (t:Ty):PySem.W.kitOne K (.type "int") (.type (tyS t))=some (t == .int):=by cases t <;> first | rfl | kernel_rfl
theorem qMj (t:Ty):PySem.W.kitOne K (.type "str") (.type (tyS t))=some (t == .str):=by cases t <;> first | rfl | kernel_rfl
theorem qMi (t:Ty):PySem.W.kitOne K (.type "tuple") (.type (tyS t))=some (t == .tuple):=by cases t <;> first | rfl | kernel_rfl
theorem qMl (t:Ty):PySem.W.kitOne K (.type "list") (.type (tyS t))=some (t == .list):=by cases t <;> first | rfl | kernel_rfl
end
section
variable {X:Cx}{F:Nat->List D->M D}{W:WX}
theorem qNA
  (I:Inv X pins U H s) (r:RepH X.K Y h H) (hd:RepV X.K Y H d x) (rx:RelV x u) (e:kS h t d=some b) (q:∀ tk,Q (.bool b) { s with toks:=tk }) :
  wpAny (model X.prog X.w) A (call (.builtin "isinstance") [u,.type (tyS t)]) Q E s:=by
 cases d with
 |non=>cases hd;cases e;cases (show u=Value.none from rx);exact PySem.W.kia_one PySem.W.kitx_none I.kIn True.intro (qMk _ t) (fun z=>nomatch z) q
 |bl c=>cases hd;cases e;cases (show u=Value.bool c from rx);exact PySem.W.kia_one PySem.W.kitx_bool I.kIn True.intro (qMn _ t) (fun z=>nomatch z) q
 |int i=>cases hd;cases e;obtain ⟨tk,z⟩:=rx;cases z;exact PySem.W.kia_one PySem.W.kitx_int I.kIn True.intro (qMm _ t) (fun z=>nomatch z) q
 |str y=>cases hd;cases e;obtain ⟨tk,z⟩:=rx;cases z;exact PySem.W.kia_one PySem.W.kitx_str I.kIn True.intro (qMj _ t) (fun z=>nomatch z) q
 |tup ys=>obtain ⟨a,vs,rfl,h1,h2⟩:=hd;cases e;cases rx;obtain ⟨its,_,⟨o,k1,k2,_⟩,_⟩:=I.tuple h1;exact PySem.W.kia_one PySem.W.kitx_tuple I.kIn ⟨o,k1,k2⟩ (qMi _ t) (fun z=>nomatch z) q
 |ref i=>
  have e:(qC h i).map (fun _=>t == .list)=some b:=e;cases z:qC h i with
  |none=>rw[z] at e;cases e
  |some ys=>rw[z] at e;cases e;obtain ⟨a,vs,rfl,h1,h2⟩:=r.seen z hd;cases rx;obtain ⟨its,_,pl,_⟩:=I.list h1;obtain ⟨o,n,k1,k2,_⟩:=pl;exact PySem.W.kia_one PySem.W.kitx_list I.kIn ⟨o,k1,k2⟩ (qMl _ t) (fun z=>nomatch z) q
def qI5(K:PySem.W.Frag)(t:Ty):List V->Hp->VK->Prop:=fun xs H Q=>∃ x,xs=[x,.ty (tyS t)]/\rU K (.isi t) x H Q
theorem qQi (t:Ty):qN X (.builtin "isinstance") (qI5 X.K t):=by
 rintro pins s U H xs us Q I rv ⟨x,rfl,w,Y,h,d,r,hd,p⟩
 obtain ⟨u,w,rfl,ru,rw'⟩:=L2.Vals.two rv;cases rw';have p:PostV X.K w Q Y H (match kS h t d with | some b=>.ok (.bl b) h | none=>.bad):=p;cases e:kS h t d with
 |none=>rw[e] at p;cases p
 |some b=>rw[e] at p;exact qNA I r hd ru e fun tk=>⟨.bl b,H,I.tok tk,rfl,PostV.now p r rfl⟩
theorem qP1 {x:Str} (hx:x="isinstance") (hg:L2.Gl X x) (hm:X.mg x=none) (hgT:L2.Gl X y) (hmT:X.mg y=none) (hv:bootBuiltins y=some (.type (tyS t))) (hn:y≠"__name__") (hdb:(y == ("__debug__":Str))=false)
  (ha:PE X a (tD X.K W (den F ca))) (hst:starEach [a,.Name y p2] X.env=[(false,eval a X.env),(false,eval (.Name y p2) X.env)]):PE X (.Call (.Name x p1) [a,.Name y p2] [] pos) (tD X.K W (den F (.un (.isi t) ca))):=by
 subst hx;refine PE.imp (L2.pe_callB (qQi t) hg hm boot_isinstance (L2.pa_cons ha (L2.pa_cons (L2.pe_bltn (v:=.ty (tyS t)) hgT hmT hv rfl hn hdb) L2.pa_nil (by rfl)) (by rw[hst];rfl)) (he:=by rw[hst];rfl)) fun U H Q q=>?_;obtain ⟨Y,env,h,s,r',p⟩:=one q
 exact⟨Y,env,h,s,r',Post.imp p fun Y' H' d q v hv=>⟨v,rfl,q v hv⟩⟩
theorem yM(he:PE X e (L2.tBM X.K T r (tD X.K W (den F ca)) (L2.tCons (tD X.K W (den F cb)) L2.tNil)))
  (hty:∀ Y h d v H,RepH X.K Y h H->RepV X.K Y H d v->∀ h',jL o d h=.ok () h'->h'=h/\L2.tyV X.K T v H) (hexc:∀ d h c h',jL o d h≠.exc c h') (hr:∀ x y H Q,rB X.K o x y H Q->r x [y] H Q):PE X e (tD X.K W (den F (.me o ca cb))):=PE.imp he fun U H Q t=>by
 obtain ⟨Y,env,h,s,r',p⟩:=t;dsimp only[den] at p;refine⟨Y,env,h,s,r',Post.bind p fun Y1 h1 d H1 e1 r1 q v hv=>?_⟩;unfold M.bind at q;cases z:jL o d h1 with
 |ok u h2=>rw[z] at q;obtain ⟨rfl,ty⟩:=hty Y1 h1 d v H1 r1 hv _ z;refine⟨ty,Y1,env,_,s.mono e1,r1,?_⟩;exact Post.bind q fun Y2 h2 d2 H2 e2 r2 q2 w hw=>hr v w H2 Q ⟨_,Y2,h2,d,d2,r2,hv.mono e2 _ _,hw,q2⟩
 |exc c h2=>exact absurd z (hexc _ _ _ _)
 |bad=>rw[z] at q;cases q
theorem yE(o:Bi)(d:D)(h:AH)(c:Nat)(h':AH):jL o d h≠.exc c h':=by
 unfold jL;intro z;split at z
 all_goals first | cases z | (split at z <;> cases z)
theorem qQB {x:Str} (hx:x="append") (ha:PE X a (tD X.K W (den F ca))) (hb:PE X b (tD X.K W (den F cb))) (hbase:attributeBase a x X.env (eval a X.env)=eval a X.env) (hline:(apos.endLine == cpos.line)=true)
  (hst:starEach [b] X.env=[(false,eval b X.env)]):PE X (.Call (.Attribute a x apos) [b] [] cpos) (tD X.K W (den F (.me .append ca cb))):=by
 subst hx;refine yM (L2.pe_bm PySem.F.plainAttrs_list PySem.F.slot_list_append PySem.F.type_list_append L2.mt_append ha (L2.pa_cons hb L2.pa_nil (by rw[hst];rfl)) hbase (by rw[hst];rfl) hline (by rw[hst];rfl)) (fun Y h d v H r hv h' z=>?_) (yE _) (fun x y H Q z=>?_)
 ·cases d with
  |ref i=>
   have z:(match qC h i with | some _=>R.ok () h | none=>.bad)=.ok () h':=z;cases e:qC h i with
   |none=>rw[e] at z;cases z
   |some xs=>
    rw[e] at z;cases z;obtain ⟨a,vs,rfl,h1,_⟩:=r.seen e hv
    exact⟨rfl,.inl ⟨rfl,vs,h1⟩⟩
  |_=>cases z
 ·obtain ⟨w,Y,h,d,e,r,hd,he,p⟩:=z;cases d with
  |ref k=>
   have p:PostV X.K w Q Y H (match h[k]? with | some (.lst xs)=>if xs.length<16777216 then .ok .non (h.set k (.lst (xs++[e]))) else .bad | _=>.bad):=p;split at p
   ·rename_i xs q;obtain ⟨hz,p⟩:=PostV.ite p;obtain ⟨a,vs,rfl,ha,hH,hl⟩:=r.own q hd;refine⟨a,vs,y,rfl,rfl,hH,by rw[hl.length,zX];exact hz,?_⟩;have hl':RepL X.K Y H (xs++[e]) (vs++[y]):=hl.append ⟨y,[],rfl,he,rfl⟩;exact p Y _ (Step.turn hH rfl (List.mem_of_getElem? ha)) (r.setList q ha hH hl') _ rfl
   ·cases p
  |_=>cases p
theorem dZ{K:PySem.W.Frag}:∀ {ds:List D} {vs:List V} {ns:List Int},jC ds=some ns->RepL K Y H ds vs->vs=ns.map V.int
 | [],_,_,e,h=>by cases e;cases h;rfl
 |d::ds,_,ns,e,⟨v,vs,hv,h1,h2⟩=>by
  subst hv;cases d with
  |int b=>
   unfold jC at e;cases q:jC ds with
   |none=>rw[q] at e;cases e
   |some cs=>rw[q] at e;cases e;cases h1;rw[List.map_cons,dZ q h2]
  |_=>cases e
theorem qD5(a:Int)(ns:List Int):L2.inV (.int a) (ns.map V.int)=ns.contains a:=by
 unfold L2.inV;rw[List.any_map,List.contains_eq_any_beq];congr 1;funext i;show L2.eqV (.int i) (.int a)=(a == i);rw[Bool.eq_iff_iff];show (i == a)=true↔_;simp;exact eq_comm
theorem qEf(ns:List Int):(ns.map V.int).all L2.flatV=true:=by
 rw[List.all_map,List.all_eq_true];intro _ _;rfl
theorem qJT(hu:X.A.units+64<cLine):OpR X (compareOp .In) (rB X.K .isin):=by
 rintro pins s U H x y v u Q I rx ry ⟨w,Y,h,d,e,r,hd,he,p⟩
 cases d with
 |str a=>
  cases e with
  |str b=>
   cases hd;cases he
   match a,p,rx with
   | [c],p,rx=>obtain ⟨t,rfl⟩:=rx;obtain ⟨t',rfl⟩:=ry;refine PyProof.Rows.in_str ?_;refine⟨.bl (b.contains c),H,I,?_,PostV.now (h:=h) p r rfl⟩;show Value.bool _=Value.bool _;have e1:(⟨[c].toArray⟩:Str)=⟨#[c]⟩:=rfl;rw[e1,PySem.StrLaws.found_one];congr 1;rw[Bool.eq_iff_iff];simp
   | [],p,_=>cases p
   |_::_::_,p,_=>cases p
  |_=>cases p
 |int c=>
  cases e with
  |ref i=>
   have p:PostV X.K w Q Y H (match (qC h i).bind jC with | some xs=>.ok (.bl (xs.contains c)) h | none=>vW i (.int c) h):=p;cases q1:(qC h i).bind jC with
   |none=>rw[q1] at p;exact qNN (ky:=.int c) I r hd he rx ry p
   |some ns=>
    rw[q1] at p;cases q:qC h i with
    |none=>rw[q] at q1;cases q1
    |some ds=>rw[q] at q1;obtain ⟨a,vs,rfl,h1,h2⟩:=r.seen q he;have hv:=dZ q1 h2;subst hv;cases hd;refine L2.op_in_seq pins s U H _ _ v u Q I rx ry ⟨a,_,rfl,.inl h1,rfl,qEf ns,?_⟩;show Q (.bl (L2.inV (.int c) (ns.map V.int))) H;rw[qD5];exact PostV.now (h:=h) p r rfl
  |_=>cases p
 |_=>cases p
theorem qJN:OpR X (compareOp .NotIn) (rB X.K .notin):=by
 rintro pins s U H x y v u Q I rx ry ⟨w,Y,h,d,e,r,hd,he,p⟩
 cases d with
 |str a=>
  cases e with
  |str b=>
   cases hd;cases he
   match a,p,rx with
   | [c],p,rx=>obtain ⟨t,rfl⟩:=rx;obtain ⟨t',rfl⟩:=ry;refine PyProof.Rows.notIn_str ?_;refine⟨.bl (!b.contains c),H,I,?_,PostV.now (h:=h) p r rfl⟩;show Value.bool _=Value.bool _;have e1:(⟨[c].toArray⟩:Str)=⟨#[c]⟩:=rfl;rw[e1,PySem.StrLaws.found_one];congr 2;rw[Bool.eq_iff_iff];simp
   | [],p,_=>cases p
   |_::_::_,p,_=>cases p
  |_=>cases p
 |int c=>
  cases e with
  |ref i=>
   have p:PostV X.K w Q Y H (match (qC h i).bind jC with | some xs=>.ok (.bl (!xs.contains c)) h | none=>kT i (.int c) h):=p;cases q1:(qC h i).bind jC with
   |none=>rw[q1] at p;exact qJ9 (ky:=.int c) I r hd he rx ry p
   |some ns=>
    rw[q1] at p;cases q:qC h i with
    |none=>rw[q] at q1;cases q1
    |some ds=>rw[q] at q1;obtain ⟨a,vs,rfl,h1,h2⟩:=r.seen q he;have hv:=dZ q1 h2;subst hv;cases hd;refine L2.op_notIn_seq pins s U H _ _ v u Q I rx ry ⟨a,_,rfl,.inl h1,rfl,qEf ns,?_⟩;show Q (.bl (!L2.inV (.int c) (ns.map V.int))) H;rw[qD5];exact PostV.now (h:=h) p r rfl
  |_=>cases p
 |_=>cases p
theorem qFL{K:PySem.W.Frag}:∀ {ds:List D} {vs:List V} {us:List Value} {bs:List Bool},wC ds=some bs->RepL K Y H ds vs->Vals vs us->LSm.BoolsAre us bs
 | [],_,_,_,e,h,r=>by
  cases e;cases h;cases r;exact .nil
 |d::ds,_,us,bs,e,⟨v,vs,hv,h1,h2⟩,r=>by
  subst hv;cases d with
  |bl b=>
   unfold wC at e;cases q:wC ds with
   |none=>rw[q] at e;cases e
   |some cs=>
    rw[q] at e;cases e;cases h1;cases r with
    |cons r1 r2=>cases r1;exact .cons b (qFL q h2 r2)
  |_=>cases e
theorem qQk (hc:X.calm=true):qN X (.builtin "all") (rC X.K .all):=by
 rintro pins s U H xs us Q I rv ⟨x,rfl,w,Y,h,d,r,hd,p⟩
 cases d with
 |ref i=>
  have p:PostV X.K w Q Y H (match (qC h i).bind bO with | some b=>.ok (.bl b) h | none=>.bad):=p;cases q:qC h i with
  |none=>rw[q] at p;cases p
  |some ds=>
   rw[q] at p;have p:PostV X.K w Q Y H (match (wC ds).map (·.all id) with | some b=>.ok (.bl b) h | none=>.bad):=p;cases qb:wC ds with
   |none=>rw[qb] at p;cases p
   |some bs=>
    rw[qb] at p;obtain ⟨a,vs,rfl,h1,h2⟩:=r.seen q hd;obtain ⟨u,rfl,ru⟩:=L2.Vals.one rv;cases ru;obtain ⟨its,rv',pl,hz⟩:=I.list h1;have hb:=qFL qb h2 rv';have hl:=pl.isList;have hlt:a<s.heap.objs.size:=by obtain ⟨_,e,_⟩:=hl;exact Heap.lt_size e
    refine PySem.call_all_walk (wpAny_pyIter_list hl ?_)
    refine⟨s.heap.objs.size,[s.heap.objs.size,a],[s.heap.objs.size],its.toArray.size,_,_,fun i=>(bs[i]?).getD true,rfl,Walks.list (A:=X.A.in1) (I.ok.hd hc) _ a (Nat.ne_of_lt hlt) its.toArray,
     ⟨⟨_,Heap.get?_push_size _ rfl,rfl,rfl⟩,hl.push _⟩,fun i v s' Q' E' hP hQ=>?_,fun h' tk hk=>?_⟩
    ·obtain ⟨b,e,rfl⟩:=hb.get i v (by simpa using hP);simp only[e,Option.getD_some] at hQ;exact wpAny_truthy_bool hQ
    ·have e:((List.range its.toArray.size).all fun i=>(bs[i]?).getD true)=bs.all id:=by
      rw[show its.toArray.size=bs.length by simpa using hb.length];exact LSm.range_all bs
     rw[e]
     exact⟨.bl (bs.all id),H,I.kept (t':=tk) (LSm.kept_iter hk),rfl,PostV.now p r rfl⟩
 |_=>cases p
end
section
variable {K:PySem.W.Frag}{Y:List Addr}{H:Hp}
theorem RepK.drop(k:Ky):∀ {kvs:List (Ky × D)} {vs:List (L2.Key × V)},RepK K Y H kvs vs->RepK K Y H (qEm kvs k) (L2.dropK vs (kyV k))
 | [],_,h=>by cases h;rfl
 |x::kvs,_,⟨v,r,rfl,h1,h2⟩=>by
  unfold qEm L2.dropK
  by_cases e:x.1=k
  ·rw[List.filter_cons_of_neg (by simpa using e),List.filter_cons_of_neg (by simpa using kyV_inj.mpr e)];exact RepK.drop k h2
  ·rw[List.filter_cons_of_pos (by simpa using e),List.filter_cons_of_pos (by simpa using fun z=>e (kyV_inj.mp z))]
   exact⟨v,_,rfl,h1,RepK.drop k h2⟩
end
section
variable {prog:Program}{w:World}{K:Type}[DecidableEq K]{knd:KeyKind prog w K}{A:Around}{E:Value->Shared->Prop}{s:Shared}
end
section
variable {prog:Program}{w:World}{K:Type}[DecidableEq K]
end
section
variable {X:Cx}{F:Nat->List D->M D}{W:WX}
theorem qPa (r:RepH X.K Y h H) (hv:RepV X.K Y H d v) (z:jL .get d h=.ok () h'):h'=h/\L2.tyV X.K "dict" v H:=by
 cases d with
 |ref i=>
  have z:(match h[i]? with | some (.dct _)=>R.ok () h | _=>.bad)=.ok () h':=z;split at z
  ·rename_i kvs q;cases z;obtain ⟨a,vs,rfl,_,h1,_⟩:=r.dict q hv
   exact⟨rfl,.inr (.inr (.inl ⟨rfl,.inl ⟨vs,h1⟩⟩))⟩
  ·cases z
 |_=>cases z
theorem qP3 {x:Str} (hx:x="get") (ha:PE X a (tD X.K W (den F ca))) (hb:PE X b (tD X.K W (den F cb))) (hbase:attributeBase a x X.env (eval a X.env)=eval a X.env) (hline:(apos.endLine == cpos.line)=true)
  (hst:starEach [b] X.env=[(false,eval b X.env)]):PE X (.Call (.Attribute a x apos) [b] [] cpos) (tD X.K W (den F (.me .get ca cb))):=by
 subst hx
 have mt:L2.MtR X "dict.get" fun x ys H Q=>∃ y,ys=[y]/\rB X.K .get x y H Q:=by
  rintro pins s U H x vs v us Q I rx rv ⟨y,rfl,w,Y,h,d,e,r,hd,he,p⟩
  obtain ⟨u,rfl,ru⟩:=rv.one;cases d with
  |ref k=>
   cases e with
   |int i=>
    have p:PostV X.K w Q Y H (match h[k]? with | some (.dct kvs)=>.ok ((zD kvs (.int i)).getD .non) h | _=>.bad):=p;split at p
    ·rename_i kvs q;obtain ⟨a,ws,rfl,ha',hH,hk⟩:=r.dict q hd;cases rx;cases he;obtain ⟨z,hd',os,rel,dd⟩:=L2.dk_rd I.hok (.inl hH);have ry:RelV (L2.kV (.inl i)) u:=ru;refine call_meetsIn PySem.F.slot_dict_get dd.typeIs PySem.F.entry_dict_get (PySem.F.args_dict_get_2 _ _) (meets_dict_get (L2.mixKind X.prog X.w) a (L2.kV_is ry) hd') ⟨_,dd.mapOf,?_⟩;have gv:=(rel.val (.inl i)).getD (d:=.non) (d':=.none) rfl;rcases hk.val (.int i) with⟨d,v',e1,e2,hv⟩ | ⟨e1,e2⟩
     ·rw[e1] at p;have e2:L2.valV ws (Sum.inl i)=some v':=e2;rw[e2] at gv
      exact⟨v',H,I.tok _,gv,PostV.now p r hv⟩
     ·rw[e1] at p;have e2:L2.valV ws (Sum.inl i)=none:=e2;rw[e2] at gv
      exact⟨.non,H,I.tok _,gv,PostV.now p r rfl⟩
    ·cases p
   |_=>cases p
  |_=>cases p
 exact yM (L2.pe_bm PySem.F.plainAttrs_dict PySem.F.slot_dict_get PySem.F.type_dict_get mt ha (L2.pa_cons hb L2.pa_nil (by rw[hst];rfl)) hbase (by rw[hst];rfl) hline (by rw[hst];rfl)) (fun Y h d v H r hv h' z=>qPa r hv z) (yE _) (fun x y H Q z=>⟨y,rfl,z⟩)
end
section
open PySem.Builtin PySem.Builtin.Str
theorem cN(a:Tx)(c limit:Nat):∀ (r:Tx) (k:Nat) (f:Array Nat) (free:Nat),a.drop k=r->free<=k->f.size<=limit ->
  (forIn (List.range' k (r.length+1)) (f,free) (StrLaws.occBody ⟨a.toArray⟩ ⟨#[c]⟩ a.length limit)).run.fst.toList=f.toList++(zZ c k r).take (limit-f.size)
 | [],k,f,free,hr,hf,hl=>by
  show (forIn [k] (f,free) (StrLaws.occBody ⟨a.toArray⟩ ⟨#[c]⟩ a.length limit)).run.fst.toList=_;rw[List.forIn_cons]
  have hk:a.length<=k:=by
   have:=congrArg List.length hr
   rw[List.length_drop] at this;simp at this
   lia
  unfold StrLaws.occBody;rw[if_neg (by rintro ⟨⟨_,z⟩,_⟩;have z:k+1<=a.length:=z;lia)];show f.toList=f.toList++List.take _ [];simp
 |x::r,k,f,free,hr,hf,hl=>by
  have hx:a[k]?=some x:=by
   have:=List.getElem?_drop (xs:=a) (i:=k) (j:=0)
   rw[hr] at this;simpa using this.symm
  have hr':a.drop (k+1)=r:=by
   rw[<- List.drop_drop,hr];rfl
  rw[List.length_cons,List.range'_succ,List.forIn_cons]
  have key:(k+(⟨#[c]⟩:PySem.Str).length<=a.length/\subAt ⟨a.toArray⟩ ⟨#[c]⟩ k=true)↔x=c:=by
   have:=StrLaws.subAt_one ⟨a.toArray⟩ c k
   have e:(⟨a.toArray⟩:PySem.Str).length=a.length:=by show a.toArray.size=_;simp
   rw[e] at this;rw[this];show a.toArray.toList[k]?=some c↔_;rw[List.toList_toArray,hx];constructor
   ·intro h;exact Option.some.inj h
   ·intro h;rw[h]
  unfold StrLaws.occBody;unfold zZ
  by_cases e:x=c
  ·rw[if_pos e]
   by_cases hz:f.size<limit
   ·rw[if_pos ⟨⟨⟨hz,hf⟩,(key.mpr e).1⟩,(key.mpr e).2⟩];have ih:=cN a c limit r (k+1) (f.push k) (k+1) hr' (Nat.le_refl _) (by rw[Array.size_push];lia);refine ih.trans ?_;rw[Array.toList_push,Array.size_push,show limit-f.size=(limit-(f.size+1))+1 by lia,List.take_succ_cons];simp
   ·rw[if_neg (fun z=>hz z.1.1.1)];have ih:=cN a c limit r (k+1) f free hr' (by lia) hl;refine ih.trans ?_;rw[show limit-f.size=0 by lia];simp
  ·rw[if_neg e,if_neg (fun z=>e (key.mp ⟨z.1.2,z.2⟩))];exact cN a c limit r (k+1) f free hr' (by lia) hl
theorem qJe(a:Tx)(c limit:Nat):occurrences ⟨a.toArray⟩ ⟨#[c]⟩ 0 a.length limit=(zZ c 0 a).take limit:=by
 rw[StrLaws.occ_eq]
 have:=cN a c limit a 0 #[] 0 rfl (Nat.le_refl _) (Nat.zero_le _)
 simpa using this
theorem qCk(c:Nat):∀ (k:Nat) (a:Tx),(zZ c k a).length<=a.length
 |_,[]=>Nat.le_refl _
 |k,x::r=>by
  have:=qCk c (k+1) r
  unfold zZ;split
  ·simp only[List.length_cons];lia
  ·simp only[List.length_cons];lia
theorem mE(c:Nat):∀ (k:Nat) (a:Tx),(jH c k a=none/\∀ i:Nat,a[i]?≠some c)\/∃ i:Nat,jH c k a=some (k+i)/\a[i]?=some c/\∀ j:Nat,i<j->a[j]?≠some c
 |k,[]=>.inl ⟨rfl,fun i=>by simp⟩
 |k,x::r=>by
  unfold jH;rcases mE c (k+1) r with⟨h1,h2⟩ | ⟨i,h1,h2,h3⟩
  ·rw[h1];simp only
   by_cases e:x=c
   ·rw[if_pos e];refine .inr ⟨0,rfl,by rw[e];rfl,fun j hj=>?_⟩;rw[show j=(j-1)+1 by lia,List.getElem?_cons_succ];exact h2 _
   ·rw[if_neg e];refine .inl ⟨rfl,fun i=>?_⟩;cases i with
    |zero=>simpa using e
    |succ i=>rw[List.getElem?_cons_succ];exact h2 i
  ·rw[h1];refine .inr ⟨i+1,by show some (k+1+i)=_;congr 1;lia,by rw[List.getElem?_cons_succ];exact h2,fun j hj=>?_⟩;rw[show j=(j-1)+1 by lia,List.getElem?_cons_succ];exact h3 _ (by lia)
theorem qMd(a:Tx)(c:Nat):lastOccurrence ⟨a.toArray⟩ ⟨#[c]⟩ 0 a.length=jH c 0 a:=by
 have e:(⟨a.toArray⟩:PySem.Str).length=a.length:=by show a.toArray.size=_;simp
 have at':∀ i,StrLaws.At ⟨a.toArray⟩ ⟨#[c]⟩ (⟨a.toArray⟩:PySem.Str).length i↔a[i]?=some c:=fun i=>by
  have:=StrLaws.subAt_one ⟨a.toArray⟩ c i
  exact this
 have key:=StrLaws.last_spec ⟨a.toArray⟩ ⟨#[c]⟩;rw[e] at key at';rcases key with⟨h1,h2⟩ | ⟨i,h1,h2,h3⟩
 ·rw[h1];rcases mE c 0 a with⟨g1,g2⟩ | ⟨j,g1,g2,g3⟩
  ·rw[g1]
  ·exact absurd ((at' j).mpr g2) (h2 j)
 ·rw[h1];rcases mE c 0 a with⟨g1,g2⟩ | ⟨j,g1,g2,g3⟩
  ·exact absurd ((at' i).mp h2) (g2 i)
  ·rw[g1,Nat.zero_add];rcases Nat.lt_trichotomy i j with z | z | z
   ·exact absurd ((at' j).mpr g2) (h3 j z)
   ·rw[z]
   ·exact absurd ((at' i).mp h2) (g3 i z)
theorem iT(a:Tx)(i j:Nat):strSub ⟨a.toArray⟩ i j=⟨((a.drop i).take (j-i)).toArray⟩:=by
 unfold strSub;congr 1;apply Array.toList_inj.mp;rw[Array.toList_extract,List.toList_toArray,List.toList_toArray]
 try simp[List.extract]
theorem qJL(a:Tx)(cuts:List Nat):partsBetween ⟨a.toArray⟩ cuts 1=(kJ a cuts).map fun p=>⟨p.toArray⟩:=by
 unfold partsBetween kJ;rw[List.map_map];show List.map _ ((0::cuts.map (·+1)).zip (cuts++[a.toArray.size]))=_;rw[List.size_toArray];congr 1;funext ⟨i,j⟩;exact iT a i j
theorem qMo(hc:c<256)(x:PySem.Str):Builtin.Str.strKind x<Builtin.Str.strKind ⟨#[c]⟩↔False:=by
 have h1:Builtin.Str.strKind ⟨#[c]⟩=1:=by
  unfold Builtin.Str.strKind;rw[if_pos (by simpa using hc)]
 have h2:1<=Builtin.Str.strKind x:=by
  unfold Builtin.Str.strKind;split
  ·lia
  ·split <;> lia
 constructor
 ·intro h;lia
 ·exact False.elim
end
section
variable {K:PySem.W.Frag}{Y:List Addr}{H:Hp}
theorem lD:∀ ps:List Tx,RepL K Y H (ps.map D.str) (ps.map fun p=>V.str ⟨p.toArray⟩)
 | []=>rfl
 |p::ps=>⟨_,_,rfl,rfl,lD ps⟩
end
theorem qBk:∀ (tk:Nat) (ps:List Tx),Vals (ps.map fun p=>V.str ⟨p.toArray⟩) (strsFrom tk (ps.map fun p=>(⟨p.toArray⟩:Str)))
 |_,[]=>.nil
 |tk,p::ps=>.cons ⟨tk,rfl⟩ (qBk (tk+1) ps)
theorem qJJ(z:Tx):kJ z []=[z]:=by
 unfold kJ;show [(z.drop 0).take (z.length-0)]=[z];rw[List.drop_zero,Nat.sub_zero,List.take_length]
section
variable {X:Cx}{F:Nat->List D->M D}{W:WX}
theorem qBx (ho:∀ d h h',jL o d h=.ok () h'->h'=h/\∃ y,d=.str y):∀ Y h d v H,RepH X.K Y h H->RepV X.K Y H d v->∀ h',jL o d h=.ok () h'->h'=h/\L2.tyV X.K "str" v H:=fun Y h d v H r hv h' z=>by
 obtain ⟨rfl,y,rfl⟩:=ho d h h' z;cases hv
 exact⟨rfl,rfl⟩
theorem qPl {x:Str} (hx:x="split") (ha:PE X a (tD X.K W (den F ca))) (hb:PE X b (tD X.K W (den F cb))) (hbase:attributeBase a x X.env (eval a X.env)=eval a X.env) (hline:(apos.endLine == cpos.line)=true)
  (hst:starEach [b] X.env=[(false,eval b X.env)]):PE X (.Call (.Attribute a x apos) [b] [] cpos) (tD X.K W (den F (.me .split ca cb))):=by
 subst hx
 have mt:L2.MtR X "str.split" fun x ys H Q=>∃ y,ys=[y]/\rB X.K .split x y H Q:=by
  rintro pins s U H x ys v us Q I rx rv ⟨y,rfl,w,Y,h,d,e,r,hd,he,p⟩
  obtain ⟨u,rfl,ru⟩:=L2.Vals.one rv;cases d with
  |str z=>
   cases e with
   |str w'=>
    cases hd;cases he
    match w',p,ru with
    | [c],p,ru=>
     obtain ⟨t,rfl⟩:=rx;obtain ⟨t',rfl⟩:=ru;have p:PostV X.K w Q Y H (if c<256/\z.length<=1000000 then newL ((kJ z (zZ c 0 z)).map .str) h else .bad):=p;obtain ⟨⟨hc,hl⟩,p⟩:=PostV.ite p;obtain ⟨hz,q⟩:=PostV.newL p r (lD _)
     have fin:∀ (its:List Value) (tk:Nat),Vals ((kJ z (zZ c 0 z)).map fun x=>V.str ⟨x.toArray⟩) its->EP X pins U Q (.ref s.heap.objs.size) { s with heap:=s.heap.push { cls:=.type "list",data:=.seq its.toArray },toks:=tk }:=fun its tk hv=>
      ⟨.ref _,_,I.laid (t':=tk) (o:=.lst _) (fun b ob q=>Heap.get?_push_of_some _ q) (Nat.le_refl _) ⟨hz,_,0,hv,Heap.get?_push_size _ rfl⟩,rfl,q _ (I.hok.fresh (Nat.le_refl _))⟩
     have e1:(⟨[c].toArray⟩:Str)=⟨#[c]⟩:=rfl;have kd:=qMo hc (⟨z.toArray⟩:Str);have sl:(⟨z.toArray⟩:Str).length=z.length:=zY z
     have oc:Builtin.Str.occurrences ⟨z.toArray⟩ ⟨#[c]⟩ 0 (⟨z.toArray⟩:Str).length ((⟨z.toArray⟩:Str).length+1)=zZ c 0 z:=by
      rw[sl,qJe];exact List.take_of_length_le (by have:=qCk c 0 z;lia)
     by_cases h0:z=[]
     ·have h1:(decide ((⟨z.toArray⟩:Str).length<(⟨[c].toArray⟩:Str).length) || decide (Builtin.Str.strKind ⟨z.toArray⟩<Builtin.Str.strKind ⟨[c].toArray⟩))=true:=by
       rw[sl,h0];rfl
      refine call_meets PySem.F.slot_str_split (typeIs_str _ _ _) PySem.F.entry_str_split (PySem.F.args_str_split_2 _ _) (meets_str_split_cannot_occur _ _ _ _ h1) ?_;exact fin [Value.str ⟨z.toArray⟩ t] s.toks (by subst h0;exact .cons ⟨t,rfl⟩ .nil)
     ·have hz1:1<=z.length:=by cases z with | nil=>exact absurd rfl h0 | cons _ _=>simp
      have h1:(decide ((⟨z.toArray⟩:Str).length<(⟨[c].toArray⟩:Str).length) || decide (Builtin.Str.strKind ⟨z.toArray⟩<Builtin.Str.strKind ⟨[c].toArray⟩))=false:=by
       rw[sl,Bool.or_eq_false_iff,decide_eq_false_iff_not,decide_eq_false_iff_not]
       exact⟨by show ¬ z.length<1;lia,fun z=>kd.mp z⟩
      cases hp:zZ c 0 z with
      |nil=>refine call_meets PySem.F.slot_str_split (typeIs_str _ _ _) PySem.F.entry_str_split (PySem.F.args_str_split_2 _ _) (meets_str_split_not_found _ _ _ _ h1 rfl (by rw[e1,oc,hp];rfl)) ?_;refine fin [Value.str ⟨z.toArray⟩ t] s.toks ?_;rw[hp,qJJ];exact .cons ⟨t,rfl⟩ .nil
      |cons i r'=>
       have pb:Builtin.Str.partsBetween ⟨z.toArray⟩ (Builtin.Str.occurrences ⟨z.toArray⟩ ⟨[c].toArray⟩ 0 (⟨z.toArray⟩:Str).length ((⟨z.toArray⟩:Str).length+1)) (⟨[c].toArray⟩:Str).length=(kJ z (zZ c 0 z)).map fun p=>⟨p.toArray⟩:=by
        rw[e1,oc];exact qJL z _
       refine call_meets PySem.F.slot_str_split (typeIs_str _ _ _) PySem.F.entry_str_split (PySem.F.args_str_split_2 _ _) (meets_str_split_sep _ _ _ _ h1 rfl (by rw[e1,oc,hp];rfl) (by rw[sl,zX];lia) (by rw[pb,List.length_map];rw[List.length_map] at hz;exact hz)) ?_;show EP X pins U Q _ _;rw[pb];exact fin _ _ (qBk s.toks _)
    | [],p,_=>cases p
    |_::_::_,p,_=>cases p
   |_=>cases p
  |_=>cases p
 refine yM (L2.pe_bm PySem.F.plainAttrs_str PySem.F.slot_str_split PySem.F.type_str_split mt ha (L2.pa_cons hb L2.pa_nil (by rw[hst];rfl)) hbase (by rw[hst];rfl) hline (by rw[hst];rfl)) (qBx fun d h h' z=>?_) (yE _) (fun x y H Q z=>⟨y,rfl,z⟩);cases d with
 |str y=>cases z;exact⟨rfl,y,rfl⟩
 |_=>cases z
theorem qPn {x:Str} (hx:x="rpartition") (ha:PE X a (tD X.K W (den F ca))) (hb:PE X b (tD X.K W (den F cb))) (hbase:attributeBase a x X.env (eval a X.env)=eval a X.env) (hline:(apos.endLine == cpos.line)=true)
  (hst:starEach [b] X.env=[(false,eval b X.env)]):PE X (.Call (.Attribute a x apos) [b] [] cpos) (tD X.K W (den F (.me .rpart ca cb))):=by
 subst hx
 have mt:L2.MtR X "str.rpartition" fun x ys H Q=>∃ y,ys=[y]/\rB X.K .rpart x y H Q:=by
  rintro pins s U H x ys v us Q I rx rv ⟨y,rfl,w,Y,h,d,e,r,hd,he,p⟩
  obtain ⟨u,rfl,ru⟩:=L2.Vals.one rv;cases d with
  |str z=>
   cases e with
   |str w'=>
    cases hd;cases he
    match w',p,ru with
    | [c],p,ru=>
     obtain ⟨t,rfl⟩:=rx;obtain ⟨t',rfl⟩:=ru;have p:PostV X.K w Q Y H (if z.length<=1000000 then .ok (.tup ((kB z c).map .str)) h else .bad):=p;obtain ⟨hl,p⟩:=PostV.ite p;have q:=PostV.newT p r (lD _);have hz3:(kB z c).length<=sizeLine:=by unfold kB;split <;> exact (by decide:3<=sizeLine)
     have fin:∀ (its:List Value) (tk:Nat),Vals ((kB z c).map fun x=>V.str ⟨x.toArray⟩) its->EP X pins U Q (.ref s.heap.objs.size) { s with heap:=s.heap.push { cls:=.type "tuple",data:=.seq its.toArray },toks:=tk }:=fun its tk hv=>
      ⟨.ref _,_,I.laid (t':=tk) (o:=.tup _) (fun b ob q=>Heap.get?_push_of_some _ q) (Nat.le_refl _) ⟨by rw[List.length_map];exact hz3,its,hv,IsTup.new _ _⟩,rfl,q _ (I.hok.fresh (Nat.le_refl _))⟩
     have e1:(⟨[c].toArray⟩:Str)=⟨#[c]⟩:=rfl;have sl:(⟨z.toArray⟩:Str).length=z.length:=zY z
     have oc:Builtin.Str.lastOccurrence ⟨z.toArray⟩ ⟨[c].toArray⟩ 0 (⟨z.toArray⟩:Str).length=jH c 0 z:=by
      rw[sl,e1,qMd]
     refine call_meets PySem.F.slot_str_rpartition (typeIs_str _ _ _) PySem.F.entry_str_rpartition (PySem.F.args_str_rpartition_2 _ _) (meets_str_rpartition _ _ _ _ rfl (by rw[sl,zX];lia)) ?_;rw[oc];cases hp:jH c 0 z with
     |none=>
      have e2:kB z c=[[],[],z]:=by unfold kB;rw[hp]
      exact fin [.str Str.empty s.toks,.str Str.empty s.toks,.str ⟨z.toArray⟩ t] _ (by rw[e2];exact .cons ⟨_,rfl⟩ (.cons ⟨_,rfl⟩ (.cons ⟨_,rfl⟩ .nil)))
     |some i=>
      have e2:kB z c=[z.take i,[c],z.drop (i+1)]:=by unfold kB;rw[hp]
      have c1:Builtin.Str.strSub ⟨z.toArray⟩ 0 i=⟨(z.take i).toArray⟩:=by rw[iT];simp
      have c2:Builtin.Str.strSub ⟨z.toArray⟩ (i+(⟨[c].toArray⟩:Str).length) (⟨z.toArray⟩:Str).length=⟨(z.drop (i+1)).toArray⟩:=by
       rw[iT,sl];congr 2;exact List.take_of_length_le (by rw[List.length_drop];exact Nat.le_refl _)
      refine fin [.str (Builtin.Str.strSub ⟨z.toArray⟩ 0 i) s.toks,.str ⟨[c].toArray⟩ t',.str (Builtin.Str.strSub ⟨z.toArray⟩ (i+(⟨[c].toArray⟩:Str).length) (⟨z.toArray⟩:Str).length) (s.toks+1)] _ ?_;rw[e2,c1,c2];exact .cons ⟨_,rfl⟩ (.cons ⟨_,rfl⟩ (.cons ⟨_,rfl⟩ .nil))
    | [],p,_=>cases p
    |_::_::_,p,_=>cases p
   |_=>cases p
  |_=>cases p
 refine yM (L2.pe_bm PySem.F.plainAttrs_str PySem.F.slot_str_rpartition PySem.F.type_str_rpartition mt ha (L2.pa_cons hb L2.pa_nil (by rw[hst];rfl)) hbase (by rw[hst];rfl) hline (by rw[hst];rfl)) (qBx fun d h h' z=>?_) (yE _) (fun x y H Q z=>⟨y,rfl,z⟩);cases d with
 |str y=>cases z;exact⟨rfl,y,rfl⟩
 |_=>cases z
end
section
variable {X:Cx}{F:Nat->List D->M D}{W:WX}
theorem qP6 {x:Str} (hx:x="extend") (ha:PE X a (tD X.K W (den F ca))) (hb:PE X b (tD X.K W (den F cb))) (hbase:attributeBase a x X.env (eval a X.env)=eval a X.env) (hline:(apos.endLine == cpos.line)=true)
  (hst:starEach [b] X.env=[(false,eval b X.env)]):PE X (.Call (.Attribute a x apos) [b] [] cpos) (tD X.K W (den F (.me .extend ca cb))):=by
 subst hx;refine yM (L2.pe_bm PySem.F.plainAttrs_list PySem.F.slot_list_extend PySem.F.type_list_extend L2.mt_extend ha (L2.pa_cons hb L2.pa_nil (by rw[hst];rfl)) hbase (by rw[hst];rfl) hline (by rw[hst];rfl)) (fun Y h d v H r hv h' z=>?_) (yE _) (fun x y H Q z=>?_)
 ·cases d with
  |ref i=>
   have z:(match qC h i with | some _=>R.ok () h | none=>.bad)=.ok () h':=z;cases e:qC h i with
   |none=>rw[e] at z;cases z
   |some xs=>
    rw[e] at z;cases z;obtain ⟨a,vs,rfl,h1,_⟩:=r.seen e hv
    exact⟨rfl,.inl ⟨rfl,vs,h1⟩⟩
  |_=>cases z
 ·obtain ⟨w,Y,h,d,e,r,hd,he,p⟩:=z;cases d with
  |ref k=>
   cases e with
   |ref j=>
    have p:PostV X.K w Q Y H (match h[k]?,h[j]? with | some (.lst xs),some (.lst ys)=>(if xs.length+ys.length<=16777216 then .ok .non (h.set k (.lst (xs++ys))) else .bad) | _,_=>.bad):=p;split at p
    ·rename_i xs ys q1 q2;obtain ⟨hz,p⟩:=PostV.ite p;obtain ⟨a,vs,rfl,ha,hH,hl⟩:=r.own q1 hd;obtain ⟨b,us,rfl,hb,hB,hm⟩:=r.own q2 he;have stp:Step Y H Y (upd H a (.lst (vs++us))):=Step.turn hH rfl (List.mem_of_getElem? ha)
     exact⟨a,b,vs,us,rfl,rfl,hH,hB,by rw[hl.length,hm.length,zX];exact hz,p Y _ stp (r.setList q1 ha hH (hl.append hm)) .non rfl⟩
    ·cases p
   |_=>cases p
  |_=>cases p
end
section
variable {X:Cx}{F:Nat->List D->M D}{W:WX}
theorem qGl(z:Tx)(n:Int)(h0:0<=n)(hd:jV z=true):Txt.zfill ⟨z.toArray⟩ n=⟨(List.replicate (n.toNat-z.length) 48++z).toArray⟩:=by
 unfold Txt.zfill;rw[zY]
 by_cases h:n<=(z.length:Int)
 ·rw[if_pos h,show n.toNat-z.length=0 by lia];rfl
 ·rw[if_neg h]
  have key:zfilled ⟨z.toArray⟩ (n.toNat-z.length)=Builtin.Str.padded ⟨z.toArray⟩ (n.toNat-z.length) 0 48:=by
   unfold zfilled;split
   ·rename_i e;have e:z[0]?=some 43:=by simpa using e
    have:=List.all_eq_true.mp hd 43 (List.mem_of_getElem? e)
    cases of_decide_eq_true this
    lia
   ·rename_i e;have e:z[0]?=some 45:=by simpa using e
    have:=List.all_eq_true.mp hd 45 (List.mem_of_getElem? e)
    cases of_decide_eq_true this
    lia
   ·rfl
  rw[key];unfold Builtin.Str.padded;congr 1;simp
theorem qPi {x:Str} (hx:x="zfill") (ha:PE X a (tD X.K W (den F ca))) (hb:PE X b (tD X.K W (den F cb))) (hbase:attributeBase a x X.env (eval a X.env)=eval a X.env) (hline:(apos.endLine == cpos.line)=true)
  (hst:starEach [b] X.env=[(false,eval b X.env)]):PE X (.Call (.Attribute a x apos) [b] [] cpos) (tD X.K W (den F (.me .zfill ca cb))):=by
 subst hx
 have mt:L2.MtR X "str.zfill" fun x ys H Q=>∃ y,ys=[y]/\rB X.K .zfill x y H Q:=by
  rintro pins s U H x ys v us Q I rx rv ⟨y,rfl,w,Y,h,d,e,r,hd,he,p⟩
  obtain ⟨u,rfl,ru⟩:=L2.Vals.one rv;cases d with
  |str z=>
   cases e with
   |int n=>
    cases hd;cases he;obtain ⟨⟨h1,h2,h3,h4⟩,p⟩:=PostV.ite (c:=0<=n/\n<=1000/\jV z=true/\z.length<=1000) p;obtain ⟨t,rfl⟩:=rx;obtain ⟨t',rfl⟩:=ru;refine PySem.SC.zfill ?_ fun t2 k=>?_
    ·unfold PadOk fitsSsize;rw[Bool.and_eq_true,Bool.not_eq_true',Bool.not_eq_true']
     exact⟨by rw[decide_eq_false (by lia),decide_eq_false (by lia)];rfl,decide_eq_false (by rw[zX];lia)⟩
    ·rw[qGl z n h1 h3]
     exact⟨V.str ⟨(List.replicate (n.toNat-z.length) 48++z:List Nat).toArray⟩,H,I.tok _,⟨_,rfl⟩,PostV.now p r rfl⟩
   |_=>cases p
  |_=>cases p
 refine yM (L2.pe_bm PySem.F.plainAttrs_str PySem.F.slot_str_zfill PySem.F.type_str_zfill mt ha (L2.pa_cons hb L2.pa_nil (by rw[hst];rfl)) hbase (by rw[hst];rfl) hline (by rw[hst];rfl)) (fun Y h d v H r hv h' z=>?_) (yE _) (fun x y H Q z=>⟨y,rfl,z⟩);cases d with
 |str y=>cases z;cases hv;exact⟨rfl,rfl⟩
 |_=>cases z
theorem qBv{K:PySem.W.Frag}:∀ {ds:List D} {vs:List V} {us:List Value} {xs:List Tx},jO ds=some xs->RepL K Y H ds vs->Vals vs us->∃ l:List (Str × Tok),us=strValues l/\l.map (·.1)=xs.map fun x=>⟨x.toArray⟩
 | [],_,_,_,e,h,r=>by
  cases e;cases h;cases r
  exact⟨[],rfl,rfl⟩
 |d::ds,_,us,bs,e,⟨v,vs,hv,h1,h2⟩,r=>by
  subst hv;cases d with
  |str b=>
   unfold jO at e;cases q:jO ds with
   |none=>rw[q] at e;cases e
   |some cs=>
    rw[q] at e;cases e;cases h1;cases r with
    |cons r1 r2=>
     obtain ⟨t,rfl⟩:=r1;obtain ⟨l,rfl,e2⟩:=qBv q h2 r2
     exact⟨(⟨b.toArray⟩,t)::l,rfl,by rw[List.map_cons,List.map_cons,e2]⟩
  |_=>cases e
theorem qDm(z:Tx):∀ xs:List Tx,Str.join ⟨z.toArray⟩ (xs.map fun x=>⟨x.toArray⟩)=⟨(qX z xs).toArray⟩
 | []=>rfl
 | [x]=>rfl
 |x::y::r=>by
  have ih:=qDm z (y::r);show (⟨x.toArray⟩:Str)++⟨z.toArray⟩++Str.join ⟨z.toArray⟩ ((y::r).map fun x=>⟨x.toArray⟩)=_;rw[ih,uA,uA];rfl
theorem qPy {x:Str} (hx:x="join") (ha:PE X a (tD X.K W (den F ca))) (hb:PE X b (tD X.K W (den F cb))) (hbase:attributeBase a x X.env (eval a X.env)=eval a X.env) (hline:(apos.endLine == cpos.line)=true)
  (hst:starEach [b] X.env=[(false,eval b X.env)]):PE X (.Call (.Attribute a x apos) [b] [] cpos) (tD X.K W (den F (.me .join ca cb))):=by
 subst hx
 have mt:L2.MtR X "str.join" fun x ys H Q=>∃ y,ys=[y]/\rB X.K .join x y H Q:=by
  rintro pins s U H x ys v us Q I rx rv ⟨y,rfl,w,Y,h,d,e,r,hd,he,p⟩
  obtain ⟨u,rfl,ru⟩:=L2.Vals.one rv;cases d with
  |str z=>
   cases e with
   |ref i=>
    cases hd;have p:PostV X.K w Q Y H (match (qC h i).bind jO with | some xs=>if jY z xs<=16777216 then .ok (.str (qX z xs)) h else .bad | none=>.bad):=p;cases q:qC h i with
    |none=>rw[q] at p;cases p
    |some ds=>
     rw[q] at p;cases qs:jO ds with
     |none=>have p:PostV X.K w Q Y H (match jO ds with | some xs=>if jY z xs<=16777216 then .ok (.str (qX z xs)) h else .bad | none=>.bad):=p;rw[qs] at p;cases p
     |some xs=>
      have p:PostV X.K w Q Y H (match jO ds with | some xs=>if jY z xs<=16777216 then .ok (.str (qX z xs)) h else .bad | none=>.bad):=p;rw[qs] at p;obtain ⟨hz,p⟩:=PostV.ite (c:=jY z xs<=16777216) p;obtain ⟨a',vs,rfl,h1,h2⟩:=r.seen q he;cases ru;obtain ⟨t,rfl⟩:=rx;obtain ⟨its,rv',pl,_⟩:=I.list h1;obtain ⟨l,rfl,el⟩:=qBv qs h2 rv';refine PySem.SC.join (l:=l) (texts:=xs.map fun x=>⟨x.toArray⟩) pl.isList el ?_ fun t2 k=>?_
      ·unfold JoinOk;rw[PySem.StrLaws.joinTotal,Bool.not_eq_true'];refine decide_eq_false ?_;rw[zX,List.map_map,List.length_map,zY];unfold jY at hz
       have:(xs.map ((fun p:Str=>p.length) ∘ fun x=>(⟨x.toArray⟩:Str)))=xs.map List.length:=List.map_congr_left fun x _=>zY x
       rw[this]
       lia
      ·have e:Txt.join ⟨z.toArray⟩ (xs.map fun x=>⟨x.toArray⟩)=⟨(qX z xs).toArray⟩:=by
        unfold Txt.join;rw[PySem.StrLaws.glued_eq_join,qDm]
       rw[e]
       exact⟨.str ⟨(qX z xs).toArray⟩,H,I.tok _,⟨_,rfl⟩,PostV.now p r rfl⟩
   |_=>cases p
  |_=>cases p
 refine yM (L2.pe_bm PySem.F.plainAttrs_str PySem.F.slot_str_join PySem.F.type_str_join mt ha (L2.pa_cons hb L2.pa_nil (by rw[hst];rfl)) hbase (by rw[hst];rfl) hline (by rw[hst];rfl)) (fun Y h d v H r hv h' z=>?_) (yE _) (fun x y H Q z=>⟨y,rfl,z⟩);cases d with
 |str y=>cases z;cases hv;exact⟨rfl,rfl⟩
 |_=>cases z
end
open L2 (V Hp HO VK TE TT TA TS TI Cx Inv RelV Vals SqL SqT Rd upd qL qH PE PT PA PS PSs EP OpR qN IxR MtR SlR PO TO PI PG PIE Turn qS Ends thn)
section
variable {X:Cx}{F:Nat->List D->M D}{W:WX}
theorem qP4(ha:PE X a (tD X.K W (den F ca)))(hb:PE X b (tD X.K W (den F cb))) :
  PE X (.JoinedStr [.FormattedValue a (-1) none p1,.Constant (.str c) j p2,.FormattedValue b (-1) none p3] pos) (tD X.K W (den F (.bi .add (.bi .add ca (.lit (.str c.cps.toList))) cb))):=by
 intro pins s U H Q I t;obtain ⟨Y,env,h,st,r,p⟩:=t
 have p:PostV X.K (W.at U) Q Y H (M.bind (den F ca env) (fun x=>M.bind (biD .add x (.str c.cps.toList)) fun y=>M.bind (den F cb env) fun z=>biD .add y z) h):=by
  dsimp only[den] at p;rw[kG] at p;exact p
 have cc:(⟨c.cps.toList.toArray⟩:Str)=c:=by simp
 refine wpAny_JoinedStr ?_
 refine wpAny_FormattedValue_plain (thn (ha pins s U H (fun v H1=>∃ z:Tx,v=V.str ⟨z.toArray⟩/\z.length+c.cps.toList.length<=16777216/\tD X.K W (fun e=>M.bind (den F cb e) fun y=>biD .add (.str (z++c.cps.toList)) y) U H1 Q) I
  ⟨Y,env,h,st,r,Post.bind p fun Y1 h1 d H1 e1 r1 q v hv=>?_⟩) fun v s1 ⟨x,H1,I1,r1,q1⟩=>?_)
 ·cases d with
  |str z=>
   cases hv;unfold M.bind at q;rw[show biD .add (.str z) (.str c.cps.toList) h1=(if z.length+c.cps.toList.length<=16777216 then .ok (.str (z++c.cps.toList)) h1 else .bad) from rfl] at q
   by_cases hz:z.length+c.cps.toList.length<=16777216
   ·rw[if_pos hz] at q
    exact⟨z,rfl,hz,Y1,env,h1,st.mono e1,r1,q⟩
   ·rw[if_neg hz] at q;cases q
  |_=>exact (show False from q).elim
 ·obtain ⟨z,rfl,hz,t2⟩:=q1;obtain ⟨t,rfl⟩:=r1
  have key:∀ t' s',Inv X pins U H1 s'->∃ y u,Value.str ⟨z.toArray⟩ t'=.str y u/\(Str.empty++y).length<=sizeLine/\Joins (model X.prog X.w) X.A X.xe (evalEach [.Constant (.str c) j p2,.FormattedValue b (-1) none p3] X.env) (Str.empty++y) (fun out s₁=>out.length<=sizeLine/\EP X pins U Q (.str out s₁.toks) { s₁ with toks:=s₁.toks+1 }) s':=by
   intro t' s' I';have e0:Str.empty++(⟨z.toArray⟩:Str)=⟨z.toArray⟩:=uA [] z;refine⟨⟨z.toArray⟩,t',rfl,by rw[e0,zY,zX];lia,?_⟩;rw[e0];refine thn (L2.pe_str (X:=X) (x:=c) (j:=j) (pos:=p2) pins s' U H1 (fun v H'=>v=V.str c/\H'=H1) I' ⟨rfl,rfl⟩) fun v s2 ⟨x,H2,I2,r2,ex,eh⟩=>?_;subst ex eh;obtain ⟨u,rfl⟩:=r2
   have e1:(⟨z.toArray⟩:Str)++c=⟨(z++c.cps.toList).toArray⟩:=by
    conv=>lhs;rw[<- cc]
    exact uA z c.cps.toList
   refine⟨c,u,rfl,by rw[e1,zY,List.length_append,zX];exact hz,?_⟩;rw[e1];obtain ⟨Y2,env2,h2,st2,rr2,pp2⟩:=t2
   refine wpAny_FormattedValue_plain (thn (hb pins s2 U H2 (fun v H3=>∃ y:Tx,v=V.str ⟨y.toArray⟩/\(z++c.cps.toList).length+y.length<=16777216/\Q (.str ⟨(z++c.cps.toList++y).toArray⟩) H3) I2
    ⟨Y2,env2,h2,st2,rr2,Post.bind pp2 fun Y3 h3 d H3 e3 r3 q v hv=>?_⟩) fun v s3 ⟨x,H3,I3,r3,q3⟩=>?_)
   ·cases d with
    |str y=>
     cases hv;have q:PostV X.K (W.at U) Q Y3 H3 (if (z++c.cps.toList).length+y.length<=16777216 then .ok (.str (z++c.cps.toList++y)) h3 else .bad):=q;obtain ⟨hz2,q⟩:=PostV.ite q
     exact⟨y,rfl,hz2,q.now r3 rfl⟩
    |_=>exact (show False from q).elim
   ·obtain ⟨y,rfl,hz2,qq⟩:=q3;obtain ⟨t3,rfl⟩:=r3
    have last:∀ t4 s4,Inv X pins U H3 s4->∃ y' u',Value.str ⟨y.toArray⟩ t4=.str y' u'/\((⟨(z++c.cps.toList).toArray⟩:Str)++y').length<=sizeLine/\Joins (model X.prog X.w) X.A X.xe (evalEach [] X.env) (⟨(z++c.cps.toList).toArray⟩++y') (fun out s₁=>out.length<=sizeLine/\EP X pins U Q (.str out s₁.toks) { s₁ with toks:=s₁.toks+1 }) s4:=by
     intro t4 s4 I4;have e2:(⟨(z++c.cps.toList).toArray⟩:Str)++⟨y.toArray⟩=⟨(z++c.cps.toList++y).toArray⟩:=uA _ _;have hl:(⟨(z++c.cps.toList++y).toArray⟩:Str).length<=sizeLine:=by rw[zY,List.length_append,zX];exact hz2
     refine⟨⟨y.toArray⟩,t4,rfl,by rw[e2];exact hl,?_⟩;rw[e2]
     exact⟨hl,.str _,H3,I4.tok _,⟨_,rfl⟩,qq⟩
    exact wpAny_formatField_str (last _ _ I3) (last _ _ (I3.tok _)) (by rw[zY,zX];lia)
  exact wpAny_formatField_str (key _ _ I1) (key _ _ (I1.tok _)) (by rw[zY,zX];lia)
end
section
variable {X:Cx}{F:Nat->List D->M D}{W:WX}
end
theorem mY(x:Int):∀ l:List Int,(uS x l).Perm (x::l)
 | []=>.refl _
 |y::r=>by
  unfold uS;split
  ·exact .refl _
  ·exact ((mY x r).cons y).trans (.swap x y r)
theorem qCE:∀ l:List Int,(vB l).Perm l
 | []=>.refl _
 |x::r=>(mY x (vB r)).trans ((qCE r).cons x)
theorem qD4(x:Int):∀ {l:List Int},l.Pairwise (·<=·)->(uS x l).Pairwise (·<=·)
 | [],_=>List.pairwise_singleton ..
 |y::r,h=>by
  unfold uS;obtain ⟨h1,h2⟩:=List.pairwise_cons.mp h;split
  ·rename_i c;refine List.pairwise_cons.mpr ⟨fun z hz=>?_,h⟩;rcases List.mem_cons.mp hz with e | e
   ·lia
   ·have:=h1 z e;lia
  ·rename_i c;refine List.pairwise_cons.mpr ⟨fun z hz=>?_,qD4 x h2⟩;rcases List.mem_cons.mp ((mY x r).mem_iff.mp hz) with e | e
   ·lia
   ·exact h1 z e
theorem qCD:∀ l:List Int,(vB l).Pairwise (·<=·)
 | []=>.nil
 |x::r=>qD4 x (qCD r)
theorem qBn:∀ {a b:List Int},a.Perm b->a.Pairwise (·<=·)->b.Pairwise (·<=·)->a=b
 | [],b,p,_,_=>(List.nil_perm.mp p).symm
 |x::a,[],p,_,_=>absurd p.length_eq (by simp)
 |x::a,y::b,p,ha,hb=>by
  obtain ⟨a1,a2⟩:=List.pairwise_cons.mp ha;obtain ⟨b1,b2⟩:=List.pairwise_cons.mp hb;have hx:x∈y::b:=p.mem_iff.mp (List.mem_cons_self ..);have hy:y∈x::a:=p.mem_iff.mpr (List.mem_cons_self ..)
  have e:x=y:=by
   rcases List.mem_cons.mp hx with e | e
   ·exact e
   ·rcases List.mem_cons.mp hy with z | z
    ·exact z.symm
    ·have:=b1 x e
     have:=a1 y z
     lia
  subst e;rw[qBn ((List.perm_cons x).mp p) a2 b2]
end Fy
namespace Sr
open PySem PyProof.Rows
section
variable {prog:Program}{w:World}{A:Around}{E:Value->Shared->Prop}{s:Shared}
end
end Sr
namespace Fy
open PySem PySem.Spec PyProof.Rows
open L2 (V Hp HO VK TE TT TA TS TI Cx Inv RelV Vals SqL SqT Rd upd qL qH PE PT PA PS PSs EP OpR qN IxR MtR SlR PO TO thn)
theorem qCa{K:PySem.W.Frag}:∀ ns:List Int,RepL K Y H (ns.map .int) (ns.map V.int)
 | []=>rfl
 |n::r=>⟨.int n,_,rfl,rfl,qCa r⟩
theorem vals_ints:∀ {us:List Value} {ns:List Int},IntsAre us ns->Vals (ns.map V.int) us
 | [],[],_=>.nil
 |u::us,n::ns,h=>by
  cases h with
  |cons _ t h2=>exact .cons ⟨_,rfl⟩ (vals_ints h2)
section
variable {X:Cx}{F:Nat->List D->M D}{W:WX}
theorem qQa (hc:X.calm=true):qN X (.builtin "sorted") (rC X.K .sorted):=by
 rintro pins s U H xs us Q I rv ⟨x,rfl,w,Y,h,d,r,hd,p⟩
 cases d with
 |ref i=>
  have p:PostV X.K w Q Y H (match qC h i with | some ds=>cA ds h | none=>.bad):=p;obtain ⟨u,rfl,ru⟩:=L2.Vals.one rv;cases q:qC h i with
  |none=>rw[q] at p;cases p
  |some ds=>
   rw[q] at p;have p:PostV X.K w Q Y H (match jC ds with | some xs=>(if xs.length<64 then newL ((vB xs).map .int) h else .bad) | none=>.bad):=p;cases qb:jC ds with
   |none=>rw[qb] at p;cases p
   |some ns=>
    rw[qb] at p;obtain ⟨h64,p⟩:=PostV.ite (c:=ns.length<64) p;obtain ⟨a,vs,rfl,h1,h2⟩:=r.seen q hd;cases ru;obtain ⟨its,rv',pl,hz⟩:=I.list h1;have hv:=dZ qb h2;subst hv;have hb:=L2.intsAre_of rv';have hl:=pl.isList;have len:=rv'.length;rw[List.length_map] at len;refine sorted_ints hl hb (by lia) fun out ns' o1 o2 o3=>?_;have e:ns'=vB ns:=qBn (o2.trans (qCE ns).symm) o3 (qCD ns);subst e;obtain ⟨e,he⟩:=sortedAll_at s.heap its out;have pv:=PostV.newL p r (qCa (K:=X.K) (Y:=Y) (H:=H) (vB ns))
    exact⟨.ref (s.heap.objs.size+1),_,I.laid (t':=s.toks) (fun _ _=>sortedAll_old) (Nat.le_succ _) (show L2.ObjOk X.prog X.w _ _ _ (.lst ((vB ns).map V.int)) from ⟨pv.1,out.toList,e,vals_ints o1,he⟩),rfl,pv.2 _ (I.hok.fresh (Nat.le_succ _))⟩
 |_=>cases p
end
section
variable {prog:Program}{w:World}{K:Type}[DecidableEq K]{knd:KeyKind prog w K}{A:Around}{E:Value->Shared->Prop}{s:Shared}
end
section
variable {X:Cx}{F:Nat->List D->M D}{W:WX}
end
open L2 (V Hp HO VK TE TT TA TS TI Cx Inv RelV Vals SqL SqT Rd upd qL qH PE PT PA PS PSs EP PI PG PIE Turn qS Ends Un HOk frs)
section
variable {prog:Program}{w:World}{A:Around}{R:Result->Shared->Prop}{s:Shared}
theorem qQL(I:Nat->Shared->Prop)
  (turn:∀ n s,I n s->wpAny (model prog w) A (pyNext it) (fun r s₁=>match r with
   |none=>R (.ok .next) s₁
   |some v=>wpAny (model prog w) A (letOwnedTupleGo target it v) (fun _ s₁'=>wpAny (model prog w) A (assign target env v) (fun _ s₂=>
     wpAny (model prog w) A (forIn ifs true fun c r=>if r=true then do let ok <- isTrue c env (eval c env);pure (ForInStep.yield ok) else pure (ForInStep.yield r)) (fun ok s₃=>
      if ok=true then wpAny (model prog w) A (eval elt env) (fun x s₄=>
       wpAny (model prog w) A (call (.builtin "list.append") [acc,x]) (fun _ s₅=>∃ m,m<n/\I m s₅) (notedBy (model prog w) A env fun e s'=>R (.error e) s') s₄) (notedBy (model prog w) A env fun e s'=>R (.error e) s') s₃
      else ∃ m,m<n/\I m s₃) (notedBy (model prog w) A env fun e s'=>R (.error e) s') s₂) (notedBy (model prog w) A env fun e s'=>R (.error e) s') s₁') (notedBy (model prog w) A env fun e s'=>R (.error e) s') s₁) (notedBy (model prog w) A env fun e s'=>R (.error e) s') s)
  (n:Nat) (h:I n s):codeAny (model prog w) A (.compLoop (.ListComp elt [⟨target,iter,ifs,0⟩] scope pos) 0 it acc env) R s:=by
 refine codeAny_loop rfl I (fun n s hI=>?_) n h;show wpAny _ A ((compTurn (.ListComp elt [⟨target,iter,ifs,0⟩] scope pos) 0 it acc env).onRaise (fun x=>do noteFrame x env;theTreesLotGoes x)) _ _ s;refine wpAny_noted ?_;rw[compTurn_list];refine wpAny_bind (wpAny_standAt (wpAny_bind (wpAny_mono (turn n s hI) (fun r s₁ h₁=>?_) fun _ _ h'=>h')));cases r with
 |none=>exact wpAny_pure h₁
 |some v=>
  refine wpAny_bind (wpAny_mono h₁ (fun _ s₁' h₁'=>?_) fun _ _ h'=>h');refine wpAny_bind (wpAny_mono h₁' (fun _ s₂ h₂=>wpAny_bind (wpAny_mono h₂ (fun ok s₃ h₃=>?_) fun _ _ h'=>h')) fun _ _ h'=>h');cases ok with
  |false=>exact wpAny_pure ⟨rfl,h₃⟩
  |true=>exact wpAny_bind (wpAny_bind (wpAny_mono h₃ (fun x s₄ h₄=>wpAny_bind (wpAny_mono h₄ (fun _ s₅ h₅=>wpAny_pure (wpAny_pure ⟨rfl,h₅⟩)) fun _ _ h'=>h')) fun _ _ h'=>h'))
end
theorem sO:∀ (names:List (Str × NameKind)) (acc:List (Str × Addr)),(∀ y∈names,y.2=.free->∃ c,env.cells.lookup y.1=some c)->(∀ y c,acc.lookup y=some c->env.cells.lookup y=some c) ->
  ∃ cl,(forIn names acc fun (p:Str × NameKind) (r:List (Str × Addr))=>(do if (p.2 == NameKind.free)=true then (do let a <- cellOf env p.1;pure (ForInStep.yield ((p.1,a)::r))) else pure (ForInStep.yield r):Sem (ForInStep (List (Str × Addr)))))=(pure cl:Sem (List (Str × Addr))) /\
   (∀ y c,cl.lookup y=some c->env.cells.lookup y=some c)/\(∀ y∈names,y.2=.free->∃ c,cl.lookup y.1=some c)/\∀ y c,acc.lookup y=some c->∃ c,cl.lookup y=some c
 | [],acc,_,ha=>⟨acc,rfl,ha,fun _ h=>absurd h (by simp),fun y c h=>⟨c,h⟩⟩
 | (n,k)::r,acc,hn,ha=>by
  by_cases hk:k=.free
  ·subst hk;obtain ⟨c,hc⟩:=hn (n,.free) (List.mem_cons_self ..) rfl
   have ha':∀ y d,((n,c)::acc).lookup y=some d->env.cells.lookup y=some d:=fun y d h=>by
    rw[List.lookup_cons] at h;cases q:(y == n) with
    |true=>
     rw[q] at h;cases h
     have:y=n:=by simpa using q
     rw[this];exact hc
    |false=>rw[q] at h;exact ha y d h
   obtain ⟨cl,h1,h2,h3,h4⟩:=sO r ((n,c)::acc) (fun y hy=>hn y (List.mem_cons_of_mem _ hy)) ha';have hl:((n,c)::acc).lookup n=some c:=by rw[List.lookup_cons];simp
   refine⟨cl,?_,h2,fun y hy hf=>?_,fun y d hd=>?_⟩
   ·rw[List.forIn_cons];have e:cellOf env n=pure c:=by unfold cellOf;rw[hc]
    simp only[beq_self_eq_true,if_true,e];exact h1
   ·rcases List.mem_cons.mp hy with rfl | hy
    ·exact h4 n c hl
    ·exact h3 y hy hf
   ·by_cases q:y=n
    ·subst q;exact h4 y c hl
    ·refine h4 y d ?_;rw[List.lookup_cons]
     have:(y == n)=false:=by simpa using q
     rw[this];exact hd
  ·obtain ⟨cl,h1,h2,h3,h4⟩:=sO r acc (fun y hy=>hn y (List.mem_cons_of_mem _ hy)) ha;refine⟨cl,?_,h2,fun y hy hf=>?_,h4⟩
   ·rw[List.forIn_cons];have e:(k == NameKind.free)=false:=by simpa using hk
    simp only[e,Bool.false_eq_true,if_false];exact h1
   ·rcases List.mem_cons.mp hy with rfl | hy
    ·exact absurd hf hk
    ·exact h3 y hy hf
theorem qQP(hn:∀ y∈scope.names,y.2=.free->∃ c,env.cells.lookup y.1=some c) :
  ∃ cl,closureFor scope env=pure cl/\(∀ y c,cl.lookup y=some c->env.cells.lookup y=some c)/\∀ y∈scope.names,y.2=.free->∃ c,cl.lookup y.1=some c:=by
 obtain ⟨cl,h1,h2,h3,_⟩:=sO (env:=env) scope.names [] hn (fun _ _ h=>nomatch h);refine⟨cl,?_,h2,h3⟩;exact (congrArg (fun t:Sem (List (Str × Addr))=>t >>= fun z=>pure z) h1).trans rfl
abbrev noN:Str:=""
def jS(N:List Str)(x:Str):List Str:=N.map fun y=>if y=x then noN else y
theorem cY(N:List Str)(x:Str):(jS N x).length=N.length:=by unfold jS;simp
theorem qLa{i:Nat}(h:(jS N x)[i]?=some y):(N[i]?=some y/\y≠x)\/(N[i]?=some x/\y=noN):=by
 unfold jS at h;rw[List.getElem?_map] at h;cases q:N[i]? with
 |none=>rw[q] at h;cases h
 |some z=>
  rw[q] at h;have h:(if z=x then noN else z)=y:=Option.some.inj h
  by_cases e:z=x
  ·rw[if_pos e] at h;exact .inr ⟨by rw[e],h.symm⟩
  ·rw[if_neg e] at h;exact .inl ⟨by rw[h],h ▸ e⟩
theorem qDC(nd:N.Nodup)(h1:x≠noN)(h2:x∈N->noN∉N):(jS N x++[x]).Nodup:=by
 have inj:∀ a∈N,∀ b∈N,(if a=x then noN else a)=(if b=x then noN else b)->a=b:=fun a ha b hb e=>by
  by_cases ea:a=x
  ·by_cases eb:b=x
   ·rw[ea,eb]
   ·rw[if_pos ea,if_neg eb] at e;exact absurd (e ▸ hb) (h2 (ea ▸ ha))
  ·by_cases eb:b=x
   ·rw[if_neg ea,if_pos eb] at e;exact absurd (e ▸ ha) (h2 (eb ▸ hb))
   ·rw[if_neg ea,if_neg eb] at e;exact e
 rw[List.nodup_append];refine⟨?_,by simp,fun a ha b hb z=>?_⟩
 ·unfold jS
  clear h1 h2
  induction N with
  |nil=>simp
  |cons c r ih=>
   rw[List.nodup_cons] at nd;rw[List.map_cons,List.nodup_cons];refine⟨fun hm=>?_,ih nd.2 fun a ha b hb=>inj a (List.mem_cons_of_mem _ ha) b (List.mem_cons_of_mem _ hb)⟩;obtain ⟨d,hd,e⟩:=List.mem_map.mp hm
   have:=inj d (List.mem_cons_of_mem _ hd) c (List.mem_cons_self ..) e
   exact nd.1 (this ▸ hd)
 ·rw[List.mem_singleton.mp hb] at z;subst z;unfold jS at ha;obtain ⟨d,hd,e⟩:=List.mem_map.mp ha;have e:(if d=a then noN else d)=a:=e
  by_cases q:d=a
  ·rw[if_pos q] at e;exact h1 e.symm
  ·rw[if_neg q] at e;exact q e
def cxC(X:Cx)(x:Str)(scope:Scope)(cl:List (Str × Addr))(C:Addr)(s3:Shared)(H3:Hp)(fp:List Addr)(E:Value->Shared->Prop):Cx:=
 { X with N:=jS X.N x++[x],s₀:=s3,H₀:=H3,env:=compEnvC scope cl C X.env,outer:=X.stack,ex:=fp,fn:=fun _=>false,pn:=[],xe:=E }
structure CompOk (X:Cx) (x:Str) (scope:Scope):Prop where
 kind:scope.kind=.function
 nocell:∀ y∈scope.names,y.2≠.cell
 loc:∀ y∈scope.names,y.2=.local->scope.names.lookup y.1=some .local
 own:scope.names.lookup x=some .local
 free:∀ y∈scope.names,y.2=.free->X.env.kindOf y.1=some .cell\/X.env.kindOf y.1=some .free
 new:x≠noN
 hole:x∈X.N->noN∉X.N/\scope.names.lookup noN=none
 others:∀ y,y≠x->scope.names.lookup y=some .local->y∈X.N->False
section
variable {X:Cx}{x:Str}{scope:Scope}{cl:List (Str × Addr)}{pins:List (Addr × Obj)}{U:L2.St}{H:Hp}{s:Shared}{fp:List Addr}
theorem kL{env:PySem.Env}{y:Str}{k:NameKind}:∀ {names:List (Str × NameKind)},(names.map fun (n,k)=>if (k == NameKind.free&&env.scope.kind == .function&&env.kindOf n == some .cell) then (n,NameKind.cell) else (n,k)).lookup y=some k ->
  names.lookup y=some k\/(names.lookup y=some .free/\k=.cell)
 | [],h=>by simp at h
 | (n,k')::r,h=>by
  have ih:=@kL env y k r;have h:List.lookup y ((if (k' == NameKind.free&&env.scope.kind == .function&&env.kindOf n == some .cell)=true then (n,NameKind.cell) else (n,k'))::(r.map fun (n,k)=>if (k == NameKind.free&&env.scope.kind == .function&&env.kindOf n == some .cell) then (n,NameKind.cell) else (n,k)))=some k:=h
  by_cases hc:(k' == NameKind.free&&env.scope.kind == .function&&env.kindOf n == some .cell)=true
  ·rw[if_pos hc,List.lookup_cons] at h;rw[List.lookup_cons];cases q:(y == n) with
   |true=>
    rw[q] at h;cases h
    have:k'=.free:=by
     simp only[Bool.and_eq_true] at hc;simpa using hc.1.1
    subst this;exact .inr ⟨rfl,rfl⟩
   |false=>rw[q] at h;exact ih h
  ·rw[if_neg hc,List.lookup_cons] at h;rw[List.lookup_cons];cases q:(y == n) with
   |true=>rw[q] at h;exact .inl h
   |false=>rw[q] at h;exact ih h
theorem yD{names:List (Str × NameKind)}(h:names.lookup y=some k):(y,k)∈names:=PySem.mem_of_lookup h
theorem CompOk.vis(C:CompOk X x scope)(hy:y∈X.N)(hne:y≠x)(hv:L2.Vis (relabel scope X.env) y):(scope.names.lookup y=some .free)/\((relabel scope X.env).names.lookup y=some .cell\/(relabel scope X.env).names.lookup y=some .free):=by
 rcases hv with h | h | h
 ·rcases kL h with z | ⟨_,z⟩
  ·exact (C.others y hne z hy).elim
  ·cases z
 ·rcases kL h with z | ⟨z,_⟩
  ·exact absurd rfl (C.nocell _ (yD z))
  ·exact⟨z,.inl h⟩
 ·rcases kL h with z | ⟨z,w⟩
  ·exact⟨z,.inr h⟩
  ·cases w
theorem qQD{C:Addr}{E:Value->Shared->Prop}(K:CompOk X x scope)(I:Inv X pins U H s)(hC:C=s.heap.objs.size)(hcl:∀ y c,cl.lookup y=some c->X.env.cells.lookup y=some c)(hfr:∀ y∈scope.names,y.2=.free->∃ c,cl.lookup y.1=some c)
  (hfp:∀ b∈fp,qS X pins H b) (hlt:∀ b∈fp,b<s.heap.objs.size):(cxC X x scope cl C s H fp E).Ok where
 mod:=I.mod
 kind:=K.kind
 glob:=I.ok.glob
 blt:=I.ok.blt
 above:=by rw[hC];exact Nat.le_refl _
 inj:=fun y z c h1 h2=>I.ok.inj y z c (hcl y c h1) (hcl z c h2)
 has:=fun y hy=>by
  have hy:(relabel scope X.env).names.lookup y=some .cell\/(relabel scope X.env).names.lookup y=some .free:=hy
  have:scope.names.lookup y=some .free:=by
   rcases hy with h | h
   ·rcases kL h with z | ⟨z,_⟩
    ·exact absurd rfl (K.nocell _ (yD z))
    ·exact z
   ·rcases kL h with z | ⟨_,w⟩
    ·exact z
    ·cases w
  exact hfr _ (yD this) rfl
 cab:=fun y c h=>by cases h
 hd:=I.ok.hd
 frames:=I.ok.frames
 stk:=.inl rfl
 exf:=fun b hb=>⟨fun z=>by have:=hlt b hb;rw[show b=C from z,hC] at this;exact absurd this (Nat.lt_irrefl _),fun y c h=>(hfp b hb).2.2.2.2.1 y c (hcl y c h)⟩
 bs:=I.bs
 bsz:=Nat.le_trans I.ok.bsz I.sz
 noex:=fun b o e hb=>by
  obtain ⟨_,_,_,f3,_⟩:=hfp b hb;rcases f3 with z | z
  ·exact I.ok.noex b o e z
  ·exact absurd (Nat.lt_of_lt_of_le (Heap.lt_size e) (Nat.le_trans I.ok.bsz z)) (Nat.lt_irrefl _)
 exfs:=fun b hb z=>by
  obtain ⟨_,f1,f2,_⟩:=hfp b hb;rcases List.mem_cons.mp (I.stkSub b z) with q | q
  ·exact f1 q
  ·exact f2 q
 funs:=I.stack
 frf:=I.stkFree
theorem qQE(K:CompOk X x scope)(I:Inv X pins U H s)(hC:C=s.heap.objs.size)(hcl:∀ y c,cl.lookup y=some c->X.env.cells.lookup y=some c)(hfr:∀ y∈scope.names,y.2=.free->∃ c,cl.lookup y.1=some c)
  (hfp:∀ b∈fp,qS X pins H b) (hlt:∀ b∈fp,b<s.heap.objs.size) (hns:h1.Ns C fun _=>none) (old:∀ b o,s.heap.get? b=some o->h1.get? b=some o) :
  Inv (cxC X x scope cl C s H fp E) [] (U++[none]) H { s with heap:=h1,toks:=tk }:=by
 have ok:(cxC X x scope cl C s H fp E).Ok:=qQD K I hC hcl hfr hfp hlt;have fC:H C=none:=I.hok.fresh (by rw[hC];exact Nat.le_refl _);refine⟨ok,rfl,I.bare,Un.kept old,⟨_,hns,fun i y v e1 e2 e3=>?_⟩,fun y c h=>?_,fC,fun y c h=>I.freeC y c (hcl y c h),fun p hp=>absurd hp (by show p∉([]:List (Addr × Obj))++[];simp),I.hok.kept old,?_⟩
 ·have e1:(jS X.N x++[x])[i]?=some y:=e1
  by_cases hi:i<U.length
  ·rw[List.getElem?_append_left hi] at e2;rw[List.getElem?_append_left (by rw[cY,<- I.len];exact hi)] at e1;rcases qLa e1 with⟨e1,hne⟩ | ⟨e9,rfl⟩
   rotate_left
   ·exfalso;have hz:=(K.hole (List.mem_of_getElem? e9)).2;rcases e3 with z | z | z
    ·rcases kL z with w | ⟨w,_⟩ <;> (rw[hz] at w;cases w)
    ·rcases kL z with w | ⟨w,_⟩ <;> (rw[hz] at w;cases w)
    ·rcases kL z with w | ⟨w,_⟩ <;> (rw[hz] at w;cases w)
   obtain ⟨hf,hk⟩:=K.vis (List.mem_of_getElem? e1) hne e3;have ho:=K.free _ (yD hf) rfl;obtain ⟨m,hn,hl⟩:=I.loc
   have vo:L2.Vis X.env.scope y:=by
    rcases ho with z | z
    ·exact .inr (.inl z)
    ·exact .inr (.inr z)
   obtain ⟨u,r,l⟩:=hl i y v e1 e2 vo;refine⟨u,r,.inr ⟨hk,?_⟩⟩;rcases l with⟨hk',_⟩ | ⟨_,c,hc,o,hoc,hd⟩
   ·rcases ho with z | z
    ·have z:X.env.kindOf y=some .cell:=z;rw[hk'] at z;cases z
    ·have z:X.env.kindOf y=some .free:=z;rw[hk'] at z;cases z
   ·obtain ⟨c',hc'⟩:=hfr _ (yD hf) rfl;have e:=hcl _ _ hc';rw[hc] at e;cases e
    exact⟨c,hc',o,old _ _ hoc,hd⟩
  ·rw[List.getElem?_append_right (Nat.le_of_not_lt hi)] at e2;cases q:i-U.length with
   |zero=>rw[q] at e2;cases e2
   |succ n=>rw[q] at e2;simp at e2
 ·obtain ⟨v,o,ho,hd⟩:=I.cell y c (hcl y c h)
  exact⟨v,o,old _ _ ho,hd⟩
 ·show (U++[none]).length=(jS X.N x++[x]).length;rw[List.length_append,List.length_append,cY,I.len];rfl
end
open L2 (uB V Hp HO VK TE TT TA TS TI Cx Inv RelV Vals SqL SqT Rd upd qL qH PE PT PA PS PSs EP TP PI PG PIE Turn qS Ends Un HOk frs thn)
def cK:Option TT->TT
 |none=>fun _ H Q=>Q true H
 |some t=>t
def gR(K:PySem.W.Frag)(wi:TI)(tt:Option TT)(te:TE):TE:=fun U H Q=>wi U H fun J H1=>∀ d,H1 d=none->K.lookup d=none->∃ W:Nat->Nat->Hp->Prop,(∃ m,W 0 m (upd H1 d (.lst [])))/\∀ i m H,W i m H ->
 (J.stop i H/\Q (.ref d) H)\/(J.go i H/\∀ x H',J.yld i H x H'->cK tt (U++[some x]) H' fun b H2=>if b=true then te (U++[some x]) H2 fun y H3=>∃ ys,H3 d=some (.lst ys)/\ys.length<sizeLine/\∃ m',m'<m/\W (i+1) m' (upd H3 d (.lst (ys++[y]))) else ∃ m',m'<m/\W (i+1) m' H2)
def PTs(X:Cx)(ifs:List Expr):Option TT->Prop
 |none=>ifs=[]
 |some t=>∃ c,ifs=[c]/\PT X c t
section
variable {X:Cx}{x:Str}{scope:Scope}{pins:List (Addr × Obj)}{U:L2.St}{H:Hp}{s:Shared}{elt iter:Expr}{ifs:List Expr}{px pos p:Pos}{wi:TI}{tt:Option TT}{te:TE}{Q:VK}
theorem qHa(h:PTs X ifs t)(I:Inv X pins U H s)(q:cK t U H Q') :
  wpAny (model X.prog X.w) X.A (forIn ifs true fun c r=>if r=true then do let ok <- isTrue c X.env (eval c X.env);pure (ForInStep.yield ok) else pure (ForInStep.yield r)) (TP X pins U Q') X.xe s:=by
 cases t with
 |none=>have h:ifs=[]:=h;subst h;exact wpAny_tests_nil ⟨H,I,q⟩
 |some t=>obtain ⟨c,rfl,hc⟩:=h;exact wpAny_tests_one (hc pins s U H Q' I q)
theorem qEy(K:CompOk X x scope)(nd:X.N.Nodup)(hc:X.calm=true)(hi:PI X (.Name x px) iter wi)(hfs:∀ x,foldedSetIterable iter X.env x=pure x)
  (hin:∀ cl C s3 H3 fp E,PE (cxC X x scope cl C s3 H3 fp E) elt te/\PTs (cxC X x scope cl C s3 H3 fp E) ifs tt) (I:Inv X pins U H s) (h:gR X.K wi tt te U H Q)
  (fin:∀ (d C:Addr) (H':Hp) (s':Shared) (m:Str->Option Value),Inv X pins U H' s'->s'.heap.Ns C m->qS X pins H' C->Q (.ref d) H'->compPost (model X.prog X.w) X.A X.xe use Qf (.ref d) C (.ok .next) s') :
  wpAny (model X.prog X.w) X.A (comprehension (.ListComp elt [⟨.Name x px,iter,ifs,0⟩] scope pos) scope X.env p (newList []) false (eval iter X.env) use) Qf X.xe s:=by
 obtain ⟨cl,hclos,hcl,hfr⟩:=qQP (env:=X.env) (scope:=scope) fun y hy hf=>I.ok.has _ (K.free y hy hf);refine wpAny_comprehension_free (use:=use) rfl hfs hclos K.kind K.loc (thn (hi pins s U H _ I h) fun v s1 h1=>thn h1 fun itv s2 h2=>?_);obtain ⟨it,fp,tn,J,H2,e,I2,T,st2,f2,hR⟩:=h2;subst e;refine wpAny_newObj_type ?_
 obtain ⟨W,⟨m0,w0⟩,turn⟩:=hR s2.heap.objs.size I2.fresh (by
  cases q:X.K.lookup s2.heap.objs.size with
  |none=>rfl
  |some o=>exact absurd (Heap.lt_size (I2.kIn _ o q)) (Nat.lt_irrefl _))
 have I3:=I2.lnew (its:=[]) (ys:=[]) (t':=s2.toks) .nil (Nat.zero_le _);have fd:∀ b∈fp,b<s2.heap.objs.size:=fun b hb=>let ⟨o,e,_⟩:=T.obj _ _ st2 b hb;Heap.lt_size e;have f3:∀ b∈fp,qS X pins (upd H2 s2.heap.objs.size (.lst [])) b:=fun b hb=>⟨by rw[qH (Nat.ne_of_lt (fd b hb))];exact (f2 b hb).1,(f2 b hb).2⟩;have st3:tn 0 (s2.heap.push { cls:=.type "list",data:=.seq ([]:List Value).toArray }):=T.keep _ _ _ st2 fun b _ o e=>Heap.get?_push_of_some _ e;generalize hd:s2.heap.objs.size=d at *;generalize hH3:upd H2 d (.lst [])=H3 at *;generalize hs3:({ s2 with heap:=s2.heap.push { cls:=.type "list",data:=.seq ([]:List Value).toArray },toks:=s2.toks }:Shared)=s3 at *;have st3:tn 0 s3.heap:=by rw[<- hs3];exact st3
 have lt3:∀ b∈fp,b<s3.heap.objs.size:=fun b hb=>let ⟨o,e,_⟩:=T.obj _ _ st3 b hb;Heap.lt_size e;refine wpAny_newFunctionEnv K.nocell (by intro y hy;simp at hy) (fun h1 hns hsb=>?_) K.kind;have old:∀ b o,s3.heap.get? b=some o->h1.get? b=some o:=fun b o e=>hsb.extBut b o (Nat.ne_of_lt (Heap.lt_size e)) (Heap.get?_push_of_some _ e);show codeAny _ _ (.compStart (.ListComp elt [⟨.Name x px,iter,ifs,0⟩] scope pos) 0 (.ref it) (.ref d) (compEnvC scope cl s3.heap.objs.size X.env)) (compPost (model X.prog X.w) X.A X.xe use Qf (.ref d) s3.heap.objs.size) _;generalize hC:s3.heap.objs.size=C at *;have I4:=qQE (E:=notedBy (model X.prog X.w) X.A (compEnvC scope cl C X.env) fun e s'=>compPost (model X.prog X.w) X.A X.xe use Qf (.ref d) C (.error e) s') (tk:=s3.toks+([]:List (Str × Value)).length) K I3 hC.symm hcl hfr f3 (by rw[hC];exact lt3) hns old;obtain ⟨hE,hT⟩:=hin cl C s3 H3 fp (notedBy (model X.prog X.w) X.A (compEnvC scope cl C X.env) fun e s'=>compPost (model X.prog X.w) X.A X.xe use Qf (.ref d) C (.error e) s');generalize hX:cxC X x scope cl C s3 H3 fp (notedBy (model X.prog X.w) X.A (compEnvC scope cl C X.env) fun e s'=>compPost (model X.prog X.w) X.A X.xe use Qf (.ref d) C (.error e) s')=X' at I4 hE hT;have pX:X'.prog=X.prog:=by rw[<- hX];rfl
 have wX:X'.w=X.w:=by rw[<- hX];rfl
 have kX:X'.K=X.K:=by rw[<- hX];rfl
 have aX:X'.A=X.A:=by rw[<- hX];rfl
 have cX:X'.calm=true:=by rw[<- hX];exact hc
 have eX:X'.env=compEnvC scope cl C X.env:=by rw[<- hX];rfl
 have xX:X'.xe=notedBy (model X.prog X.w) X.A (compEnvC scope cl C X.env) fun e s'=>compPost (model X.prog X.w) X.A X.xe use Qf (.ref d) C (.error e) s':=by rw[<- hX];rfl
 have nX:X'.N=jS X.N x++[x]:=by rw[<- hX];rfl
 have sX:X'.s₀=s3:=by rw[<- hX];rfl
 have hX0:X'.H₀=H3:=by rw[<- hX];rfl
 have oX:X'.fs=frs X.stack:=by rw[<- hX];rfl
 have exX:X'.ex=fp:=by rw[<- hX];rfl
 have pnX:X'.pn=[]:=by rw[<- hX];rfl
 have lX:X'.env.locals=C:=by rw[eX];rfl
 have slot:X'.N[U.length]?=some x:=by
  rw[nX,List.getElem?_append_right (by rw[cY,I3.len];exact Nat.le_refl _),cY,I3.len];simp
 have ndX:X'.N.Nodup:=by
  rw[nX];exact qDC nd K.new fun z=>(K.hole z).1
 have locX:L2.Loc X'.env.scope x:=by
  rw[eX];exact .inl (lookup_relabel_local K.own)
 have stat:∀ {H':Hp},(∀ b∈fp,H' b=none)->∀ b∈fp,qS X' [] H' b:=fun hn b hb=>by
  refine⟨hn b hb,?_,?_,.inl (by rw[exX];exact hb),fun y c h=>?_,fun p hp=>?_⟩
  ·rw[lX];exact Nat.ne_of_lt (lt3 b hb)
  ·rw[oX];intro z;rcases List.mem_cons.mp (I3.stkSub b z) with q | q
   ·exact (f3 b hb).2.1 q
   ·exact (f3 b hb).2.2.1 q
  ·rw[eX] at h;exact (f3 b hb).2.2.2.2.1 y c (hcl y c h)
  ·rw[pnX] at hp;simp at hp
 have loop:∀ s':Shared,s'={ s3 with heap:=h1,toks:=s3.toks+([]:List (Str × Value)).length } ->
   codeAny (model X.prog X.w) X.A (.compLoop (.ListComp elt [⟨.Name x px,iter,ifs,0⟩] scope pos) 0 (.ref it) (.ref d) (compEnvC scope cl C X.env)) (compPost (model X.prog X.w) X.A X.xe use Qf (.ref d) C) s':=by
  rintro s' rfl
  refine qQL (fun n s'=>∃ i v H',Inv X' [] (U++[v]) H' s'/\tn i s'.heap/\(∀ b∈fp,H' b=none)/\W i n H') ?_ m0 ⟨0,none,H3,I4,T.keep _ _ _ st3 fun b _ o e=>old b o e,fun b hb=>(f3 b hb).1,w0⟩
  rintro n s4 ⟨i,v4,H4,I4,st4,fr4,w4⟩
  rcases turn i n H4 w4 with⟨stop,qn⟩ | ⟨go,step⟩
  ·have td:=T.done X' pX wX kX cX i [] s4 _ H4 (notedBy (model X.prog X.w) X.A (compEnvC scope cl C X.env) fun e s'=>compPost (model X.prog X.w) X.A X.xe use Qf (.ref d) C (.error e) s') I4 (stat fr4) st4 stop;rw[aX] at td;refine thn td fun r s5 ⟨hr,I5⟩=>?_;subst hr;obtain ⟨m,hn,_⟩:=I5.loc;rw[lX] at hn;have fC:H4 C=none:=by rw[<- lX];exact I5.free
   have un:L2.Un (frs X.stack) fp H3 H4 s3.heap s5.heap:=by
    have:=I5.base
    rw[sX,hX0,oX,exX] at this;exact this
   have IX:Inv X pins U H4 s5:=I3.call' (by have:=I5.os;rw[sX] at this;exact this) un (by have:=I5.hok;rw[pX,wX] at this;exact this) I5.bare fun b hb=>⟨(f3 b hb).2.2.2.1,(f3 b hb).2.1,(f3 b hb).2.2.2.2.1,(f3 b hb).2.2.2.2.2⟩;exact fin d C H4 s5 m IX hn (I3.fpOk (by rw[hC];exact Nat.le_refl _) fC) qn
  ·have ti:=T.item X' pX wX kX cX i [] s4 _ H4 (notedBy (model X.prog X.w) X.A (compEnvC scope cl C X.env) fun e s'=>compPost (model X.prog X.w) X.A X.xe use Qf (.ref d) C (.error e) s') I4 (stat fr4) st4 go;rw[aX] at ti;refine thn ti fun r s5 ⟨u,hr,h5⟩=>?_;subst hr;refine thn h5 fun _ s6 ⟨xv,H6,I6,r6,y6,st6,fr6⟩=>?_;have I6':=I6.pinned (stat fr6) (T.obj _ _ st6)
   have as:=wpAny_assign_Name (pos:=px) (uB (M:=model X.prog X.w) (A:=X.A) (E:=notedBy (model X.prog X.w) X.A (compEnvC scope cl C X.env) fun e s'=>compPost (model X.prog X.w) X.A X.xe use Qf (.ref d) C (.error e) s') (Q:=fun _ s7=>Inv X' ([]++L2.pinsAt fp s6.heap) (U++[some xv]) H6 s7) I6' ndX slot locX r6 (fun s7 I7=>by
    have e:(U++[v4]).set U.length (some xv)=U++[some xv]:=by simp
    rw[e] at I7
    exact I7) (.inr (by rw[eX];exact lookup_relabel_local K.own)))
   rw[eX] at as;refine thn as fun _ s7 I7=>?_;have te:=qHa hT I7 (step xv H6 y6);rw[pX,wX,aX,xX,eX] at te;refine thn te fun ok s8 ⟨H8,I8,q8⟩=>?_
   have again:∀ {H9:Hp} {s9:Shared} {k:Nat},Inv X' ([]++L2.pinsAt fp s6.heap) (U++[some xv]) H9 s9->W (i+1) k H9->∃ i v H',Inv X' [] (U++[v]) H' s9/\tn i s9.heap/\(∀ b∈fp,H' b=none)/\W i k H':=fun {H9 s9 k} I9 w9=>by
    refine⟨i+1,some xv,H9,I9.unpinned,T.keep _ _ _ st6 fun b hb o e=>(I9.pin (b,o) (List.mem_append_right _ (List.mem_append_right _ (L2.mem_pinsAt hb e)))).1,fun b hb=>?_,w9⟩;obtain ⟨o,e,_⟩:=T.obj _ _ st6 b hb;exact (I9.pin (b,o) (List.mem_append_right _ (List.mem_append_right _ (L2.mem_pinsAt hb e)))).2.1
   cases ok with
   |false=>
    obtain ⟨m',hm,w9⟩:=q8
    exact⟨m',hm,again I8 w9⟩
   |true=>
    have ev:=hE _ s8 _ H8 _ I8 q8;rw[pX,wX,aX,xX,eX] at ev;refine thn ev fun y s9 ⟨yv,H9,I9,r9,ys,hd9,hz,m',hm,w9⟩=>?_;have ap:=L2.mt_append (X:=X') _ s9 _ H9 (.ref d) [yv] (.ref d) [y] (fun _ H'=>H'=upd H9 d (.lst (ys++[yv]))) I9 rfl (.cons r9 .nil) ⟨d,ys,yv,rfl,rfl,hd9,hz,rfl⟩;rw[pX,wX,aX,xX] at ap;refine thn ap fun z s10 ⟨_,H10,I10,_,e10⟩=>?_;subst e10
    exact⟨m',hm,again I10 w9⟩
 exact codeAny_compStart_list (loop _ rfl) (T.self _ 0 _ _ _ (T.keep _ _ _ st3 fun b _ o e=>old b o e) (loop _ rfl))
theorem qGh(I:Inv X pins U H' s')(f:qS X pins H' C)(hs:Heap.SameBut C s'.heap h'):Inv X pins U H' { s' with heap:=h' }:=
 I.turned (t':=s'.toks) (fun b o hb e=>hs.extBut b o hb e) f.1 f.2.1 f.2.2.2.1 f.2.2.2.2.1 f.2.2.2.2.2
theorem cH(K:CompOk X x scope)(nd:X.N.Nodup)(hc:X.calm=true)(hi:PI X (.Name x px) iter wi)(hfs:∀ x,foldedSetIterable iter X.env x=pure x)
  (hin:∀ cl C s3 H3 fp E,PE (cxC X x scope cl C s3 H3 fp E) elt te/\PTs (cxC X x scope cl C s3 H3 fp E) ifs tt):PE X (.ListComp elt [⟨.Name x px,iter,ifs,0⟩] scope pos) (gR X.K wi tt te):=by
 intro pins s U H Q I h;rw[eval_ListComp];refine qEy (use:=none) K nd hc hi hfs hin I h fun d C H' s' m IX hn f q=>?_
 exact⟨m,hn,fun h' hs'=>⟨.ref d,H',qGh IX f hs',rfl,q⟩⟩
theorem qCj(K:CompOk X x scope)(nd:X.N.Nodup)(hc:X.calm=true)(hi:PI X (.Name x px) iter wi)(hfs:∀ x,foldedSetIterable iter X.env x=pure x)
  (hin:∀ cl C s3 H3 fp E,PE (cxC X x scope cl C s3 H3 fp E) elt te/\PTs (cxC X x scope cl C s3 H3 fp E) ifs tt) (hy:X.N[i]?=some y) (hk:X.env.scope.names.lookup y=some .local)
  (hsw:swapsWith (.ListComp elt [⟨.Name x px,iter,ifs,0⟩] scope pos) (some (.Name y py)) spos.line X.env=pure true) :
  PS X (.Assign [.Name y py] (.ListComp elt [⟨.Name x px,iter,ifs,0⟩] scope pos) spos) (fun D U H=>gR X.K wi tt te U H fun v H'=>D.nx (U.set i (some v)) H'):=by
 intro pins s U H D I h;rw[exec_Assign_Name_used _ _ _ _ hsw];refine wpAny_bind (wpAny_standAt (wpAny_bind ?_));show wpAny _ X.A (do let _ <- comprehension (.ListComp elt [⟨.Name x px,iter,ifs,0⟩] scope pos) scope X.env _ (newList []) false (eval iter X.env) (some (assign (.Name y py) X.env))) _ _ s;refine wpAny_bind (wpAny_mono (qEy (use:=some (assign (.Name y py) X.env)) (Qf:=fun _ s'=>L2.SP X pins D .next s') K nd hc hi hfs hin I h fun d C H' s' m IX hn f q=>?_) (fun _ s' hq=>wpAny_pure (wpAny_pure hq)) fun _ _ e=>e);obtain ⟨oC,es,ep,hC,hr⟩:=id hn;have dC:∀ v,oC.data≠.cell v:=fun v z=>by rw[hr.1] at z;cases z
 have IP:Inv X (pins++[(C,oC)]) U H' s':=IX.pins_of fun p hp=>by
  rcases List.mem_append.mp hp with z | z
  ·exact IX.pin p (List.mem_append_right _ z)
  ·have e:p=(C,oC):=List.mem_singleton.mp z;subst e
   exact⟨hC,f.1,f.2.1,f.2.2.1,dC⟩
 show wpAny _ X.A (assign (.Name y py) X.env (.ref d)) _ _ _;refine wpAny_assign_Name (uB IP nd hy (.inl hk) (v:=.ref d) rfl (fun s7 I7=>?_) (.inr hk));have k7:=(I7.pin (C,oC) (List.mem_append_right _ (List.mem_append_right _ (List.mem_singleton.mpr rfl)))).1
 exact⟨m,⟨oC,es,ep,k7,hr⟩,fun h' hs'=>⟨_,H',qGh I7.unpinned f hs',q⟩⟩
end
structure CompM (X:Cx) (N' xs:List Str) (scope:Scope):Prop where
 kind:scope.kind=.function
 nocell:∀ y∈scope.names,y.2≠.cell
 loc:∀ y∈scope.names,y.2=.local->scope.names.lookup y.1=some .local
 own:∀ x∈xs,scope.names.lookup x=some .local
 free:∀ y∈scope.names,y.2=.free->X.env.kindOf y.1=some .cell\/X.env.kindOf y.1=some .free
 len:N'.length=X.N.length
 nd:(N'++xs).Nodup
 get:∀ (i:Nat) (y:Str),N'[i]?=some y->(X.N[i]?=some y/\y∉xs)\/scope.names.lookup y=none
 others:∀ y,y∉xs->scope.names.lookup y=some .local->y∈X.N->False
section
variable {X:Cx}{N' xs:List Str}{scope:Scope}{cl:List (Str × Addr)}{pins:List (Addr × Obj)}{U:L2.St}{H:Hp}{s:Shared}{fp:List Addr}
theorem CompM.vis(C:CompM X N' xs scope)(hy:y∈X.N)(hne:y∉xs)(hv:L2.Vis (relabel scope X.env) y):(scope.names.lookup y=some .free)/\((relabel scope X.env).names.lookup y=some .cell\/(relabel scope X.env).names.lookup y=some .free):=by
 rcases hv with h | h | h
 ·rcases kL h with z | ⟨_,z⟩
  ·exact (C.others y hne z hy).elim
  ·cases z
 ·rcases kL h with z | ⟨z,_⟩
  ·exact absurd rfl (C.nocell _ (yD z))
  ·exact⟨z,.inl h⟩
 ·rcases kL h with z | ⟨z,w⟩
  ·exact⟨z,.inr h⟩
  ·cases w
end
section
variable {X:Cx}{N' xs:List Str}{scope:Scope}{pins:List (Addr × Obj)}{U:L2.St}{H:Hp}{s:Shared}{tg elt iter:Expr}{g:L2.TG}{ifs:List Expr}{pos p:Pos}{wi:TI}{tt:Option TT}{te:TE}{Q:VK}
end
def yU(K:PySem.W.Frag)(Y:List Addr)(H:Hp):It->L2.It->Prop
 | .row xs,J=>(∀ (i:Nat) Y' H',Step Y H Y' H'->i<xs.length->J.go i H')/\(∀ (i:Nat) Y' H' x H'',Step Y H Y' H'->i<xs.length->J.yld i H' x H''->H''=H'/\∃ d,xs[i]?=some d/\RepV K Y' H' d x)/\∀ (i:Nat) Y' H',Step Y H Y' H'->i=xs.length->J.stop i H'
 | .live k,J=>∃ a,Y[k]?=some a/\J=L2.Itl K a
 | .pairs xs,J=>(∀ (i:Nat) Y' H',Step Y H Y' H'->i<xs.length->J.go i H')/\(∀ (i:Nat) Y' H' x H'',Step Y H Y' H'->i<xs.length->J.yld i H' x H''->∃ p u,H' p=none/\H''=upd H' p u/\∃ d,xs[i]?=some d/\RepV K Y' H'' d x)/\∀ (i:Nat) Y' H',Step Y H Y' H'->i=xs.length->J.stop i H'
def tDI(K:PySem.W.Frag)(W:WX)(m:Env->M It):TI:=fun U H R=>∃ Y env h,RepS K Y H env U/\RepH K Y h H/\Post K (W.at U) (fun Y' H' r=>∀ J,yU K Y' H' r J->R J H') Y H (m env h)
theorem PI.imp(h:PI X tg e t)(i:∀ U H R,t' U H R->t U H R):PI X tg e t':=fun pins s U H R I q=>h pins s U H R I (i U H R q)
theorem qCY{K:PySem.W.Frag}(lo:Int)(n:Nat):yU K Y H (.row (kC lo n)) (L2.Itr lo n):=by
 have hl:(kC lo n).length=n:=by unfold kC;simp
 refine⟨fun i Y' H' _ hi=>by rw[hl] at hi;exact hi,fun i Y' H' x H'' _ hi y=>?_,fun i Y' H' _ hi=>by rw[hl] at hi;exact Nat.le_of_eq hi.symm⟩;obtain ⟨rfl,rfl⟩:=y;rw[hl] at hi;refine⟨rfl,.int (lo+i),?_,rfl⟩;unfold kC;rw[List.getElem?_map,List.getElem?_range hi];rfl
theorem qIu{K:PySem.W.Frag}(x:Tx):yU K Y H (.row (x.map fun c=>D.str [c])) (Its ⟨x.toArray⟩):=by
 have hl:(x.map fun c=>D.str [c]).length=x.toArray.size:=by simp
 refine⟨fun i Y' H' _ hi=>by rw[hl] at hi;exact hi,fun i Y' H' z H'' _ hi y=>?_,fun i Y' H' _ hi=>by rw[hl] at hi;exact hi⟩;obtain ⟨rfl,c,hc,rfl⟩:=y;refine⟨rfl,.str [c],?_,rfl⟩;have hc:x.toArray[i]?=some c:=hc;rw[List.getElem?_map];rw[List.getElem?_toArray] at hc;rw[hc];rfl
theorem qIt{K:PySem.W.Frag}(ha:SqT K H a vs)(hx:RepL K Y H xs vs):yU K Y H (.row xs) (L2.Itt K a):=by
 have hl:=hx.length;refine⟨fun i Y' H' e hi=>?_,fun i Y' H' z H'' e hi y=>?_,fun i Y' H' e hi=>⟨vs,e.sqt ha,by lia⟩⟩
 ·exact⟨vs,vs[i]'(by lia),e.sqt ha,by simp[show i<vs.length by lia]⟩
 ·obtain ⟨rfl,y⟩:=y;have q:xs[i]?=some xs[i]:=by simp[hi]
  obtain ⟨w,h1,h2⟩:=hx.get q;have y':=y vs (e.sqt ha);rw[h1] at y';cases y'
  exact⟨rfl,_,q,h2.mono e _ _⟩
section
variable {X:Cx}{F:Nat->List D->M D}{tg:Expr}{W:WX}
theorem qPe(he:PE X e (tD X.K W (den F c))):PI X tg e (tDI X.K W (jF F (.of c))):=PI.imp (qJH he) fun U H Rr t=>by
 obtain ⟨Y,env,h,s,r,p⟩:=t;dsimp only[jF] at p;refine⟨Y,env,h,s,r,Post.bind p fun Y1 h1 d H1 e1 r1 q v hv=>?_⟩;cases d with
 |str x=>cases hv;exact .inr (.inr ⟨_,rfl,Post.ret (a:=It.row (x.map fun c=>D.str [c])) q r1 _ (qIu x)⟩)
 |tup xs=>obtain ⟨a,vs,rfl,k1,k2⟩:=hv;exact .inr (.inl ⟨a,rfl,⟨vs,k1⟩,Post.ret (a:=It.row xs) q r1 _ (qIt k1 k2)⟩)
 |ref i=>
  have q:Post X.K (W.at U) _ Y1 H1 (match qC h1 i with | some _=>R.ok (It.live i) h1 | none=>.bad):=q;cases z:qC h1 i with
  |none=>rw[z] at q;cases q
  |some xs=>rw[z] at q;obtain ⟨a,k1,rfl⟩:=hv;obtain ⟨b,vs,k2,k3,_⟩:=r1.list z;rw[k1] at k2;cases k2;exact .inl ⟨a,rfl,⟨vs,k3⟩,Post.ret (a:=It.live i) q r1 _ ⟨a,k1,rfl⟩⟩
 |_=>cases q
theorem qPd (hgl:L2.Gl X "range") (hm:X.mg "range"=none) (he:PE X a (tD X.K W (den F c))) (hst:starEach [a] X.env=[(false,eval a X.env)]) :
  PI X tg (.Call (.Name "range" p1) [a] [] p2) (tDI X.K W (jF F (.rng1 c))):=PI.imp (L2.pi_range1 hgl hm (L2.pa_cons he L2.pa_nil hst) hst) fun U H R t=>by
 obtain ⟨Y,env,h,s,r,p⟩:=t;dsimp only[jF] at p;refine⟨Y,env,h,s,r,Post.bind p fun Y1 h1 d H1 e1 r1 q v hv=>?_⟩;cases d with
 |int j=>
  cases hv;obtain ⟨z,q⟩:=Post.when q
  exact⟨j,rfl,by have:=z.1;lia,by have:=z.2;lia,Post.ret q r1 _ (qCY 0 j.toNat)⟩
 |_=>cases q
theorem qPc (hgl:L2.Gl X "range") (hm:X.mg "range"=none) (he:PE X a (tD X.K W (den F c))) (he':PE X b (tD X.K W (den F c'))) (hst:starEach [a,b] X.env=[(false,eval a X.env),(false,eval b X.env)]) (hst2:starEach [b] X.env=[(false,eval b X.env)]) :
  PI X tg (.Call (.Name "range" p1) [a,b] [] p2) (tDI X.K W (jF F (.rng2 c c'))):=PI.imp (L2.pi_range2 hgl hm (L2.pa_cons he (L2.pa_cons he' L2.pa_nil hst2) (by rw[hst,hst2])) hst hst2) fun U H R t=>by
 obtain ⟨Y,env,h,s,r,p⟩:=t;dsimp only[jF] at p;refine⟨Y,env,h,s,r,Post.bind p fun Y1 h1 d H1 e1 r1 q v hv=>?_⟩;refine⟨Y1,env,h1,s.mono e1,r1,Post.bind q fun Y2 h2 d2 H2 e2 r2 q2 w hw=>?_⟩;have hv:=hv.mono e2 _ _;cases d with
 |int i=>
  cases d2 with
  |int j=>
   cases hv;cases hw;obtain ⟨z,q⟩:=Post.when q2
   exact⟨i,j,rfl,⟨by have:=z.1.1;lia,by have:=z.1.2;lia,by have:=z.2.1;lia,by have:=z.2.2;lia⟩,Post.ret q r2 _ (qCY i _)⟩
  |_=>cases q2
 |_=>cases q2
def qBf(lo c:Int)(n:Nat):L2.It:=⟨fun i _=>i<n,fun i H x H'=>H'=H/\x=.int (lo+i*c),fun i _=>n<=i⟩
theorem qIv{K:PySem.W.Frag}(lo c:Int)(n:Nat):yU K Y H (.row (vP lo c n)) (qBf lo c n):=by
 have hl:(vP lo c n).length=n:=by unfold vP;simp
 refine⟨fun i Y' H' _ hi=>by rw[hl] at hi;exact hi,fun i Y' H' x H'' _ hi y=>?_,fun i Y' H' _ hi=>by rw[hl] at hi;exact Nat.le_of_eq hi.symm⟩;obtain ⟨rfl,rfl⟩:=y;rw[hl] at hi;refine⟨rfl,.int (lo+i*c),?_,rfl⟩;unfold vP;rw[List.getElem?_map,List.getElem?_range hi];rfl
theorem qHL{P:Program}{w:World}{K:PySem.W.Frag}{tg:Expr}(it:Addr)(lo c:Int)(n:Nat):Turn P w K tg (qBf lo c n) [it] it (fun i h=>IsRangeIter h it (lo+(i:Nat)*c) ((n:Int)-(i:Nat)) c) where
 mem:=by simp
 obj:=fun i h st b hb=>by
  have e:b=it:=by simpa using hb
  subst e
  exact⟨_,st,fun v z=>by
   have z':Data.fields _=Data.cell v:=z
   cases z'⟩
 keep:=fun i h h' st k=>k it (by simp) _ st
 item:=by
  intro X hP hw hK hc i pins s U H E I hf st hg;subst hP hw hK;obtain ⟨f0,f1,f2,f3,f4,f5⟩:=hf it (by simp);have W:=Walks.range (prog:=X.prog) (w:=X.w) (I.ok.hd hc) it lo c n;refine W.item i s _ _ hg st fun v h' tk hv st' kk=>?_;obtain ⟨t,rfl⟩:=hv;have I1:Inv X pins U H { s with heap:=h',toks:=tk }:=I.turned (fun b o hb e=>kk b o (by simpa using hb) e) f0 f1 f3 f4 f5
  exact⟨_,rfl,L2.go_of (s:={ s with heap:=h',toks:=tk }) (n:="range_iterator") st' rfl rfl (by decide) ⟨.int (lo+i*c),H,I1,⟨t,rfl⟩,⟨rfl,rfl⟩,st',fun b hb=>(hf b hb).1⟩⟩
 done:=by
  intro X hP hw hK hc i pins s U H E I hf st hg;subst hP hw hK;obtain ⟨f0,f1,f2,f3,f4,f5⟩:=hf it (by simp);exact wpAny_pyNext_range_end (I.ok.hd hc) st (by have:n<=i:=hg;lia) fun h' eb=>⟨rfl,I.turned (t':=s.toks) (fun b o hb e=>eb b o hb e) f0 f1 f3 f4 f5⟩
 self:=fun _ _ _ _ _ st h=>wpAny_pyIter_rangeiter st h
theorem qC6(hk:0<k):Builtin.Range.rangeSize i j k=(nS i j k:Nat)/\(i<j->(nS i j k:Int)<=j-i):=by
 unfold Builtin.Range.rangeSize nS;rw[if_pos hk]
 by_cases h:i<j
 ·rw[if_pos h,if_pos h];have h1:0<=(j-i-1) / k:=Int.ediv_nonneg (by lia) (by lia);have h2:(j-i-1) / k<=j-i-1:=Int.ediv_le_self _ (by lia)
  exact⟨by lia,fun _=>by lia⟩
 ·rw[if_neg h,if_neg h]
  exact⟨rfl,fun z=>absurd z h⟩
theorem qIE(h1:zU i)(h2:zU j)(hk:0<k)(hk':k<1073741824):Builtin.Range.small i j k=true:=by
 unfold Builtin.Range.small;obtain ⟨e,hle⟩:=qC6 (i:=i) (j:=j) hk;obtain ⟨a1,a2⟩:=h1;obtain ⟨b1,b2⟩:=h2
 have hz:(nS i j k:Int)<9223372036854775808:=by
  by_cases h:i<j
  ·have:=hle h;lia
  ·have:nS i j k=0:=if_neg h
   lia
 rw[e];simp only[Builtin.Range.rangeFitsLong,Bool.and_eq_true,Bool.or_eq_true,decide_eq_true_eq,beq_iff_eq,if_pos hk];refine⟨⟨⟨⟨⟨by lia,by lia⟩,by lia,by lia⟩,by lia,by lia⟩,by lia,by lia⟩,.inr ⟨by lia,by lia⟩⟩
theorem qPb (hgl:L2.Gl X "range") (hm:X.mg "range"=none) (he:PE X a (tD X.K W (den F c))) (he':PE X b (tD X.K W (den F c'))) (he'':PE X d (tD X.K W (den F c''))) (hst:starEach [a,b,d] X.env=[(false,eval a X.env),(false,eval b X.env),(false,eval d X.env)]) (hst2:starEach [b,d] X.env=[(false,eval b X.env),(false,eval d X.env)]) (hst3:starEach [d] X.env=[(false,eval d X.env)]) :
  PI X tg (.Call (.Name "range" p1) [a,b,d] [] p2) (tDI X.K W (jF F (.rng3 c c' c''))):=by
 intro pins s0 U H R I t;have ha:=L2.pa_cons he (L2.pa_cons he' (L2.pa_cons he'' L2.pa_nil hst3) (by rw[hst2,hst3])) (by rw[hst,hst2]);obtain ⟨Y,env,h,s,r,p⟩:=t;dsimp only[jF] at p;refine Call_ (L2.ld_blt I hgl hm boot_range (PyProof.Rows.callWith_type1 (thn (ha p2 pins s0 U H (fun vs H1=>∃ i j k:Int,vs=[.int i,.int j,.int k]/\(zU i/\zU j)/\(0<k/\k<1073741824)/\R (qBf i k (nS i j k)) H1) I ?_) fun us s1 ⟨vs,H1,I1,r1,q1⟩=>?_) (by rw[hst,hst2]) (by rw[hst2];rfl)))
 ·refine⟨Y,env,h,s,r,Post.bind p fun Y1 h1 d1 H1 e1 r1 q v hv=>?_⟩;refine⟨Y1,env,h1,s.mono e1,r1,Post.bind q fun Y2 h2 d2 H2 e2 r2 q2 w hw=>?_⟩;refine⟨Y2,env,h2,(s.mono e1).mono e2,r2,Post.bind q2 fun Y3 h3 d3 H3 e3 r3 q3 z hz=>?_⟩;have hv:=(hv.mono e2 _ _).mono e3 _ _;have hw:=hw.mono e3 _ _;cases d1 with
  |int i=>
   cases d2 with
   |int j=>
    cases d3 with
    |int k=>
     cases hv;cases hw;cases hz;obtain ⟨z,q⟩:=Post.when q3
     exact⟨i,j,k,rfl,z.1,z.2,Post.ret q r3 _ (qIv i k _)⟩
    |_=>cases q3
   |_=>cases q3
  |_=>cases q3
 ·obtain ⟨i,j,k,e,z1,z2,q⟩:=q1;subst e;cases r1 with
  |cons ra rr=>
   cases rr with
   |cons rb rr=>
    cases rr with
    |cons rc rr=>
     cases rr;obtain ⟨ta,rfl⟩:=ra;obtain ⟨tb,rfl⟩:=rb;obtain ⟨tc,rfl⟩:=rc;refine call_range_3 (by lia) ?_ (Or.inl (PyProof.noPylong_small (by lia)));refine wpAny_pyIter_range (IsRange.new ..) (qIE z1.1 z1.2 z2.1 z2.2) ?_;have I2:Inv X pins U H1 { s1 with heap:=s1.heap.push { cls:=.type "range",data:=.fields #[.int i ta,.int j tb,.int k tc] },toks:=s1.toks }:=I1.kept fun b o e=>Heap.get?_push_of_some _ e
     refine⟨(s1.heap.push { cls:=.type "range",data:=.fields #[.int i ta,.int j tb,.int k tc] }).objs.size,[(s1.heap.push { cls:=.type "range",data:=.fields #[.int i ta,.int j tb,.int k tc] }).objs.size],_,_,H1,rfl,
      I2.kept (t':=s1.toks) fun b o e=>Heap.get?_push_of_some _ e,qHL _ i k (nS i j k),?_,fun b hb=>?_,q⟩
     ·have e1:i+((0:Nat):Int)*k=i:=by simp
      have e2:((nS i j k:Nat):Int)-((0:Nat):Int)=Builtin.Range.rangeSize i j k:=by rw[(qC6 z2.1).1];simp
      show IsRangeIter _ _ (i+((0:Nat):Int)*k) (((nS i j k:Nat):Int)-((0:Nat):Int)) k;rw[e1,e2];exact Heap.get?_push_size _ rfl
     ·have e:b=(s1.heap.push { cls:=.type "range",data:=.fields #[.int i ta,.int j tb,.int k tc] }).objs.size:=by simpa using hb
      subst e;exact I2.fpOk (Nat.le_refl _) (I2.hok.fresh (Nat.le_refl _))
end
def del(H:Hp)(d:Addr):Hp:=fun b=>if b=d then none else H b
theorem wQ:del H d d=none:=if_pos rfl
theorem wA(h:b≠d):del H d b=H b:=if_neg h
theorem vF:del (upd H d o) d=del H d:=by
 funext b
 by_cases h:b=d
 ·rw[h,wQ,wQ]
 ·rw[wA h,wA h,qH h]
theorem iJ(h:H d=some o):upd (del H d) d o=H:=by
 funext b
 by_cases hb:b=d
 ·rw[hb,qL,h]
 ·rw[qH hb,wA hb]
theorem gD(h:H d=none):del H d=H:=by
 funext b
 by_cases hb:b=d
 ·rw[hb,wQ,h]
 ·rw[wA hb]
section
variable {K:PySem.W.Frag}{Y:List Addr}{H:Hp}{d:Addr}{ys:List V}
theorem qB1(hd:H d=some (.lst ys))(h:SqT K H a vs):SqT K (del H d) a vs:=by
 rcases h with (h | ⟨o,h⟩) | h
 ·exact .inl (.inl (by rw[wA (by rintro rfl;rw[hd] at h;cases h)];exact h))
 ·exact .inl (.inr ⟨o,by rw[wA (by rintro rfl;rw[hd] at h;cases h)];exact h⟩)
 ·exact .inr h
mutual
theorem RepV.sq(hs:∀ b us,SqT K H b us->SqT K H' b us):∀ (x:D) (v:V),RepV K Y H x v->RepV K Y H' x v
 | .non,_,h=>h
 | .bl _,_,h=>h
 | .int _,_,h=>h
 | .str _,_,h=>h
 | .tup xs,v,⟨a,vs,h1,h2,h3⟩=>⟨a,vs,h1,hs _ _ h2,RepL.sq hs xs vs h3⟩
 | .ref _,_,h=>h
theorem RepL.sq(hs:∀ b us,SqT K H b us->SqT K H' b us):∀ (xs:List D) (vs:List V),RepL K Y H xs vs->RepL K Y H' xs vs
 | [],_,h=>h
 |x::xs,_,⟨v,r,h1,h2,h3⟩=>⟨v,r,h1,RepV.sq hs x v h2,RepL.sq hs xs r h3⟩
end
theorem RepF.sq{H':Hp}(hs:∀ b us,SqT K H b us->SqT K H' b us){C:Addr}:∀ (xs:List (Nat × D)) (vs:List (Str × V)),RepF K Y H C xs vs->RepF K Y H' C xs vs
 | [],_,h=>h
 |x::xs,_,⟨v,r,h1,hb,hn,h2,h3⟩=>⟨v,r,h1,hb,hn,RepV.sq hs _ v h2,RepF.sq hs xs r h3⟩
theorem RepK.sq{H':Hp}(hs:∀ b us,SqT K H b us->SqT K H' b us):∀ (xs:List (Ky × D)) (vs:List (L2.Key × V)),RepK K Y H xs vs->RepK K Y H' xs vs
 | [],_,h=>h
 |x::xs,_,⟨v,r,h1,h2,h3⟩=>⟨v,r,h1,RepV.sq hs _ v h2,RepK.sq hs xs r h3⟩
theorem RepO.sq{H':Hp}(hs:∀ b us,SqT K H b us->SqT K H' b us){o:O}{a:Addr}(na:H' a=H a)(h2:RepO K Y H o a):RepO K Y H' o a:=by
 cases o with
 |lst xs=>
  obtain ⟨vs,k1,k2⟩:=h2
  exact⟨vs,by rw[na];exact k1,k2.sq hs _ _⟩
 |rol xs=>
  obtain ⟨vs,k1,k2⟩:=h2;refine⟨vs,?_,k2.sq hs _ _⟩;rcases k1 with⟨ob,k1⟩ | k1
  ·exact .inl ⟨ob,by rw[na];exact k1⟩
  ·exact .inr k1
 |ins c fs=>
  obtain ⟨C,dx,vs,k1,kc,k2,k3⟩:=h2
  exact⟨C,dx,vs,k1,kc,by rw[na];exact k2,k3.sq hs _ _⟩
 |dct kvs=>
  obtain ⟨vs,k1,k2⟩:=h2
  exact⟨vs,by rw[na];exact k1,k2.sq hs _ _⟩
 |xc c=>
  obtain ⟨C,k1,k2⟩:=h2
  exact⟨C,k1,by rw[na];exact k2⟩
 |rod kvs=>
  obtain ⟨ob,vs,k1,k2⟩:=h2
  exact⟨ob,vs,by rw[na];exact k1,k2.sq hs _ _⟩
theorem RepV.del(hd:H d=some (.lst ys))(x:D)(v:V)(h:RepV K Y H x v):RepV K Y (del H d) x v:=RepV.sq (fun _ _=>qB1 hd) x v h
theorem RepH.del{h:AH}(r:RepH K Y h H)(hd:H d=some (.lst ys))(hn:d∉Y):RepH K Y h (del H d):=by
 refine⟨r.len,fun i o hi=>?_,r.inj⟩;obtain ⟨a,h1,h2⟩:=r.obj i o hi
 exact⟨a,h1,h2.sq (fun _ _=>qB1 hd) (wA (by
  rintro rfl
  exact hn (List.mem_of_getElem? h1)))⟩
theorem RepH.not{h:AH}(r:RepH K Y h H)(hd:H d=none)(hK:K.lookup d=none):d∉Y:=fun z=>by
 obtain ⟨k,hk⟩:=List.getElem?_of_mem z;have hlt:=(List.getElem?_eq_some_iff.mp hk).1;obtain ⟨a,h2,h3⟩:=r.obj k _ (List.getElem?_eq_getElem (by rw[<- r.len];exact hlt));rw[hk] at h2;cases h2;generalize h[k]'(by rw[<- r.len];exact hlt)=o at h3;cases o with
 |lst xs=>obtain ⟨vs,z1,_⟩:=h3;rw[hd] at z1;cases z1
 |rol xs=>
  obtain ⟨vs,z1,_⟩:=h3;rcases z1 with⟨ob,z1⟩ | ⟨ob,its,n,z1,_⟩
  ·rw[hd] at z1;cases z1
  ·rw[hK] at z1;cases z1
 |ins c fs=>obtain ⟨C,dx,vs,_,_,z1,_⟩:=h3;rw[hd] at z1;cases z1
 |dct kvs=>obtain ⟨vs,z1,_⟩:=h3;rw[hd] at z1;cases z1
 |xc c=>obtain ⟨C,_,z1⟩:=h3;rw[hd] at z1;cases z1
 |rod kvs=>obtain ⟨ob,vs,z1,_⟩:=h3;rw[hd] at z1;cases z1
theorem Step.del(e:Step Y H Y' H')(hn:d∉Y)(hd:H d=some (.lst ys)):Step Y (del H d) Y' (del H' d)/\d∉Y'/\H' d=some (.lst ys):=by
 refine⟨⟨e.pre,fun a ha=>?_,fun a o h c=>?_⟩,fun z=>?_,e.keep _ _ hd (.inr hn)⟩
 ·rcases e.new a ha with z | z
  ·exact .inl z
  ·refine .inr ?_
   by_cases q:a=d
   ·rw[q];exact wQ
   ·rw[wA q];exact z
 ·have na:a≠d:=by
   rintro rfl
   rw[wQ] at h;cases h
  rw[wA na] at h ⊢;exact e.keep a o h c
 ·rcases e.new d z with q | q
  ·exact hn q
  ·rw[hd] at q;cases q
end
theorem qCX{α β:Type}(a:α)(f:α->M β):M.bind (M.ret a) f=f a:=rfl
theorem qLc(f:D->M (Option D))(x:D)(r acc:List D):(M.bind (zL f (x::r)) fun rest=>newL (acc++rest))=M.bind (f x) fun y=>M.bind (zL f r) fun rest=>newL ((acc++y.toList)++rest):=by
 rw[zL,kG];congr 1;funext y;rw[kG];congr 1;funext ys;rw[qCX];cases y <;> simp
section
variable {K:PySem.W.Frag}{F:Nat->List D->M D}{Q:VK}{w:W1}{W:WX}
structure Mid (K:PySem.W.Frag) (Y1:List Addr) (H1:Hp) (d:Addr) (Y:List Addr) (h:AH) (acc:List D) (ys:List V) (H:Hp):Prop where
 st:Step Y1 H1 Y (del H d)
 nd:d∉Y
 at':H d=some (.lst ys)
 rh:RepH K Y h (del H d)
 rl:RepL K Y (del H d) acc ys
theorem Mid.up(G0:Mid K Y1 H1 d Y h acc ys H):Step Y (del H d) Y H:=by
 have:=Step.fresh (Y:=Y) (H:=del H d) (p:=d) (o:=.lst ys) wQ
 rw[iJ G0.at'] at this;exact this
theorem Mid.rh'(G0:Mid K Y1 H1 d Y h acc ys H):RepH K Y h H:=by
 have:=G0.rh.fresh (p:=d) (o:=.lst ys) wQ
 rw[iJ G0.at'] at this;exact this
theorem Mid.go(G0:Mid K Y1 H1 d Y h acc ys H)(e:Step Y H Y2 H2)(r:RepH K Y2 h2 H2):Step Y (del H d) Y2 (del H2 d)/\Mid K Y1 H1 d Y2 h2 acc ys H2:=by
 obtain ⟨e1,e2,e3⟩:=e.del G0.nd G0.at'
 exact⟨e1,G0.st.trans e1,e2,e3,r.del e3 e2,G0.rl.mono e1 _ _⟩
theorem Mid.add(G0:Mid K Y1 H1 d Y h acc ys H)(hv:RepV K Y H y v):Mid K Y1 H1 d Y h (acc++[y]) (ys++[v]) (upd H d (.lst (ys++[v]))):=by
 refine⟨by rw[vF];exact G0.st,G0.nd,qL,by rw[vF];exact G0.rh,?_⟩;rw[vF];exact G0.rl.append ⟨v,[],rfl,hv.del G0.at' _ _,rfl⟩
theorem qEl{rest:List D->M D}{W:Hp->Prop}(G0:Mid K Y1 H1 d Y h acc ys H)(s:RepS K Y H env U)(hz:acc.length<16777216)
  (p:PostV K w Q Y (del H d) (M.bind (m env).calm (fun y=>rest (acc++[y])) h))
  (hW:∀ Y' h' acc' ys' H',Mid K Y1 H1 d Y' h' acc' ys' H'->acc'.length=acc.length+1->PostV K w Q Y' (del H' d) (rest acc' h')->W H') :
  tD K WF m U H fun v H3=>∃ ys,H3 d=some (.lst ys)/\ys.length<sizeLine/\W (upd H3 d (.lst (ys++[v]))):=by
 refine⟨Y,env,h,s,G0.rh',?_⟩;unfold M.bind M.calm at p;cases q:m env h with
 |ok y h2=>rw[q] at p;intro Y2 H2 e2 r2 v hv;obtain ⟨e3,M2⟩:=G0.go e2 r2;refine⟨ys,M2.at',by rw[G0.rl.length,zX];exact hz,hW Y2 h2 _ _ _ (M2.add hv) (by simp) ?_⟩;rw[vF];exact Post.mono p e3
 |exc c h2=>rw[q] at p;cases p
 |bad=>rw[q] at p;exact p
def bP(K:PySem.W.Frag)(f:Env->D->M (Option D))(tt:Option TT)(te:TE):Prop:=
 ∀ (w:W1) (Q:VK) (Y1 Y:List Addr) (H1 H:Hp) (d:Addr) (h:AH) (acc:List D) (ys:List V) (rest:List D->M D) (env:Env) (U:L2.St) (W:Hp->Prop) (x:D) (xv:V),Mid K Y1 H1 d Y h acc ys H->RepS K Y H env U->RepV K Y H x xv->acc.length<16777216 ->
  PostV K w Q Y (del H d) (M.bind (f env x) (fun y=>rest (acc++y.toList)) h) ->
  (∀ Y' h' acc' ys' H',Mid K Y1 H1 d Y' h' acc' ys' H'->acc'.length<=acc.length+1->PostV K w Q Y' (del H' d) (rest acc' h')->W H') ->
  cK tt (U++[some xv]) H fun b H2=>if b=true then te (U++[some xv]) H2 fun v H3=>∃ ys,H3 d=some (.lst ys)/\ys.length<sizeLine/\W (upd H3 d (.lst (ys++[v]))) else W H2
theorem RepS.snoc(s:RepS K Y H env U)(hx:RepV K Y H x xv):RepS K Y H (env++[some x]) (U++[some xv]):=by
 refine⟨by simp[s.1],fun i e hi=>?_⟩
 by_cases hlt:i<env.length
 ·rw[List.getElem?_append_left hlt] at hi;rw[List.getElem?_append_left (by rw[<- s.1];exact hlt)];exact s.2 i e hi
 ·rw[List.getElem?_append_right (Nat.le_of_not_lt hlt)] at hi;rw[List.getElem?_append_right (by rw[<- s.1];exact Nat.le_of_not_lt hlt),<- s.1];cases q:i-env.length with
  |zero=>
   rw[q] at hi;cases hi
   exact⟨xv,rfl,hx⟩
  |succ n=>rw[q] at hi;simp at hi
theorem iQ(m:Env->M D):bP K (fun env x=>jI m env x) none (tD K WF m):=by
 intro w Q Y1 Y H1 H d h acc ys rest env U W x xv G0 s hx hz p hW;refine L2.iteT (B:=W H) (qEl (rest:=rest) G0 (s.snoc hx) hz ?_ fun Y' h' acc' ys' H' M' hl p'=>hW Y' h' acc' ys' H' M' (Nat.le_of_eq hl) p')
 have e:(M.bind (jI m env x) fun y=>rest (acc++y.toList))=M.bind (m (env++[some x])).calm fun y=>rest (acc++[y]):=by
  unfold jI;rw[kG];rfl
 rw[e] at p;exact p
theorem iP(m:Env->M D)(c:Env->M Bool):bP K (fun env x=>jG m c env x) (some (tDT K WF c)) (tD K WF m):=by
 intro w Q Y1 Y H1 H d h acc ys rest env U W x xv G0 s hx hz p hW;have p:PostV K w Q Y (del H d) (M.bind (M.bind (c (env++[some x])).calm fun k=>if k then M.bind (m (env++[some x])).calm (fun y=>M.ret (some y)) else M.ret none) (fun y=>rest (acc++y.toList)) h):=p;rw[kG] at p;refine⟨Y,env++[some x],h,s.snoc hx,G0.rh',?_⟩;unfold M.bind M.calm at p;cases q:c (env++[some x]) h with
 |ok k h2=>
  rw[q] at p;intro Y2 H2 e2 r2;obtain ⟨e3,M2⟩:=G0.go e2 r2;have p:=Post.mono p e3;cases k with
  |true=>
   refine L2.iteT (qEl (rest:=rest) M2 ((s.snoc hx).mono e2) hz ?_ fun Y' h' acc' ys' H' M' hl p'=>hW Y' h' acc' ys' H' M' (Nat.le_of_eq hl) p')
   have e:(M.bind (M.bind (m (env++[some x])).calm fun y=>M.ret (some y)) fun y=>rest (acc++y.toList))=M.bind (m (env++[some x])).calm fun y=>rest (acc++[y]):=by
    rw[kG];rfl
   have p':PostV K w Q Y2 (del H2 d) (M.bind (M.bind (m (env++[some x])).calm fun y=>M.ret (some y)) (fun y=>rest (acc++y.toList)) h2):=p;rw[e] at p';exact p'
  |false=>refine L2.iteF (hW Y2 h2 acc ys H2 M2 (Nat.le_succ _) ?_);have p':PostV K w Q Y2 (del H2 d) (rest (acc++[]) h2):=p;rw[List.append_nil] at p';exact p'
 |exc _ h2=>rw[q] at p;cases p
 |bad=>rw[q] at p;exact p
theorem Mid.fin(G0:Mid K Y1 H1 d Y' h' acc ys H')(p:PostV K w Q Y' (del H' d) (newL (acc++[]) h')):Q (.ref d) H':=by
 rw[List.append_nil] at p;have q:=(PostV.newL p G0.rh G0.rl).2 d wQ;rw[iJ G0.at'] at q;exact q
theorem qEx(ht:bP K f tt te)(s1:RepS K Y1 H1 env U)(r1:RepH K Y1 h1 H1)(hJ:yU K Y1 H1 (.row xs) J)(hz:xs.length<16777216)(q:PostV K w Q Y1 H1 (M.bind (zL (f env) xs) newL h1))(hd:H1 d=none)(hK:K.lookup d=none) :
  ∃ W:Nat->Nat->Hp->Prop,(∃ m,W 0 m (upd H1 d (.lst [])))/\∀ i m H,W i m H ->
   (J.stop i H/\Q (.ref d) H)\/(J.go i H/\∀ x H',J.yld i H x H'->cK tt (U++[some x]) H' fun b H2=>if b=true then te (U++[some x]) H2 fun y H3=>∃ ys,H3 d=some (.lst ys)/\ys.length<sizeLine/\∃ m',m'<m/\W (i+1) m' (upd H3 d (.lst (ys++[y]))) else ∃ m',m'<m/\W (i+1) m' H2):=by
 have M0:Mid K Y1 H1 d Y1 h1 [] [] (upd H1 d (.lst [])):=⟨by rw[vF,gD hd];exact Step.refl _ _,r1.not hd hK,qL,by rw[vF,gD hd];exact r1,rfl⟩;obtain ⟨go,yl,sp⟩:=hJ;have q:PostV K w Q Y1 H1 (M.bind (zL (f env) xs) (fun rest=>newL ([]++rest)) h1):=q;refine⟨fun i m H'=>m=xs.length-i/\i<=xs.length/\∃ Y' h' acc ys,Mid K Y1 H1 d Y' h' acc ys H'/\acc.length<=i/\PostV K w Q Y' (del H' d) (M.bind (zL (f env) (xs.drop i)) (fun rest=>newL (acc++rest)) h'),⟨_,rfl,Nat.zero_le _,Y1,h1,[],[],M0,Nat.le_refl _,by rw[vF,gD hd];exact q⟩,?_⟩
 rintro i m H' ⟨rfl,hi,Y',h',acc,ys,G0,ha,p'⟩
 have up:Step Y1 H1 Y' H':=G0.st.trans G0.up
 by_cases hlt:i<xs.length
 ·refine .inr ⟨go i Y' H' up hlt,fun x H'' y=>?_⟩;obtain ⟨rfl,dx,hdx,hv⟩:=yl i Y' H' x H'' up hlt y;rw[List.drop_eq_getElem_cons hlt] at p'
  have ed:xs[i]=dx:=by
   rw[List.getElem?_eq_getElem hlt] at hdx;exact Option.some.inj hdx
  rw[ed,qLc] at p'
  exact ht _ Q Y1 Y' H1 H'' d h' acc ys (fun a=>M.bind (zL (f env) (xs.drop (i+1))) fun rest=>newL (a++rest)) env U (fun H3=>∃ m',m'<xs.length-i/\m'=xs.length-(i+1)/\i+1<=xs.length/\∃ Y' h' acc ys,Mid K Y1 H1 d Y' h' acc ys H3/\acc.length<=i+1/\PostV K w Q Y' (del H3 d) (M.bind (zL (f env) (xs.drop (i+1))) (fun rest=>newL (acc++rest)) h')) dx x G0 (s1.mono up) hv (by lia) p'
   fun Y2 h2 acc2 ys2 H2 M2 hl2 p2=>⟨xs.length-(i+1),by lia,rfl,hlt,Y2,h2,acc2,ys2,M2,by lia,p2⟩
 ·have e:i=xs.length:=by lia
  subst e;rw[List.drop_length] at p';exact .inl ⟨sp _ Y' H' up rfl,G0.fin p'⟩
theorem eY(ht:bP K f tt te)(t:tD K W (fun env=>M.bind (mi env) fun r=>M.bind (uH (f env) r) newL) U H Q):gR K (tDI K W mi) tt te U H Q:=by
 obtain ⟨Y,env,h,s,r,p⟩:=t;refine⟨Y,env,h,s,r,Post.bind p fun Y1 h1 it H1 e1 r1 q J hJ d hd hK=>?_⟩;have s1:=s.mono e1;have nd:d∉Y1:=r1.not hd hK;cases it with
 |row xs=>
  have q:PostV K (W.at U) Q Y1 H1 (M.bind (M.when (xs.length<16777216) (zL (f env) xs)) newL h1):=q
  have hz:xs.length<16777216:=by
   unfold M.bind M.when at q
   by_cases z:xs.length<16777216
   ·exact z
   ·rw[if_neg z] at q;cases q
  have q:PostV K (W.at U) Q Y1 H1 (M.bind (zL (f env) xs) newL h1):=by
   unfold M.bind M.when at q;rw[if_pos hz] at q;exact q
  exact qEx ht s1 r1 hJ hz q hd hK
 |pairs xs=>exact (show False from q).elim
 |live k=>
  obtain ⟨a,ha,rfl⟩:=hJ;have M0:Mid K Y1 H1 d Y1 h1 [] [] (upd H1 d (.lst [])):=⟨by rw[vF,gD hd];exact Step.refl _ _,nd,qL,by rw[vF,gD hd];exact r1,rfl⟩;have q:PostV K (W.at U) Q Y1 H1 (M.bind (M.when (zN h1 k<16777216) (zR (f env) k (zN h1 k) 0)) newL h1):=q
  have hz:zN h1 k<16777216:=by
   unfold M.bind M.when at q
   by_cases z:zN h1 k<16777216
   ·exact z
   ·rw[if_neg z] at q;cases q
  have q:PostV K (W.at U) Q Y1 H1 (M.bind (zR (f env) k (zN h1 k) 0) (fun rest=>newL ([]++rest)) h1):=by
   unfold M.bind M.when at q;rw[if_pos hz] at q;exact q
  generalize zN h1 k=n at hz q;refine⟨fun i m H'=>m+i=n/\∃ Y' h' acc ys,Mid K Y1 H1 d Y' h' acc ys H'/\acc.length<=i/\PostV K (W.at U) Q Y' (del H' d) (M.bind (zR (f env) k m i) (fun rest=>newL (acc++rest)) h'),⟨n,rfl,Y1,h1,[],[],M0,Nat.le_refl _,by rw[vF,gD hd];exact q⟩,?_⟩
  rintro i m H' ⟨hm,Y',h',acc,ys,G0,hl,p'⟩
  have up:Step Y1 H1 Y' H':=G0.st.trans G0.up;cases m with
  |zero=>cases p'
  |succ m=>
   have r':=G0.rh';cases qg:qC h' k with
   |none=>unfold M.bind zR at p';rw[qg] at p';cases p'
   |some xs=>
    obtain ⟨b,vs,h2,h3,h4⟩:=r'.list qg;rw[vQ up.pre ha] at h2;cases h2;cases qx:xs[i]? with
    |none=>
     refine .inl ⟨⟨vs,h3,?_⟩,Mid.fin (w:=W.at U) G0 ?_⟩
     ·rw[h4.length];exact List.getElem?_eq_none_iff.mp qx
     ·unfold M.bind zR at p';simp only[qg,qx] at p';exact p'
    |some dx=>
     obtain ⟨w,hw,hv⟩:=h4.get qx;refine .inr ⟨⟨vs,w,h3,hw⟩,fun x H'' y=>?_⟩;obtain ⟨rfl,y⟩:=y;have ew:=y vs h3;rw[hw] at ew;cases ew
     have e:M.bind (zR (f env) k (m+1) i) (fun rest=>newL (acc++rest)) h'=M.bind (f env dx) (fun y=>M.bind (zR (f env) k m (i+1)) fun rest=>newL ((acc++y.toList)++rest)) h':=by
      have e1:zR (f env) k (m+1) i h'=M.bind (f env dx) (fun y=>M.bind (zR (f env) k m (i+1)) fun ys=>M.ret (match y with | some y=>y::ys | none=>ys)) h':=by
       rw[zR];simp only[qg,qx] <;> rfl
      show R.bind (zR (f env) k (m+1) i h') _=_;rw[e1];show M.bind (M.bind (f env dx) _) (fun rest=>newL (acc++rest)) h'=_;rw[kG];congr 1;funext y;rw[kG];congr 1;funext ys;rw[qCX];cases y <;> simp
     rw[e] at p'
     exact ht _ Q Y1 Y' H1 _ d h' acc ys (fun a=>M.bind (zR (f env) k m (i+1)) fun rest=>newL (a++rest)) env U (fun H3=>∃ m',m'<m+1/\m'+(i+1)=n/\∃ Y' h' acc ys,Mid K Y1 H1 d Y' h' acc ys H3/\acc.length<=i+1/\PostV K (W.at U) Q Y' (del H3 d) (M.bind (zR (f env) k m' (i+1)) (fun rest=>newL (acc++rest)) h')) dx _ G0 (s1.mono up) hv (by lia) p'
      fun Y2 h2 acc2 ys2 H2 M2 hl2 p2=>⟨m,Nat.lt_succ_self _,by lia,Y2,h2,acc2,ys2,M2,by lia,p2⟩
end
section
variable {K:PySem.W.Frag}{W:WX}{Q:VK}
def g2(K:PySem.W.Frag)(n:Nat):L2.TG:=L2.gTup K 2 (L2.gCons (L2.gName n) (L2.gCons (L2.gName (n+1)) L2.gNil))
end
end Fy
namespace L2
open PySem PySem.Spec PyProof.Rows
section
variable {X:Cx}{pins:List (Addr × Obj)}{U:St}{H:Hp}{s:Shared}{h':Heap}
end
section
variable {X:Cx}
end
end L2
namespace Fy
open PySem PySem.Spec PySem.Calls PyProof.Rows
open L2 (V Hp HO VK XK TE TT TA TS TI Cx Inv RelV Vals SqL SqT Rd upd qL qH PE PT PA PS PSs EP TP SP PI PG PIE Turn qS Ends HOk frs thn OpR qN)
section
variable {F:Nat->List D->M D}{B:Nat}{W:WX}
end
end Fy
namespace L2
open PySem PySem.Spec PyProof.Rows
section
variable {X:Cx}{pins:List (Addr × Obj)}{U:St}{H:Hp}{s:Shared}{h':Heap}
end
section
variable {prog:Program}{w:World}{A:Around}{E:Value->Shared->Prop}{s:Shared}{z TI TO i1 i2:Addr}{n1 n2 k:Nat}{P1 P2:Nat->Value->Prop}{S1 S2:Nat->Heap->Prop}{va vb:Value}
end
section
variable {prog:Program}{w:World}{A:Around}{E:Value->Shared->Prop}{s:Shared}
end
section
variable {X:Cx}
end
end L2
namespace Fy
open PySem PySem.Spec PyProof.Rows
open L2 (V Hp HO VK TE TT TA TS TI Cx Inv RelV Vals SqL SqT Rd upd qL qH PE PT PA PS PSs EP TP PI PG PIE Turn qS Ends HOk frs thn)
section
variable {X:Cx}{F:Nat->List D->M D}{W:WX}
end
end Fy
namespace L2
open PySem PySem.Spec PyProof.Rows
def Itd(a:Addr)(ob:Obj)(vs:List (Key × V)):It:=
 ⟨fun i H=>H a=some (.frz ob (.dK vs))/\i<vs.length,fun i H x H'=>H'=H/\∃ kv,vs[i]?=some kv/\x=kV kv.1,fun i H=>H a=some (.frz ob (.dK vs))/\vs.length<=i⟩
section
variable {X:Cx}{pins:List (Addr × Obj)}{U:St}{H:Hp}{s:Shared}
theorem Inv.refit(I:Inv X pins U H s)(ha:H a=some o)(no:∀ x,o≠.own x)(nt:∀ xs,o≠.tup xs)(nb:∀ ps,o≠.tbl ps)(nf:∀ ob u,X.H₀ a≠some (.frz ob u))
  (new:ObjOk X.prog X.w (upd H a o') s.heap a o'):Inv X pins U (upd H a o') s:=by
 have nn:∀ b,H b=none->b≠a:=fun b z q=>by rw[q,ha] at z;cases z
 refine⟨I.ok,I.os,I.bare,⟨I.base.keep,I.base.slot,fun b ob q n hx=>?_,I.base.there,fun b xs q=>?_,fun b ob u q=>?_,fun b ps q=>?_⟩,I.loc,I.cell,?_,fun x c e=>?_,fun p hpp=>?_,fun b u e=>?_,I.len⟩
 ·have z:=I.base.free b ob q n hx;rw[qH (nn b z)];exact z
 ·have z:=I.base.tups b xs q;rw[qH (fun w=>by rw[w,ha] at z;cases z;exact nt _ rfl)];exact z
 ·rw[qH (fun w=>by rw[w] at q;exact nf _ _ q)];exact I.base.frzs b ob u q
 ·obtain ⟨more,z⟩:=I.base.tbls b ps q
  exact⟨more,by rw[qH (fun w=>by rw[w,ha] at z;cases z;exact nb _ rfl)];exact z⟩
 ·rw[qH (nn _ I.free)];exact I.free
 ·rw[qH (nn _ (I.freeC x c e))];exact I.freeC x c e
 ·obtain ⟨e,n,ne,nf',d⟩:=I.pin p hpp
  exact⟨e,by rw[qH (nn _ n)];exact n,ne,nf',d⟩
 ·by_cases hb:b=a
  ·subst hb;rw[qL] at e;cases e;exact new
  ·rw[qH hb] at e;exact (I.hok b u e).stay (fun c v _ q=>q) (fun c q=>by rw[qH (fun w=>by rw[w,ha] at q;cases q;exact no _ rfl)];exact q) fun c xs q=>by rw[qH (fun w=>by rw[w,ha] at q;cases q;exact nt _ rfl)];exact q
theorem qPW(H':Hp)(x:ObjOk P w H h a (.dK vs))(e:h.get? a=some ob):ObjOk P w H' h a (.frz ob (.dK vs)):=⟨e,x⟩
theorem qPX(H':Hp)(x:ObjOk P w H h a (.dK vs)):ObjOk P w H' h a (.dK vs):=x
theorem qMr(h:yG k v=true):RelV (kV k) v:=by
 rcases vC h with⟨i,t,rfl,rfl⟩ | ⟨x,t,rfl,rfl⟩
 ·exact⟨t,rfl⟩
 ·exact⟨t,rfl⟩
theorem qEb(hep:∃ es,ob.data=.dict es ep)(x:ObjOk P w H h a (.frz ob (.dK vs))):∃ ws,KV vs ws/\h.DictAt (mixKind P w) a ws ep:=by
 obtain ⟨e,_,_,ws,rel,o,es,ep',h1,h2,h3,h4⟩:=x;obtain ⟨es',h5⟩:=hep;rw[e] at h1;cases h1;rw[h3] at h5;cases h5
 exact⟨ws,rel,ob,es,e,h2,h3,h4⟩
theorem qHP{P:Program}{w:World}{K:PySem.W.Frag}{tg:Expr}(a it:Addr)(ob:Obj)(vs:List (Key × V))(ep:Nat)(hep:∃ es,ob.data=.dict es ep):Turn P w K tg (Itd a ob vs) [it] it (fun i h=>h.IsKeyIter it a i vs.length ep) where
 mem:=by simp
 obj:=fun i h st b hb=>by
  have e:b=it:=by simpa using hb
  subst e;obtain ⟨o,e,c,d⟩:=st
  exact⟨o,e,fun v z=>by rw[d] at z;cases z⟩
 keep:=fun i h h' st k=>st.at fun o e=>k it (by simp) o e
 item:=by
  intro X hP hw hK hc i pins s U H E I hf st hg;subst hP hw hK;obtain ⟨hH,hi⟩:=hg;obtain ⟨ws,rel,dd⟩:=qEb hep (I.hok a _ hH);have hl:=rel.length;obtain ⟨f0,f1,f2,f3,f4,f5⟩:=hf it (by simp);obtain ⟨⟨k,x⟩,hx⟩:∃ p,ws[i]?=some p:=⟨ws[i]'(by lia),by simp⟩;obtain ⟨⟨k',y⟩,hy⟩:∃ p,vs[i]?=some p:=⟨vs[i]'hi,by simp[hi]⟩
  have ek:k'=k:=by
   have z:=congrArg (fun l:List Key=>l[i]?) rel.keys;simp only[List.getElem?_map,hx,hy,Option.map_some] at z;exact Option.some.inj z
  subst ek;refine wpAny_pyNext_dict_item (knd:=mixKind X.prog X.w) (by rw[hl] at st;exact st) dd hx fun key h' hkey st' sb=>?_;rw[<- hl] at st';have I1:Inv X pins U H { s with heap:=h' }:=I.turned (t':=s.toks) (fun b o hb e=>(sb.2 b hb).trans e) f0 f1 f3 f4 f5;obtain ⟨o,e,c,d⟩:=id st'
  exact⟨key,rfl,go_of (s:={ s with heap:=h' }) e c d (by decide) ⟨kV k',H,I1,qMr hkey,⟨rfl,_,hy,rfl⟩,st',fun b hb=>(hf b hb).1⟩⟩
 done:=by
  intro X hP hw hK hc i pins s U H E I hf st hg;subst hP hw hK;obtain ⟨hH,hi⟩:=hg;obtain ⟨ws,rel,dd⟩:=qEb hep (I.hok a _ hH);have hl:=rel.length;obtain ⟨f0,f1,f2,f3,f4,f5⟩:=hf it (by simp);exact wpAny_pyNext_dict_end (knd:=mixKind X.prog X.w) (I.ok.hd hc) (by rw[hl] at st;exact st) dd (by simp;lia) fun h' eb=>⟨rfl,I.turned (t':=s.toks) (fun b o hb e=>eb b o hb e) f0 f1 f3 f4 f5⟩
 self:=fun _ _ _ _ _ st h=>wpAny_pyIter_keyiter st h
abbrev Nfz(X:Cx)(a:Addr):Prop:=∀ o u,X.H₀ a≠some (.frz o u)
def iDict(X:Cx)(tl:TE):TI:=fun U H R=>tl U H fun x H1=>∃ a vs,x=.ref a/\H1 a=some (.dK vs)/\∀ ob,Nfz X a->R (Itd a ob vs) (upd H1 a (.frz ob (.dK vs)))
theorem pi_dict(hl:PE X l tl):PI X tg l (iDict X tl):=by
 intro pins s U H R I h;refine thn (hl pins s U H _ I h) fun v s1 ⟨x,H1,I1,r1,q1⟩=>?_;obtain ⟨a,vs,e,hH,q⟩:=q1;subst e;cases r1;have ok:=I1.hok a _ hH;obtain ⟨z,hd,ws,rel,o,es,ep,h1,h2,h3,h4⟩:=id ok
 have nf:Nfz X a:=fun o u w=>by
  have:=I1.base.frzs a o u w
  rw[hH] at this;cases this
 have dd:s1.heap.DictAt (mixKind X.prog X.w) a ws ep:=⟨o,es,h1,h2,h3,h4⟩;refine wpAny_pyIter_dict hd dd ?_;have I2:Inv X pins U (upd H1 a (.frz o (.dK vs))) s1:=I1.refit hH (fun _ w=>nomatch w) (fun _ w=>nomatch w) (fun _ w=>nomatch w) nf (qPW _ ok h1);refine⟨s1.heap.objs.size,[s1.heap.objs.size],_,_,_,rfl,I2.kept (t':=s1.toks) fun b o e=>Heap.get?_push_of_some _ e,qHP a _ o vs ep ⟨es,h3⟩,?_,fun b hb=>?_,q o nf⟩
 ·rw[rel.length]
  exact⟨_,Heap.get?_push_size _ rfl,rfl,rfl⟩
 ·have e:=List.mem_singleton.mp hb;subst e;exact I2.fpOk (Nat.le_refl _) (I2.hok.fresh (Nat.le_refl _))
def thawQ(X:Cx)(Q:VK):VK:=fun v H'=>∃ a ob vs,Nfz X a/\H' a=some (.frz ob (.dK vs))/\Q v (upd H' a (.dK vs))
theorem Inv.thaw(I:Inv X pins U H s)(nf:Nfz X a)(ha:H a=some (.frz ob (.dK vs))):Inv X pins U (upd H a (.dK vs)) s:=
 I.refit ha (fun _ w=>nomatch w) (fun _ w=>nomatch w) (fun _ w=>nomatch w) nf (qPX _ (I.hok a _ ha).2)
theorem pe_thaw(h:PE X e t):PE X e (fun U H Q=>t U H (thawQ X Q)):=fun pins s U H Q I q=>thn (h pins s U H _ I q) fun u s' ⟨v,H',I',rv,a,ob,vs,nf,ha,z⟩=>⟨v,_,I'.thaw nf ha,rv,z⟩
def thawE(X:Cx)(E:Ends):Ends:=
 ⟨fun U H'=>∃ a ob vs,Nfz X a/\H' a=some (.frz ob (.dK vs))/\E.nx U (upd H' a (.dK vs)),fun v H'=>∃ a ob vs,Nfz X a/\H' a=some (.frz ob (.dK vs))/\E.rt v (upd H' a (.dK vs)),fun _ _=>False,fun _ _=>False⟩
theorem ps_thaw{st:Stmt}(h:PS X st t):PS X st (fun E U H=>t (thawE X E) U H):=fun pins s U H E I q=>thn (h pins s U H _ I q) fun f s' z=>by
 cases f with
 |next=>obtain ⟨U',H',I',a,ob,vs,nf,ha,z⟩:=z;exact⟨U',_,I'.thaw nf ha,z⟩
 |ret u=>obtain ⟨v,U',H',I',rv,a,ob,vs,nf,ha,z⟩:=z;exact⟨v,U',_,I'.thaw nf ha,rv,z⟩
 |brk=>obtain ⟨U',H',I',z⟩:=z;cases z
 |cont=>obtain ⟨U',H',I',z⟩:=z;cases z
end
end L2
namespace Fy
open PySem PySem.Spec PyProof.Rows
open L2 (V Hp HO VK XK TE TT TA TS TI Cx Inv RelV Vals SqL SqT Rd upd qL qH PE PT PA PS PSs EP TP SP PI PG PIE Turn qS Ends HOk frs thn OpR qN)
section
variable {K:PySem.W.Frag}{Y Y1:List Addr}{H H1:Hp}{a:Addr}{i:Nat}{ob:Obj}{vs:List (L2.Key × V)}{kvs:List (Ky × D)}
theorem qCZ(ha:H a=some (.frz ob (.dK vs)))(hk:RepK K Y H kvs vs):yU K Y H (.row (jU kvs)) (L2.Itd a ob vs):=by
 have hl:(jU kvs).length=vs.length:=by unfold jU;rw[List.length_map];exact hk.length
 have key:∀ {kvs:List (Ky × D)} {vs:List (L2.Key × V)} {j:Nat} {kv:L2.Key × V},RepK K Y H kvs vs->vs[j]?=some kv->∃ k:Ky,(jU kvs)[j]?=some (kyD k)/\kv.1=kyV k:=by
  intro kvs
  induction kvs with
  |nil=>intro vs j kv h e;cases h;simp at e
  |cons x r ih=>
   intro vs j kv h e;obtain ⟨v,r',rfl,h1,h2⟩:=h;cases j with
   |zero=>simp at e;subst e;exact⟨x.1,rfl,rfl⟩
   |succ j=>exact ih h2 (by simpa using e)
 refine⟨fun j Y' H' e hj=>⟨e.keep _ _ ha (.inl rfl),by lia⟩,fun j Y' H' x H'' e hj y=>?_,fun j Y' H' e hj=>⟨e.keep _ _ ha (.inl rfl),by lia⟩⟩;obtain ⟨rfl,kv,h1,rfl⟩:=y;obtain ⟨k,h2,h3⟩:=key hk h1;refine⟨rfl,_,h2,?_⟩;rw[h3];cases k with
 |int j=>rfl
 |str y=>rfl
theorem RepH.freeze(r:RepH K Y h H)(hi:h[i]?=some (.dct kvs))(hr:Y[i]?=some a)(ha:H a=some (.dK vs))(hk:RepK K Y H kvs vs):RepH K Y (h.set i (.rod kvs)) (upd H a (.frz ob (.dK vs))):=
 r.setO hi rfl rfl hr ha rfl ⟨ob,vs,qL,RepK.mono (Step.turn ha rfl (List.mem_of_getElem? hr)) _ _ hk⟩
theorem bZ(ha:H a=some (.frz ob (.dK vs)))(b:Addr)(us:List V)(h:SqT K H b us):SqT K (upd H a (.dK vs)) b us:=by
 rcases h with (h | ⟨o,h⟩) | h
 ·exact .inl (.inl (by rw[qH (by rintro rfl;rw[ha] at h;cases h)];exact h))
 ·exact .inl (.inr ⟨o,by rw[qH (by rintro rfl;rw[ha] at h;cases h)];exact h⟩)
 ·exact .inr h
theorem RepH.thaw(r:RepH K Y h H)(hi:h[i]?=some (.rod kvs))(hr:Y[i]?=some a)(ha:H a=some (.frz ob (.dK vs))):RepH K Y (h.set i (.dct kvs)) (upd H a (.dK vs)):=by
 have sq:=bZ (K:=K) ha;have hil:=(List.getElem?_eq_some_iff.mp hi).1;refine⟨by simp[r.len],fun j o hj=>?_,fun j k b o1 o2 hj hk m1 m2 e1 e2=>?_⟩
 ·rw[List.getElem?_set] at hj
  by_cases z:i=j
  ·rw[if_pos z,if_pos (by lia)] at hj;cases hj;subst z;obtain ⟨b,h1,ob',vs',h2,h3⟩:=r.obj i _ hi;rw[hr] at h1;cases h1;rw[ha] at h2;cases h2
   exact⟨a,hr,vs,qL,h3.sq sq _ _⟩
  ·rw[if_neg z] at hj;obtain ⟨b,h1,h2⟩:=r.obj j o hj
   by_cases hb:b=a
   ·subst hb;cases hm:kK o with
    |true=>exact absurd (r.inj i j b _ _ hi hj rfl hm hr h1) z
    |false=>
     refine⟨b,h1,?_⟩;cases o with
     |rol xs=>
      obtain ⟨us,k1,k2⟩:=h2;rcases k1 with⟨o',k1⟩ | k1
      ·rw[ha] at k1;cases k1
      ·exact⟨us,.inr k1,k2.sq sq _ _⟩
     |xc c=>obtain ⟨C,_,k1⟩:=h2;rw[ha] at k1;cases k1
     |_=>cases hm
   ·exact⟨b,h1,h2.sq sq (qH hb)⟩
 ·have key:∀ (j:Nat) (z:O),kK z=true->(h.set i (.dct kvs))[j]?=some z->∃ z',h[j]?=some z'/\kK z'=true:=fun j z mz hj=>by
   rw[List.getElem?_set] at hj
   by_cases q:i=j
   ·subst q
    exact⟨_,hi,rfl⟩
   ·rw[if_neg q] at hj
    exact⟨_,hj,mz⟩
  obtain ⟨_,g1,n1⟩:=key j _ m1 hj;obtain ⟨_,g2,n2⟩:=key k _ m2 hk;exact r.inj j k b _ _ g1 g2 n1 n2 e1 e2
theorem iV(hr:a∈Y)(ha:H a=some (.dK vs))(e:Step Y (upd H a (.frz ob (.dK vs))) Y' H'):Step Y H Y' (upd H' a (.dK vs)):=by
 refine⟨e.pre,fun b hb=>?_,fun b o h c=>?_⟩
 ·rcases e.new b hb with z | z
  ·exact .inl z
  ·by_cases q:b=a
   ·rw[q,qL] at z;cases z
   ·rw[qH q] at z;exact .inr z
 ·by_cases q:b=a
  ·subst q;rw[ha] at h;cases h;rw[qL]
  ·rw[qH q];exact e.keep b o (by rw[qH q];exact h) c
theorem qHW(nf:L2.Nfz X a)(hr:Y[i]?=some a)(ha:H a=some (.dK vs))(p:PostV K w Q Y H (gO i r)):PostV K w (L2.thawQ X Q) Y (upd H a (.frz ob (.dK vs))) r:=by
 cases r with
 |ok d h=>
  have p:PostV K w Q Y H (match h[i]? with | some (.rod kvs)=>.ok d (h.set i (.dct kvs)) | _=>.bad):=p;split at p
  ·rename_i kvs z;intro Y' H' e rh v hv;have ha':H' a=some (.frz ob (.dK vs)):=e.keep _ _ qL (.inl rfl);have hr':=vQ e.pre hr
   exact⟨a,ob,vs,nf,ha',p Y' _ (iV (List.mem_of_getElem? hr) ha e) (rh.thaw z hr' ha') v (hv.sq (bZ ha') _ _)⟩
  ·cases p
 |exc c h=>cases p
 |bad=>cases p
theorem qHV(nf:L2.Nfz X a)(hr:Y[i]?=some a)(ha:H a=some (.dK vs))(p:PostS K W E Y H (SR.thaw i r)):PostS K W (L2.thawE X E) Y (upd H a (.frz ob (.dK vs))) r:=by
 have rs:∀ {Y':List Addr} {H':Hp} {env:Env} {U:L2.St},H' a=some (.frz ob (.dK vs))->RepS K Y' H' env U->RepS K Y' (upd H' a (.dK vs)) env U:=fun {Y' H' env U} ha' s=>⟨s.1,fun j d h=>let ⟨v,h1,h2⟩:=s.2 j d h;⟨v,h1,h2.sq (bZ ha') _ _⟩⟩;cases r with
 |nx env h=>
  have p:PostS K W E Y H (match h[i]? with | some (.rod kvs)=>.nx env (h.set i (.dct kvs)) | _=>.bad):=p;split at p
  ·rename_i kvs z;intro Y' H' st e rh s;have ha':H' a=some (.frz ob (.dK vs)):=e.keep _ _ qL (.inl rfl)
   exact⟨a,ob,vs,nf,ha',p Y' _ st (iV (List.mem_of_getElem? hr) ha e) (rh.thaw z (vQ e.pre hr) ha') (rs ha' s)⟩
  ·cases p
 |rt d h=>
  have p:PostS K W E Y H (match h[i]? with | some (.rod kvs)=>.rt d (h.set i (.dct kvs)) | _=>.bad):=p;split at p
  ·rename_i kvs z;intro Y' H' v e rh hv;have ha':H' a=some (.frz ob (.dK vs)):=e.keep _ _ qL (.inl rfl)
   exact⟨a,ob,vs,nf,ha',p Y' _ v (iV (List.mem_of_getElem? hr) ha e) (rh.thaw z (vQ e.pre hr) ha') (hv.sq (bZ ha') _ _)⟩
  ·cases p
 |_=>cases p
end
section
variable {X:Cx}{F:Nat->List D->M D}{B:Nat}{W:WX}
theorem compD(ht:bP X.K (fun env x=>jG (den F e) (qM F c) env x) tt (tD X.K WF (den F e)))(t:tD X.K W (den F (.compD e c d)) U H Q):gR X.K (L2.iDict X (tD X.K W (den F d))) tt (tD X.K WF (den F e)) U H (L2.thawQ X Q):=by
 obtain ⟨Y,env,h,s,r,p⟩:=t;dsimp only[den] at p;refine⟨Y,env,h,s,r,Post.bind p fun Y1 h1 x H1 e1 r1 q v hv=>?_⟩;cases x with
 |ref i=>
  have q:PostV X.K (W.at U) Q Y1 H1 (match h1[i]? with | some (.dct kvs)=>(if kvs.length<16777216 then gO i (M.bind (zL (jG (den F e) (qM F c) env) (jU kvs)) newL (h1.set i (.rod kvs))) else .bad) | _=>.bad):=q;split at q
  ·rename_i kvs z;obtain ⟨hz,q⟩:=PostV.ite q;obtain ⟨a,vs,rfl,hr,hH,hk⟩:=r1.dict z hv;refine⟨a,vs,rfl,hH,fun ob nf dd hd hK=>?_⟩;have st:Step Y1 H1 Y1 (upd H1 a (.frz ob (.dK vs))):=Step.turn hH rfl (List.mem_of_getElem? hr);exact qEx ht ((s.mono e1).mono st) (r1.freeze z hr hH hk) (qCZ qL (hk.mono st _ _)) (by unfold jU;rw[List.length_map];exact hz) (qHW nf hr hH q) hd hK
  ·cases q
 |_=>cases q
theorem qFC{α:Type}{K:PySem.W.Frag}{rep:List Addr->Hp->α->Prop}{r:R α}(p:Post K w rep Y H r.calm)(w':W1):Post K w' rep Y H r:=by
 cases r with
 |ok a h=>exact p
 |exc _ _=>cases p
 |bad=>exact p
theorem qIl(ht:yA X.K (.nm i) g)(hc:X.calm=true)(he:PE X.nox iter (tD X.K WF (den F ce)))(hg:PG X.nox tg g)(hb:PSs X.nox body (tDS X.K WF (qB F B cb)))
  (hs:∀ x,foldedSetIterable iter X.env x=pure x):PS X (.For tg iter body [] pos) (tDS X.K W (qB F B (.forD i ce cb))):=PS.imp (PS.nox (L2.ps_thaw (X:=X.nox) (L2.ps_for PassesOwn.never hc (L2.pi_dict he) hg hb hs))) fun E U H q=>by
 obtain ⟨Y,env,h,s,r,p⟩:=q;dsimp only[qB] at p;refine⟨Y,env,h,s,r,qFC (PostS.ofR s p fun Y1 h1 x H1 e1 r1 q v hv=>?_) _⟩;cases x with
 |ref k=>
  have q:PostS X.K W E Y1 H1 (match h1[k]? with | some (.dct kvs)=>(zJ (qV (.nm i) (qB F B cb)) (jU kvs) env (h1.set k (.rod kvs))).thaw k | _=>.bad):=q;split at q
  ·rename_i kvs z;obtain ⟨a,vs,rfl,hr,hH,hk⟩:=r1.dict z hv;refine⟨a,vs,rfl,hH,fun ob nf=>?_⟩;have st:Step Y1 H1 Y1 (upd H1 a (.frz ob (.dK vs))):=Step.turn hH rfl (List.mem_of_getElem? hr);obtain ⟨go,yl,sp⟩:=qCZ (K:=X.K) (Y:=Y1) (a:=a) (ob:=ob) (H:=upd H1 a (.frz ob (.dK vs))) qL (hk.mono st _ _);exact qDX ht ((s.mono e1).mono st) (r1.freeze z hr hH hk) go yl sp (qHV (X:=X.nox) nf hr hH q)
  ·cases q
 |_=>cases q
end
def CXD(P:Program)(w:World)(ex:Nat->Option Addr):L2.CXT:=fun outer H s E e s'=>
 ∃ (a C:Addr) (c:Nat) (B:Heap) (a0:Value) (H':Hp),e=.ref a/\ex c=some C/\Heap.FlyingW B outer a (.ref C) a0 s'.heap/\HOk P w H' B /\
  (∀ b o,s.heap.get? b=some o->b∉frs outer->∃ o',B.get? b=some o')/\L2.Un (frs outer) [] H H' s.heap s'.heap/\s'.os=s.os/\AllBare s'.gens/\E e (some c) H'
section
variable {fs:List Addr}{H H':Hp}{h0 h1 h' B:Heap}{l:List PySem.Env}
theorem iK(u:L2.Un (frs l) [] H H' h0 h1)(hB:B.StaysIn h1)(cov:∀ b o,h0.get? b=some o->b∉frs l->∃ o',B.get? b=some o')(fr:h1.FunFrames B l)(hB':B.StaysIn h')(up:h1.UpToSlots h'):L2.Un (frs l) [] H H' h0 h' where
 keep:=fun b o e n hb hx=>by
  obtain ⟨o',e'⟩:=cov b o e hb;have k1:=u.keep b o e n hb hx;have k2:=hB b o' e';rw[k1] at k2;cases k2;exact hB' b o e'
 slot:=fun b o e n hb hx=>by
  obtain ⟨sl,k1⟩:=u.slot b o e n hb hx;obtain ⟨_,o2,k2,k3⟩:=fr.mem hb;rw[k1] at k2;cases k2;obtain ⟨sl',k4⟩:=up b _ k1 k3
  exact⟨sl',k4⟩
 free:=u.free
 there:=fun b o e hx=>by
  by_cases hb:b∈frs l
  ·obtain ⟨_,o2,k2,k3⟩:=fr.mem hb;obtain ⟨sl',k4⟩:=up b _ k2 k3
   exact⟨_,k4⟩
  ·obtain ⟨o',e'⟩:=cov b o e hb
   exact⟨o',hB' b o' e'⟩
 tups:=u.tups
 frzs:=u.frzs
 tbls:=u.tbls
theorem qGw{fs':List Addr}(u:L2.Un fs' [] H H' h0 h')(hs:∀ b∈fs',b∉fs->h0.get? b=none):L2.Un fs [] H H' h0 h' where
 keep:=fun b o e n hb hx=>u.keep b o e n (fun z=>by rw[hs b z hb] at e;cases e) hx
 slot:=fun b o e n hb hx=>u.any e n hx
 free:=u.free
 there:=u.there
 tups:=u.tups
 frzs:=u.frzs
 tbls:=u.tbls
end
theorem funFrames_hide'{h:Heap}(x:h.FunFrames base l)(ha:∀ b∈frs l,b∈as):h.FunFrames (PySem.W.hideAll h as) l:=
 PySem.W.funFrames_hide x fun env he a ha'=>ha a (List.mem_filterMap.mpr ⟨env,he,ha'⟩)
section
variable {X:Cx}{pins:List (Addr × Obj)}{U:L2.St}{H:Hp}{s s':Shared}{ex:Nat->Option Addr}
theorem cF(F:L2.FnOk X.prog X.w X.K X.mg X.base (CXD X.prog X.w ex) k f fd ps sp)(hr:L2.Room k X.A)(hb:L2.Binds X.K fd ps [])
  (hx:∀ e s',CXD X.prog X.w ex X.stack H s E e s'->X.xe e s') (I:Inv X pins U H s) (r:Vals vs us) (h:sp vs H Q E):wpAny (model X.prog X.w) X.A (call (.ref f) us) (EP X pins U Q) X.xe s:=by
 have hl:us.length=ps.length:=by rw[<- r.length];exact F.len _ _ _ _ h
 have hb':=hb s us I.kIn (by rw[List.append_nil];exact hl);rw[List.append_nil] at hb';refine wpAny_call (codeAny_mono (F.run X.A X.stack s H ⟨us,[]⟩ us vs Q E hr I.env0 hb' r h) fun r s' hq=>?_);cases r with
 |error e=>exact hx e s' hq
 |ok fl=>
  cases fl with
  |ret u=>exact I.after hq
  |next=>cases hq
  |brk=>cases hq
  |cont=>cases hq
end
section
variable {P:Program}{w:World}{K:PySem.W.Frag}{mg:Str->Option Value}{base:Heap}{N:List Str}{qual:Str}{scope:Scope}{f:Addr}{cd:Value}{A:Around}{outer:List PySem.Env}{s0:Shared}{H0:Hp}{E:XK}{ex:Nat->Option Addr}
variable {pins:List (Addr × Obj)}{U:L2.St}{H:Hp}{s s':Shared}
abbrev cxX(ex:Nat->Option Addr)(P:Program)(w:World)(K:PySem.W.Frag)(mg:Str->Option Value)(base:Heap)(N:List Str)(qual:Str)(scope:Scope)(f:Addr)(cd:Value)(A:Around)(outer:List PySem.Env)(s0:Shared)(H0:Hp)(E:XK):Cx:=L2.cxOf (CXD P w ex) P w K mg base N qual scope f cd A outer s0 H0 E
theorem qCu(I:Inv (cxX ex P w K mg base N qual scope f cd A outer s0 H0 E) pins U H s)(u:L2.Un (frs (cxX ex P w K mg base N qual scope f cd A outer s0 H0 E).stack) [] H H' s.heap h'):L2.Un (frs outer) [] H0 H' s0.heap h':=by
 have b1:L2.Un (frs outer) [] H0 H s0.heap s.heap:=I.base
 have b2:=b1.mono (fs':=frs (cxX ex P w K mg base N qual scope f cd A outer s0 H0 E).stack) (ex':=[]) (fun b hb=>by
  show b∈frs (envOfC qual scope s0.heap.objs.size f cd::outer)
  exact List.mem_cons_of_mem _ hb) fun _ z=>z
 refine qGw (b2.trans u) fun b hb hn=>?_;rcases List.mem_cons.mp (show b∈s0.heap.objs.size::frs outer from hb) with rfl | z
 ·cases q:s0.heap.get? s0.heap.objs.size with
  |none=>rfl
  |some o=>exact absurd (Heap.lt_size q) (Nat.lt_irrefl _)
 ·exact absurd z hn
theorem qCv{B:Heap}(I:Inv (cxX ex P w K mg base N qual scope f cd A outer s0 H0 E) pins U H s)(cov:∀ b o,s.heap.get? b=some o->b∉frs (cxX ex P w K mg base N qual scope f cd A outer s0 H0 E).stack->∃ o',B.get? b=some o') :
  ∀ b o,s0.heap.get? b=some o->b∉frs outer->∃ o',B.get? b=some o':=fun b o e hb=>by
 have b1:L2.Un (frs outer) [] H0 H s0.heap s.heap:=I.base;obtain ⟨o1,e1⟩:=b1.there b o e (by simp);refine cov b o1 e1 fun z=>?_;rcases List.mem_cons.mp (show b∈s0.heap.objs.size::frs outer from z) with rfl | z
 ·exact absurd (Heap.lt_size e) (Nat.lt_irrefl _)
 ·exact hb z
theorem qMY{W:WX}(hW:∀ c U H,W c U H->∀ e,E e (some c) H)(I:Inv (cxX ex P w K mg base N qual scope f cd A outer s0 H0 E) pins U H s)
  (x:CXD P w ex (cxX ex P w K mg base N qual scope f cd A outer s0 H0 E).stack H s (fun _ co H'=>∃ c,co=some c/\W c U H') e s'):(cxX ex P w K mg base N qual scope f cd A outer s0 H0 E).xe e s':=by
 obtain ⟨a,C,c,B,a0,H',rfl,h2,h3,h4,h5,h6,h7,h8,c',e',h9⟩:=x;cases e';have fr:=I.ok.frames;refine wpAny_leaves_onW (env:=envOfC qual scope s0.heap.objs.size f cd) (outer:=outer) fr rfl h3 fun h' hfl up=>?_;have un:=iK h6 h3.1 h5 h3.2.2.1 hfl.1 up;refine⟨a,C,c,B,a0,H',rfl,h2,hfl,h4,qCv I h5,qCu I un,?_,h8,hW c U H' h9 _⟩;rw[show ({ s' with heap:=h' }:Shared).os=s'.os from rfl,h7];exact I.os
theorem qMX{W:WX}(hW:∀ c U H,W c U H->∀ e,E e (some c) H)(I:Inv (cxX ex P w K mg base N qual scope f cd A outer s0 H0 E) pins U H s)(hc:ex c=some C)
  (m:Heap.MadeExcOf s.heap h1 a (.ref C) args) (hw:W c U H):(cxX ex P w K mg base N qual scope f cd A outer s0 H0 E).xe (.ref a) { s with heap:=h1 }:=by
 have fr:=I.ok.frames;have ff:=I.stack;have hB:(PySem.W.hideAll s.heap (frs (cxX ex P w K mg base N qual scope f cd A outer s0 H0 E).stack)).StaysIn s.heap:=fun b o e=>PySem.W.of_hideAll _ e;have hcov:∀ b o,s.heap.get? b=some o->b∉frs (cxX ex P w K mg base N qual scope f cd A outer s0 H0 E).stack->∃ o',(PySem.W.hideAll s.heap (frs (cxX ex P w K mg base N qual scope f cd A outer s0 H0 E).stack)).get? b=some o':=fun b o e hb=>⟨o,PySem.W.hideAll_get _ e hb⟩
 have hok:HOk P w H (PySem.W.hideAll s.heap (frs (cxX ex P w K mg base N qual scope f cd A outer s0 H0 E).stack)):=fun b u e=>by
  refine (show L2.ObjOk P w H s.heap b u from I.hok b u e).stay (fun c v hc q=>PySem.W.hideAll_get _ q fun z=>?_) (fun _ q=>q) fun _ _ q=>q;have n:=I.stkFree c z;rcases hc with rfl | hc
  ·rw[e] at n;cases n
  ·rw[hc] at n;cases n
 refine wpAny_leaves_madeW (env:=envOfC qual scope s0.heap.objs.size f cd) (outer:=outer) fr rfl hB (funFrames_hide' ff fun _ z=>z) m fun h' t hfl _ _ up=>?_;have up':s.heap.UpToSlots h':=(Heap.UpToSlots.of_keeps m.keeps).trans up;have un:=iK (L2.Un.refl (fs:=frs (cxX ex P w K mg base N qual scope f cd A outer s0 H0 E).stack) (ex:=[]) (H:=H) (h:=s.heap)) hB hcov (funFrames_hide' ff fun _ z=>z) hfl.1 up'
 exact⟨a,C,c,_,_,H,rfl,hc,hfl,hok,qCv I hcov,qCu I un,I.os,I.bare,hW c U H hw _⟩
end
def yJ(K:PySem.W.Frag)(C:Addr):Bool:=PySem.W.excIn K C [.type "ValueError",.type "Exception",.type "BaseException",.type "object"] "ValueError.__new__"
theorem qGm {K:PySem.W.Frag} (X:K.In h) (q:yJ K C=true):∃ nm qn N bs bm hdct sn sub ab col dd k0 k1 k2 k3 k5 mN,h.get? C=some (excClassObj nm qn C N bs bm hdct sn sub ab col dd k0 k1 k2 k3 k5 "ValueError.__new__")/\h.Ns N mN/\mN "__init__"=none /\
  OwnTail h [.type "ValueError",.type "Exception",.type "BaseException",.type "object"] bm:=by
 unfold yJ PySem.W.excIn at q;cases hl:K.lookup C with
 |none=>rw[hl] at q;cases q
 |some ob=>
  rw[hl] at q;have at':=X C ob hl;split at q
  ·rename_i dx cx sx eqo;cases eqo;split at q
   ·rename_i Cx' tl w0 w1 w2 w3 nn w5 emro eslots;simp only[Bool.and_eq_true,beq_iff_eq,Bool.not_eq_true'] at q;obtain ⟨⟨⟨⟨⟨q1,q2⟩,q3⟩,q4⟩,q5⟩,q6⟩:=q;obtain ⟨xa,xb,xc,xd,xe,xf,xg,xh,xi,xj,xk⟩:=cx;simp only at emro q3 q5 q6;subst q1 q2 emro q3
    have es:sx=#[w0,w1,w2,w3,some (.builtin "ValueError.__new__"),w5]:=by
     cases sx with
     |mk l=>exact congrArg Array.mk eslots
    subst es
    exact⟨xa,xe,xd,xb,tl,xf,xg,xh,xi,xj,dx,w0,w1,w2,w3,w5,_,at',.of_isNs (PySem.W.isNs_of_in X q5),PySem.W.nsMap_none_of_in X q5 q6,PySem.W.tail_of_in X q4⟩
   ·cases q
  ·cases q
section
variable {X:Cx}{F:Nat->List D->M D}{B:Nat}{W:WX}{ex:Nat->Option Addr}
theorem qIf (hc:X.calm=true) (hg:L2.Gl X x) (hdb:(x == ("__debug__":Str))=false) (hm:X.mg x=some (.ref C)) (hK:yJ X.K C=true)
  (hx:∀ pins U H s a args h',Inv X pins U H s->Heap.MadeExcOf s.heap h' a (.ref C) args->W c U H->X.xe (.ref a) { s with heap:=h' }) :
  PS X (.Raise (some (.Call (.Name x np) [.Constant (.str msg) j mp] [] cpos)) none pos) (tDS X.K W (qB F B (.raise c))):=by
 intro pins s U H E I t;obtain ⟨Y,env,h,st,r,p⟩:=t;have hw:W c U H:=p Y H U (Step.refl _ _) r st;obtain ⟨nm,qn,N,bs,bm,hdct,sn,sub,ab,col,dd,k0,k1,k2,k3,k5,mN,hC,hN,hni,T⟩:=qGm I.ok.mod.kin hK
 refine wpAny_Raise_call_subU (C:=C) (nm:=nm) (q:=qn) (N:=N) (bs:=bs) (bm:=bm) (hdct:=hdct) (sn:=sn) (sub:=sub) (ab:=ab) (col:=col) (dd:=dd) (k0:=k0) (k1:=k1) (k2:=k2) (k3:=k3) (k5:=k5) PySem.F.excBase_ValueError (by decide) PySem.F.excBase_ValueError (mN:=mN) (T.hasType PySem.F.excBase_ValueError.hasBase) (I.ok.hd hc) rfl hni
  (L2.ld_glob I hg hm ⟨rfl,?_⟩ hdb)
 refine Calls.evalArgs_plain ?_;have pa:PA X [.Constant (.str msg) j mp] (L2.tCons (L2.tC (.str msg)) L2.tNil):=L2.pa_cons L2.pe_str L2.pa_nil;refine thn (pa cpos pins s U H (fun vs H'=>vs.length<=1/\H'=H) I ⟨Nat.le_refl _,rfl⟩) fun us s2 ⟨vs,H2,I2,rv,hl,e2⟩=>?_;subst e2
 exact⟨rfl,by rw[<- rv.length];exact Nat.le_trans hl (by decide),I2.bk _ _ hC,hN.keeps I2.bk,T.keeps I2.bk,fun h' e m=>hx pins U H2 s2 e us h' I2 m hw⟩
end
abbrev hold(X:Cx)(pins:List (Addr × Obj))(E:Value->Shared->Prop):Cx:={ X with pn:=X.pn++pins,xe:=E }
abbrev mark(X:Cx)(e:Value):Cx:={ X with A:=X.A.mark (some e),calm:=false,xe:=fun _ _=>False }
section
variable {X:Cx}{pins pins':List (Addr × Obj)}{U:L2.St}{H:Hp}{s:Shared}{E:Value->Shared->Prop}
theorem qC0(ok:X.Ok):(hold X pins E).Ok:=⟨ok.mod,ok.kind,ok.glob,ok.blt,ok.above,ok.inj,ok.has,ok.cab,ok.hd,ok.frames,ok.stk,ok.exf,ok.bs,ok.bsz,ok.noex,ok.exfs,ok.funs,ok.frf⟩
theorem qCz(ok:(hold X pins E).Ok):X.Ok:=⟨ok.mod,ok.kind,ok.glob,ok.blt,ok.above,ok.inj,ok.has,ok.cab,ok.hd,ok.frames,ok.stk,ok.exf,ok.bs,ok.bsz,ok.noex,ok.exfs,ok.funs,ok.frf⟩
theorem qJZ(ok:X.Ok):(mark X e).Ok:=⟨ok.mod,ok.kind,ok.glob,ok.blt,ok.above,ok.inj,ok.has,ok.cab,(fun z=>by cases z),ok.frames,ok.stk,ok.exf,ok.bs,ok.bsz,ok.noex,ok.exfs,ok.funs,ok.frf⟩
theorem Inv.hold(I:Inv X pins U H s)(E:Value->Shared->Prop):Inv (hold X pins E) [] U H s:=⟨qC0 I.ok,I.os,I.bare,I.base,I.loc,I.cell,I.free,I.freeC,fun p hp=>I.pin p (by simpa using hp),I.hok,I.len⟩
theorem Inv.unhold(I:Inv (Fy.hold X pins E) pins' U H s):Inv X pins U H s:=⟨qCz I.ok,I.os,I.bare,I.base,I.loc,I.cell,I.free,I.freeC,fun p hp=>I.pin p (List.mem_append_left _ hp),I.hok,I.len⟩
theorem Inv.mark(I:Inv X pins U H s):Inv (mark X e) pins U H s:=⟨qJZ I.ok,I.os,I.bare,I.base,I.loc,I.cell,I.free,I.freeC,I.pin,I.hok,I.len⟩
theorem Inv.unmark(I:Inv (Fy.mark X e) pins U H s)(ok:X.Ok):Inv X pins U H s:=⟨ok,I.os,I.bare,I.base,I.loc,I.cell,I.free,I.freeC,I.pin,I.hok,I.len⟩
theorem SP.unhold{D:Ends}(h:SP (Fy.hold X pins E) pins' D f s'):SP X pins D f s':=by
 cases f with
 |next=>obtain ⟨U',H',I,q⟩:=h;exact⟨U',H',Inv.unhold I,q⟩
 |brk=>obtain ⟨U',H',I,q⟩:=h;exact⟨U',H',Inv.unhold I,q⟩
 |cont=>obtain ⟨U',H',I,q⟩:=h;exact⟨U',H',Inv.unhold I,q⟩
 |ret u=>obtain ⟨v,U',H',I,r,q⟩:=h;exact⟨v,U',H',Inv.unhold I,r,q⟩
theorem SP.unmark{D:Ends}(h:SP (Fy.mark X e) pins D f s')(ok:X.Ok):SP X pins D f s':=by
 cases f with
 |next=>obtain ⟨U',H',I,q⟩:=h;exact⟨U',H',Inv.unmark I ok,q⟩
 |brk=>obtain ⟨U',H',I,q⟩:=h;exact⟨U',H',Inv.unmark I ok,q⟩
 |cont=>obtain ⟨U',H',I,q⟩:=h;exact⟨U',H',Inv.unmark I ok,q⟩
 |ret u=>obtain ⟨v,U',H',I,r,q⟩:=h;exact⟨v,U',H',Inv.unmark I ok,r,q⟩
end
theorem qJf(x:L2.ObjOk P w H h a o):∃ ob,h.get? a=some ob:=by
 cases o with
 |lst xs=>obtain ⟨_,_,_,_,e⟩:=x;exact⟨_,e⟩
 |tup xs=>obtain ⟨_,_,_,ob,e,_⟩:=x;exact⟨_,e⟩
 |dK kvs=>obtain ⟨_,_,_,_,o,_,_,e,_⟩:=x;exact⟨_,e⟩
 |dT kvs=>obtain ⟨_,_,_,_,o,_,_,e,_⟩:=x;exact⟨_,e⟩
 |set S n=>obtain ⟨o,_,_,_,e,_⟩:=x;exact⟨_,e⟩
 |ins C dx fs=>obtain ⟨_,_,_,e,_⟩:=x;exact⟨_,e⟩
 |own y=>exact x
 |xd fs=>obtain ⟨_,⟨_,_,_,e,_⟩,_⟩:=x;exact⟨_,e⟩
 |rng lo hi=>obtain ⟨_,_,_,e⟩:=x;exact⟨_,e⟩
 |frz ob u=>obtain ⟨e,_⟩:=x;exact⟨_,e⟩
 |tbl ps=>exact⟨_,(show h.get? a=some _ from x)⟩
 |met f y=>exact⟨_,(show h.get? a=some _ from x)⟩
 |ext φ=>obtain ⟨_,⟨_,e⟩,_⟩:=x;exact⟨_,e⟩
section
variable {X:Cx}{pins:List (Addr × Obj)}{U:L2.St}{H:Hp}{s:Shared}
end
section
variable {X:Cx}{F:Nat->List D->M D}{B:Nat}{W:WX}{ex:Nat->Option Addr}
def HOf(X:Cx)(F:Nat->List D->M D)(B:Nat)(ex:Nat->Option Addr):List ExceptHandler->CH->Prop
 | [],.nil=>True
 | .ExceptHandler (some (.Name x np)) none body pos::r,.cons cs k r'=>(∃ C,L2.Gl X x/\(x == ("__debug__":Str))=false/\X.mg x=some (.ref C)/\∀ c D,ex c=some D->PySem.W.exmOne X.K (.ref D) (.ref C)=some (cs.contains c)) /\
   (∃ b0 rest,body=b0::rest)/\(∀ e,PSs (mark X e) body (tDS X.K WF (qB F B k)))/\HOf X F B ex r r'
 |_,_=>False
structure Look (X:Cx) (ex:Nat->Option Addr) (pins:List (Addr × Obj)) (U:L2.St) (Hc H:Hp) (s0 s:Shared) (Bs:Heap) (a C:Addr) (a0:Value):Prop where
 inv:Inv X pins U Hc s0
 fl:Heap.FlyingW Bs X.stack a (.ref C) a0 s.heap
 hok:HOk X.prog X.w H Bs
 cov:∀ b o,s0.heap.get? b=some o->b∉frs X.stack->∃ o',Bs.get? b=some o'
 un:L2.Un (frs X.stack) [] Hc H s0.heap s.heap
 os:s.os=s0.os
 bare:AllBare s.gens
theorem Look.go(L:Look X ex pins U Hc H s0 s Bs a C a0)(fl:Heap.FlyingW Bs X.stack a (.ref C) a0 h')(up:s.heap.UpToSlots h'):Look X ex pins U Hc H s0 { s with heap:=h' } Bs a C a0:=
 ⟨L.inv,fl,L.hok,L.cov,iK L.un L.fl.1 L.cov L.fl.2.2.1 fl.1 up,L.os,L.bare⟩
theorem Look.now(L:Look X ex pins U Hc H s0 s Bs a C a0):Inv X pins U H s:=
 L.inv.call' L.os L.un (L.hok.kept L.fl.1) L.bare fun b hb=>absurd hb (by simp)
theorem Look.ty{M:Model}(L:Look X ex pins U Hc H s0 s Bs a C a0):PySem.W.Looks M s.heap (typeOf (.ref a)) (.ref C):=by
 obtain ⟨ob,h1,h2⟩:=L.fl.there;exact h2 ▸ (PySem.W.Looks.ld h1).andThen .now
theorem Look.new(L:Look X ex pins U Hc H s0 s Bs a C a0):s0.heap.get? a=none:=by
 cases q:s0.heap.get? a with
 |none=>rfl
 |some o=>
  exfalso
  by_cases hf:a∈frs X.stack
  ·obtain ⟨_,o2,k2,k3⟩:=L.fl.2.2.1.mem hf;obtain ⟨oe,vs,T,oT,ts,t1,t2,t3,_⟩:=L.fl.2.2.2;rw[t1] at k2;cases k2;exact k3 vs t3
  ·obtain ⟨o',e⟩:=L.cov a o q hf;rw[L.fl.2.1] at e;cases e
theorem Look.free(L:Look X ex pins U Hc H s0 s Bs a C a0):H a=none:=by
 cases q:H a with
 |none=>rfl
 |some o=>obtain ⟨ob,e⟩:=qJf (L.hok a o q);rw[L.fl.2.1] at e;cases e
def Clz(X:Cx)(F:Nat->List D->M D)(B:Nat)(ex:Nat->Option Addr)(W:WX)(pins:List (Addr × Obj))(U:L2.St)(E:Ends)(hs:List ExceptHandler)(ch:CH):Prop:=
 ∀ (Hc H:Hp) (s0 s:Shared) (Bs:Heap) (a C:Addr) (a0:Value) (c:Nat),ex c=some C->Look X ex pins U Hc H s0 s Bs a C a0 ->
  (∃ Y env h,RepS X.K Y H env U/\RepH X.K Y h H/\PostS X.K W E Y H (gC F B ch c env h))->wpAny (model X.prog X.w) X.A (handleBy (.ref a) X.env hs) (SP X pins E) X.xe s
theorem qQR(hh:HOf X F B ex (.ExceptHandler (some (.Name x np)) none body pos::r) (.cons cs k r'))(ih:Clz X F B ex W pins U E r r'):Clz X F B ex W pins U E (.ExceptHandler (some (.Name x np)) none body pos::r) (.cons cs k r'):=by
 rintro Hc H s0 s Bs a C a0 c hc L ⟨Y,env,h,st,rh,p⟩
 obtain ⟨⟨C',g1,g2,g3,g4⟩,⟨b0,rest,hb⟩,hsu,hr⟩:=hh;have I:=L.now;dsimp only[gC] at p;refine wpAny_handleBy_cons (codeAny_handlers_test (L2.ld_glob (X:=mark X (.ref a)) (Inv.mark I) g1 g3 ?_ g2)) (by intro q;cases q);refine (PySem.W.exm_one I.kIn L.ty (g4 c C hc)).here ?_;cases q:cs.contains c with
 |false=>rw[q] at p;exact ih _ _ _ _ _ _ _ _ _ hc L ⟨Y,env,h,st,rh,p⟩
 |true=>
  rw[q] at p;subst hb;refine codeAny_handlers_suite (lands_againW L.fl fun h6 fl6 up6=>?_);have L6:=L.go fl6 up6;have p:PostS X.K W E Y H (SR.calm (qB F B k env h)):=p
  have p':PostS X.K WF E Y H (qB F B k env h):=by
   cases z:qB F B k env h with
   |nx _ _=>rw[z] at p;exact p
   |rt _ _=>rw[z] at p;exact p
   |bk _ _=>rw[z] at p;exact p
   |ct _ _=>rw[z] at p;exact p
   |exc _ _ _=>rw[z] at p;cases p
   |bad=>rw[z] at p;exact p
  exact wpAny_mono (hsu (.ref a) pins _ U H E (Inv.mark L6.now) ⟨Y,env,h,st,rh,p'⟩) (fun f s7 q7=>SP.unmark q7 I.ok) fun _ _ z=>False.elim z
theorem qQQ:∀ (hs:List ExceptHandler) (ch:CH),HOf X F B ex hs ch->Clz X F B ex W pins U E hs ch:=by
 intro hs
 induction hs with
 |nil=>
  intro ch hh;cases ch with
  |nil=>rintro Hc H s0 s Bs a C a0 c hc L ⟨Y,env,h,st,rh,p⟩;cases p
  |_=>cases hh
 |cons hd r ih=>
  intro ch hh;obtain ⟨ty,nm,body,pos⟩:=hd;cases ty with
  |none=>cases hh
  |some t=>
   cases t with
   |Name x np=>
    cases nm with
    |none=>
     cases ch with
     |cons cs k r'=>exact qQR hh (ih r' hh.2.2.2)
     |_=>cases hh
    |some n=>cases hh
   |_=>cases hh
theorem qIX(hstk:X.stack=X.env::X.outer/\X.env.frame=some X.env.locals)(hh:HOf X F B ex (h0::hs) ch)
  (hb:∀ (pins:List (Addr × Obj)) (W1:WX),PSs (hold X pins fun e s'=>∃ pins' U H s0,Inv (hold X pins fun _ _=>False) pins' U H s0/\CXD X.prog X.w ex X.stack H s0 (fun _ co H'=>∃ c,co=some c/\W1 c U H') e s') body (tDS X.K W1 (qB F B cb))) :
  PS X (.Try body (h0::hs) [] [] pos) (tDS X.K W (qB F B (.tryx cb ch))):=by
 intro pins s U H E I t;obtain ⟨Y,env,h,st,r,p⟩:=t;dsimp only[qB] at p;show wpAny _ _ (do standAt pos;tryStmt false (execs body X.env) (h0::hs) (execs [] X.env) [] X.env) _ _ s;refine wpAny_bind (wpAny_standAt (wpAny_tryStmt_except ?_))
 have p1:PostS X.K (fun c st H'=>∃ Y env h,RepS X.K Y H' env st/\RepH X.K Y h H'/\PostS X.K W E Y H' (gC F B ch c env h)) E Y H (qB F B cb env h):=by
  cases z:qB F B cb env h with
  |nx _ _=>rw[z] at p;exact p
  |rt _ _=>rw[z] at p;exact p
  |bk _ _=>rw[z] at p;exact p
  |ct _ _=>rw[z] at p;exact p
  |exc c e g=>rw[z] at p;exact fun Y' H' st' e' r' s'=>⟨Y',e,g,s',r',PostS.mono p e'⟩
  |bad=>rw[z] at p;exact p
 refine wpAny_mono (hb pins _ [] s U H E (Inv.hold I _) ⟨Y,env,h,st,r,p1⟩) (fun f s1 q1=>?_) fun e s1 q1=>?_
 ·have q:=SP.unhold q1;cases f with
  |next=>exact wpAny_execs_nil q
  |brk=>exact q
  |cont=>exact q
  |ret u=>exact q
 ·obtain ⟨pins',U',Hc,s0,I0,a,C,c,Bs,a0,H',rfl,h2,h3,h4,h5,h6,h7,h8,c',e',Y',env',g',st',r',p'⟩:=q1;cases e';have I0':Inv X pins U' Hc s0:=Inv.unhold I0;have L:Look X ex pins U' Hc H' s0 s1 Bs a C a0:=⟨I0',h3,h4,h5,h6,h7,h8⟩;have fr:=I.ok.frames;rw[hstk.1] at fr;have fl:=h3;rw[hstk.1] at fl;refine wpAny_looks_onW fr hstk.2 fl fun h4' held up4=>?_;refine wpAny_landsW held fun h5' fl5 up5=>?_;rw[<- hstk.1] at fl5;exact qQQ (h0::hs) ch hh _ _ _ _ _ _ _ _ _ h2 (L.go fl5 (up4.trans up5)) ⟨Y',env',g',st',r',p'⟩
end
open PySem PySem.Spec PySem.Calls PyProof.Rows PySem.W
structure XGet (K:Frag) (C:Addr):Prop where
 ga:findIn K (.ref C) "__getattribute__"=some (some (.builtin "BaseException.__getattribute__"))
 gt:findIn K (.ref C) "__getattr__"=some none
 cl:findIn K (.ref C) "__class__"=some (some (.builtin "object.__class__"))
 ob:subIn K (.ref C) (.type "object")=some true
 be:subIn K (.ref C) (.type "BaseException")=some true
 is:isClsIn K C=true
section
variable {prog:Program}{w:World}{A:Around}{E:Value->Shared->Prop}{h:Heap}{g:Array GenState}{d:Drawn}{t:Nat}{os:OsState}{a C:Addr}{o:Obj}{K:Frag}
end
theorem qDh{K:PySem.W.Frag}(h:PySem.W.exmOne K t c=some b)(hb:(t == c)=true->b=true):PySem.W.kitOne K t c=some b:=by
 unfold PySem.W.exmOne at h;unfold PySem.W.kitOne;split
 ·rename_i q;rw[hb q]
 ·split at h
  ·exact h
  ·cases h
section
variable {X:Cx}{F:Nat->List D->M D}{W:WX}
end
def vl(l:List Nat)(a:Nat):Nat:=l.foldl (fun a d=>a*256+d) a
theorem lR:∀ (f n:Nat) (acc:List Nat),n<256 ^ f->vl (wL f n acc) 0=vl acc n
 |0,n,acc,h=>by
  have:n=0:=by rw[Nat.pow_zero] at h;lia
  subst this;rfl
 |f+1,n,acc,h=>by
  unfold wL
  by_cases q:n=0
  ·rw[if_pos q,q]
  ·rw[if_neg q,lR f (n / 256) (n % 256::acc) (by rw[Nat.pow_succ] at h;exact Nat.div_lt_of_lt_mul (by rw[Nat.mul_comm];exact h))];show vl acc (n / 256*256+n % 256)=_;rw[Nat.div_add_mod' n 256]
theorem lQ(ha:a<256 ^ 60)(hb:b<256 ^ 60)(h:qD a=qD b):a=b:=by
 unfold qD at h;have h1:(wL 60 a []).toArray=(wL 60 b []).toArray:=congrArg Str.cps h;have h2:wL 60 a []=wL 60 b []:=by simpa using h1
 have e1:=lR 60 a [] ha;have e2:=lR 60 b [] hb;rw[h2,e2] at e1;exact e1.symm
section
variable {K:PySem.W.Frag}{Y:List Addr}{H:Hp}{C:Addr}
theorem RepF.len:∀ {fs:List (Nat × D)} {vs:List (Str × V)},RepF K Y H C fs vs->vs.length=fs.length
 | [],_,h=>by cases h;rfl
 |x::xs,_,⟨v,r,h1,_,_,_,h3⟩=>by subst h1;simp[RepF.len h3]
theorem RepF.get:∀ {fs:List (Nat × D)} {vs:List (Str × V)},RepF K Y H C fs vs->qI k fs=some d->∃ v,vs.lookup (qD k)=some v/\RepV K Y H d v/\L2.NoAttr K C (qD k)/\k<256 ^ 60
 | [],_,_,e=>by cases e
 | (g,x)::xs,_,⟨v,r,h1,hb,hn,h2,h3⟩,e=>by
  subst h1;unfold qI at e
  by_cases q:(g == k)=true
  ·rw[if_pos q] at e;cases e
   have:g=k:=by simpa using q
   subst this
   exact⟨v,by simp[List.lookup],h2,hn,hb⟩
  ·rw[if_neg q] at e;obtain ⟨w,k1,k2,k3,k4⟩:=RepF.get h3 e;refine⟨w,?_,k2,k3,k4⟩;have ne:(qD k == qD g)=false:=beq_eq_false_iff_ne.mpr fun z=>q (by rw[lQ k4 hb z];simp);show List.lookup (qD k) ((qD g,v)::r)=_;rw[List.lookup_cons,ne];exact k1
theorem RepF.none(hk:k<256 ^ 60):∀ {fs:List (Nat × D)} {vs:List (Str × V)},RepF K Y H C fs vs->qI k fs=none->vs.lookup (qD k)=none
 | [],_,h,_=>by cases h;rfl
 | (g,x)::xs,_,⟨v,r,h1,hb,hn,h2,h3⟩,e=>by
  subst h1;unfold qI at e
  by_cases q:(g == k)=true
  ·rw[if_pos q] at e;cases e
  ·rw[if_neg q] at e;have ne:(qD k == qD g)=false:=beq_eq_false_iff_ne.mpr fun z=>q (by rw[lQ hk hb z];simp);show List.lookup (qD k) ((qD g,v)::r)=_;rw[List.lookup_cons,ne];exact RepF.none hk h3 e
theorem RepF.put(hk:k<256 ^ 60)(hn:L2.NoAttr K C (qD k))(hv:RepV K Y H d v):∀ {fs:List (Nat × D)} {vs:List (Str × V)},RepF K Y H C fs vs->RepF K Y H C (zI k d fs) (L2.putF (qD k) v vs)
 | [],_,h=>by cases h;exact⟨v,[],rfl,hk,hn,hv,rfl⟩
 | (g,x)::xs,_,⟨w,r,h1,hb,hn',h2,h3⟩=>by
  subst h1;unfold zI;show RepF K Y H C _ (if qD g=qD k then (qD g,v)::r else (qD g,w)::L2.putF (qD k) v r)
  by_cases q:(g == k)=true
  ·have:g=k:=by simpa using q
   subst this;rw[if_pos q,if_pos rfl]
   exact⟨v,r,rfl,hk,hn,hv,h3⟩
  ·have hb':g<256 ^ 60:=hb;rw[if_neg q,if_neg fun z=>q (by rw[lQ hb' hk z];simp)]
   exact⟨w,_,rfl,hb,hn',h2,RepF.put hk hn hv h3⟩
end
section
variable {X:Cx}{F:Nat->List D->M D}{B:Nat}{W:WX}
theorem qP5(hf:f=qD k)(he:PE X e (tD X.K W (den F ca)))(hb:attributeBase e f X.env (eval e X.env)=eval e X.env):PE X (.Attribute e f pos) (tD X.K W (den F (.un (.fld k) ca))):=by
 subst hf;refine PE.imp (L2.pe_fld he hb) fun U H Q t=>?_;obtain ⟨Y,env,h,s,r,p⟩:=one t;refine⟨Y,env,h,s,r,Post.imp p fun Y' H' d q v hv=>?_⟩;obtain ⟨w,Y2,h2,d2,r2,hd,p2⟩:=q v hv;cases d2 with
 |ref i=>
  have p2:PostV X.K w Q Y2 H' (match h2[i]? with | some (.ins _ fs)=>(match qI k fs with | some d=>.ok d h2 | none=>.bad) | _=>.bad):=p2;split at p2
  ·rename_i c fs hi;cases g:qI k fs with
   |none=>rw[g] at p2;cases p2
   |some d=>
    rw[g] at p2;obtain ⟨a,ha,C,dx,vs,k1,k2,k3,k4⟩:=r2.obj i _ hi;obtain ⟨a',ha',rfl⟩:=hd;rw[ha] at ha';cases ha';obtain ⟨u,l1,l2,l3,_⟩:=k4.get g
    exact⟨a,C,dx,vs,u,rfl,k3,k2,l3,l1,PostV.now p2 r2 l2⟩
  ·cases p2
 |_=>exact (show False from p2).elim
theorem qIa(hf:f=qD k)(hk:k<256 ^ 60)(hna:∀ c C,cs.contains c=true->zW X.K c C->L2.NoAttr X.K C (qD k))
  (ho:PE X o (tD X.K W (den F ca))) (he:PE X e (tD X.K W (den F ce))) (hs:swapsWith e (some (.Attribute o f pos')) pos.line X.env=pure false):PS X (.Assign [.Attribute o f pos'] e pos) (tDS X.K W (qB F B (.setF ca k cs ce))):=by
 subst hf;refine PS.imp (L2.ps_fld ho he hs) fun E U H t=>?_;obtain ⟨Y,env,h,s,r,p⟩:=t;dsimp only[qB] at p;refine⟨Y,env,h,s,r,PostS.ofR s p fun Y1 h1 d H1 e1 r1 q v hv=>⟨Y1,env,h1,s.mono e1,r1,?_⟩⟩;have q:PostS X.K W E Y1 H1 (SR.ofR env ((den F ca env h1).bind fun x g=>cB k cs d x g) fun _ h2=>.nx env h2):=q;cases z:den F ca env h1 with
 |ok x h2=>
  rw[z] at q;have q:PostS X.K W E Y1 H1 (SR.ofR env (cB k cs d x h2) fun _ h2=>.nx env h2):=q;intro Y2 H2 e2 r2 vx hvx;cases x with
  |ref i=>
   have q:PostS X.K W E Y1 H1 (SR.ofR env (match h2[i]? with | some (.ins c fs)=>if cs.contains c=true/\fs.length<1000 then .ok () (h2.set i (.ins c (zI k d fs))) else .bad | _=>.bad) fun _ h2=>.nx env h2):=q;cases hi:h2[i]? with
   |none=>rw[hi] at q;cases q
   |some ob=>
    rw[hi] at q;cases ob with
    |ins c fs=>
     have q:PostS X.K W E Y1 H1 (SR.ofR env (if cs.contains c=true/\fs.length<1000 then .ok () (h2.set i (.ins c (zI k d fs))) else .bad) fun _ h2=>.nx env h2):=q
     by_cases hc:cs.contains c=true/\fs.length<1000
     ·rw[if_pos hc] at q;obtain ⟨a,ha,C,dx,vs,k1,k2,k3,k4⟩:=r2.obj i _ hi;obtain ⟨a',ha',rfl⟩:=hvx;rw[ha] at ha';cases ha';have na:=hna c C hc.1 k1;have stp:Step Y2 H2 Y2 (upd H2 a (.ins C dx (L2.putF (qD k) v vs))):=Step.turn k3 rfl (List.mem_of_getElem? ha);refine⟨a,C,dx,vs,rfl,k3,k2,na,by rw[k4.len];exact hc.2,?_⟩;have rf:=k4.put hk na (hv.mono e2 _ _);exact q Y2 _ U (e2.trans stp) (r2.setO hi rfl rfl ha k3 rfl ⟨C,dx,_,k1,k2,qL,rf.mono stp _ _⟩) ((s.mono e1).mono (e2.trans stp))
     ·rw[if_neg hc] at q;cases q
    |_=>exact (show False from q).elim
  |_=>exact (show False from q).elim
 |exc c h2=>rw[z] at q;exact fun Y' H' e' r'=>q Y' H' U e' r' ((s.mono e1).mono e')
 |bad=>rw[z] at q;exact q
end
section
variable {X:Cx}{F:Nat->List D->M D}{B:Nat}{W:WX}{ex:Nat->Option Addr}{k:Nat}
def iF(X:Cx)(F:Nat->List D->M D)(k:Nat)(ex:Nat->Option Addr)(m:Str)(tb:List (Nat × Nat)):Prop:=
 ∀ cc fi C,tbN tb cc=some fi->zW X.K cc C->L2.Cls X.K C/\∃ f fd ps,L2.Meth X.K C m f/\L2.Binds X.K fd ps []/\L2.FnOk X.prog X.w X.K X.mg X.base (CXD X.prog X.w ex) k f fd ps (spD X.K (F fi))
def mQ(X:Cx)(F:Nat->List D->M D)(W:WX)(U:L2.St)(env:Env)(mk:Nat)(tb:List (Nat × Nat))(cl:CL)(Q:VK):VK:=fun x H1=>
 ∃ Y h d,RepS X.K Y H1 env U/\RepH X.K Y h H1/\RepV X.K Y H1 d x/\PostV X.K (W.at U) Q Y H1 (((lV mk d).bind fun c=>match tbN tb c with | some f=>(zB F cl env).bind fun xs=>F f (d::xs) | none=>M.bad) h)
theorem qDV(st:RepS X.K Y H env U)(p:PostV X.K (W.at U) Q Y H (den F (.meth mk tb ca cl) env h)) :
  PostV X.K (W.at U) (mQ X F W U env mk tb cl Q) Y H (den F ca env h):=by
 dsimp only[den] at p;exact Post.bind p fun Y1 h1 d H1 e1 r1 q v hv=>⟨Y1,h1,d,st.mono e1,r1,hv,q⟩
theorem qDW(hm:iF X F k ex m tb)(hn:m=qD mk)(hb:mk<256 ^ 60)(q:mQ X F W U env mk tb cl Q x H1) :
  ∃ a C dx vs f fd ps Y h d,x=.ref a/\H1 a=some (.ins C dx vs)/\vs.lookup m=none/\L2.Cls X.K C/\L2.Meth X.K C m f/\L2.Binds X.K fd ps []/\RepS X.K Y H1 env U/\RepH X.K Y h H1/\RepV X.K Y H1 d x /\
   ∃ fi,L2.FnOk X.prog X.w X.K X.mg X.base (CXD X.prog X.w ex) k f fd ps (spD X.K (F fi))/\PostV X.K (W.at U) Q Y H1 ((zB F cl env).bind (fun xs=>F fi (d::xs)) h):=by
 obtain ⟨Y,h,d,st,r,hd,p⟩:=q;cases d with
 |ref i=>
  have p:PostV X.K (W.at U) Q Y H1 ((match h[i]? with | some (.ins c fs)=>if (qI mk fs).isNone then R.ok c h else .bad | _=>.bad).bind fun c g=>(match tbN tb c with | some f=>(zB F cl env).bind fun xs=>F f (.ref i::xs) | none=>M.bad) g):=p;cases hi:h[i]? with
  |none=>rw[hi] at p;cases p
  |some ob=>
   rw[hi] at p;cases ob with
   |ins c fs=>
    cases g:qI mk fs with
    |some _=>rw[show (match some (O.ins c fs) with | some (.ins c fs)=>if (qI mk fs).isNone then R.ok c h else .bad | _=>.bad)=(if (qI mk fs).isNone then R.ok c h else .bad) from rfl,g] at p;cases p
    |none=>
     rw[show (match some (O.ins c fs) with | some (.ins c fs)=>if (qI mk fs).isNone then R.ok c h else .bad | _=>.bad)=(if (qI mk fs).isNone then R.ok c h else .bad) from rfl,g] at p;have p:PostV X.K (W.at U) Q Y H1 ((match tbN tb c with | some f=>(zB F cl env).bind fun xs=>F f (.ref i::xs) | none=>M.bad) h):=p;obtain ⟨a,ha,C,dx,vs,k1,k2,k3,k4⟩:=r.obj i _ hi;obtain ⟨a',ha',rfl⟩:=id hd;rw[ha] at ha';cases ha';cases ht:tbN tb c with
     |none=>rw[ht] at p;cases p
     |some fi=>rw[ht] at p;obtain ⟨_,f,fd,ps,m1,m2,m3⟩:=hm c fi C ht k1;refine⟨a,C,dx,vs,f,fd,ps,Y,h,.ref i,rfl,k3,?_,k2,m1,m2,st,r,hd,fi,m3,p⟩;rw[hn];exact k4.none hb g
   |_=>cases p
 |_=>cases p
theorem qCC(hd:RepV X.K Y1 H1 d x)(p:PostV X.K (W.at U) Q Y1 H1 ((zB F cl env).bind (fun xs=>F fi (d::xs)) h1)) :
  Post X.K (W.at U) (fun Y' H' ds=>∀ vs,RepL X.K Y' H' ds vs->spD X.K (F fi) (x::vs) H' Q fun _ co H'=>∃ c,co=some c/\W c U H') Y1 H1 (zB F cl env h1):=
 Post.bind p fun Y2 h2 ds H2 e2 r2 q vs hvs=>⟨Y2,h2,d::ds,r2,⟨x,vs,rfl,hd.mono e2 _ _,hvs⟩,by
  cases z:F fi (d::ds) h2 with
  |ok a g=>rw[z] at q;exact q
  |exc c g=>rw[z] at q;exact fun Y' H' e' r' _=>⟨c,rfl,q Y' H' e' r'⟩
  |bad=>rw[z] at q;exact q⟩
theorem qFD(hbase:attributeBase o m env (eval o env)=eval o env)(hline:(apos.endLine == pos.line)=true)
  (hfew:methodCallForm (args.length+([]:List Keyword).length) (backTo pos (starEach args env)) (backToKw pos (keywordEach [] env))=true) :
  eval (.Call (.Attribute o m apos) args [] pos) env=(do
   let ov <- eval o env
   standAt apos.atName
   let (f,first) <- holding [ov] (getMethod ov m (do return (<- importBound o env).getD true))
   callWith pos f first (backTo pos (starEach args env)) (backToKw pos (keywordEach [] env))):=by
 rw[arm_eval_Call,hbase];unfold methodCall;rw[hfew];unfold calleeOf methodCallPos;simp only[hline,Bool.not_true,Bool.false_or,if_true];rfl
theorem qPu(hm:iF X F k ex m tb)(hn:m=qD mk)(hb:mk<256 ^ 60)(hr:L2.Room k X.A)
  (hxc:∀ pins U H s0 e s',Inv X pins U H s0->CXD X.prog X.w ex X.stack H s0 (fun _ co H'=>∃ c,co=some c/\W c U H') e s'->X.xe e s')
  (ho:PE X o (tD X.K W (den F ca))) (ha:PA X (e::es) (tDL X.K W (zB F cl))) (hbase:attributeBase o m X.env (eval o X.env)=eval o X.env) (hline:(apos.endLine == pos.line)=true)
  (hfew:methodCallForm ((e::es).length+([]:List Keyword).length) (backTo pos (starEach (e::es) X.env)) (backToKw pos (keywordEach [] X.env))=true)
  (hst:starEach (e::es) X.env=(false,eval e X.env)::starEach es X.env) (hpl:(backTo pos (starEach es X.env)).any (·.1)=false) :
  PE X (.Call (.Attribute o m apos) (e::es) [] pos) (tD X.K W (den F (.meth mk tb ca cl))):=by
 intro pins s U H Q I t;obtain ⟨Y,env,h,st,r,p⟩:=t;refine PySem.W.methodCall_KW (thn (ho pins s U H (mQ X F W U env mk tb cl Q) I ⟨Y,env,h,st,r,qDV st p⟩) fun u s1 z=>?_) (qFD hbase hline hfew);obtain ⟨x,H1,I1,rx,q⟩:=z;obtain ⟨a,C,dx,vs,f,fd,ps,Y1,h1,d,rfl,hH,hl,hc,hmt,hbi,st1,r1,hd,fi,FO,p1⟩:=qDW hm hn hb q;obtain rfl:u=Value.ref a:=rx;refine L2.getmeth_ok I1 hH hc hmt hl ?_;refine PySem.W.callWith_K (first:=[.ref a]) (h₀:=X.base) I.ok.mod.kin hmt.kp (thn (ha pos pins s1 U H1 _ I1 ⟨Y1,env,h1,st1,r1,qCC hd p1⟩) fun us s2 ⟨vs2,H2,I2,r2,q2⟩=>⟨I2.kIn,?_⟩) hst hpl;exact cF (us:=.ref a::us) (vs:=.ref a::vs2) FO hr hbi (fun e s' z=>hxc pins U H2 s2 e s' I2 z) I2 (.cons rfl r2) q2
theorem qPt(hm:iF X F k ex m tb)(hn:m=qD mk)(hb:mk<256 ^ 60)(hr:L2.Room k X.A)
  (hxc:∀ pins U H s0 e s',Inv X pins U H s0->CXD X.prog X.w ex X.stack H s0 (fun _ co H'=>∃ c,co=some c/\W c U H') e s'->X.xe e s')
  (ho:PE X o (tD X.K W (den F ca))) (hbase:attributeBase o m X.env (eval o X.env)=eval o X.env) (hline:(apos.endLine == pos.line)=true):PE X (.Call (.Attribute o m apos) [] [] pos) (tD X.K W (den F (.meth mk tb ca .nil))):=by
 intro pins s U H Q I t;obtain ⟨Y,env,h,st,r,p⟩:=t;refine PySem.W.methodCall_KW (thn (ho pins s U H (mQ X F W U env mk tb .nil Q) I ⟨Y,env,h,st,r,qDV st p⟩) fun u s1 z=>?_) (qFD hbase hline rfl);obtain ⟨x,H1,I1,rx,q⟩:=z;obtain ⟨a,C,dx,vs,f,fd,ps,Y1,h1,d,rfl,hH,hl,hc,hmt,hbi,st1,r1,hd,fi,FO,p1⟩:=qDW hm hn hb q;obtain rfl:u=Value.ref a:=rx;refine L2.getmeth_ok I1 hH hc hmt hl ?_;have q2:=Post.ret (a:=([]:List D)) (h:=h1) (qCC (cl:=.nil) hd p1) r1 [] rfl;exact PySem.W.callWith_K0 (first:=[.ref a]) I1.kIn hmt.kp (cF (us:=[.ref a]) (vs:=[.ref a]) FO hr hbi (fun e s' z=>hxc pins U H1 s1 e s' I1 z) I1 (.cons rfl .nil) q2)
theorem qCW(M:L2.Mk X.K C f)(F:L2.FnOk X.prog X.w X.K X.mg X.base (CXD X.prog X.w ex) k f fd ps sp)(hr:L2.Room (k+1) X.A)(hb:L2.Binds X.K fd ps ds)(hd:Vals dvs ds)
  (hx:∀ pins H s e s',Inv X pins U H s->CXD X.prog X.w ex X.stack H s E e s'->X.xe e s') (I:Inv X pins U H s) (r:Vals vs us)
  (h:∀ x dx,H x=none->H dx=none->dx≠x->sp (.ref x::(vs++dvs)) (upd (upd H dx (.own x)) x (.ins C dx [])) (fun v H2=>v=.non/\Q (.ref x) H2) E) :
  wpAny (model X.prog X.w) X.A (call (.ref C) us) (EP X pins U Q) X.xe s:=by
 have hq:=h (s.heap.objs.size+1) s.heap.objs.size (I.hok.fresh (Nat.le_succ _)) (I.hok.fresh (Nat.le_refl _)) (Nat.ne_of_lt (Nat.lt_succ_self _));have I2:=L2.Inv.made (C:=C) I;have r2:Vals (V.ref (s.heap.objs.size+1)::(vs++dvs)) (Value.ref (s.heap.objs.size+1)::(us++ds)):=.cons rfl (r.append hd)
 have hl:(Value.ref (s.heap.objs.size+1)::us++ds).length=ps.length:=by
  have e:=r2.length;rw[F.len _ _ _ _ hq] at e;exact e.symm
 refine wpAny_call (L2.make_map (f:=f) I.kIn M.makes M.init (beq_iff_eq.mp M.fn) (codeAny_mono (F.run _ X.stack _ _ ⟨Value.ref (s.heap.objs.size+1)::us,[]⟩ (Value.ref (s.heap.objs.size+1)::(us++ds)) _ _ E (hr.make C us [])
  (I2.env0.make C us []) (hb _ (Value.ref (s.heap.objs.size+1)::us) I2.kIn hl) r2 hq) fun r s' hq'=>?_))
 cases r with
 |error e=>exact hx pins _ _ e s' I2 hq'
 |ok fl=>
  cases fl with
  |ret u=>
   obtain ⟨v,H',I3,rv,ev,q3⟩:=I2.after hq';subst ev
   exact⟨rv,⟨V.ref (s.heap.objs.size+1),H',I3,rfl,q3⟩⟩
  |next=>cases hq'
  |brk=>cases hq'
  |cont=>cases hq'
theorem qDJ(hc:zW X.K c C)(hcl:L2.Cls X.K C)(r:RepH X.K Y1 h1 H1)(hl:RepL X.K Y1 H1 ds vs)
  (p:PostV X.K w Q Y1 H1 (yF F c fi ds h1)):∀ x dx,H1 x=none->H1 dx=none->dx≠x ->
  spD X.K (F fi) (.ref x::(vs++[])) (upd (upd H1 dx (.own x)) x (.ins C dx [])) (fun v H2=>v=.non/\Q (.ref x) H2) fun _ co H'=>∃ c,co=some c/\w c H':=by
 intro x dx hx hdx ne;rw[List.append_nil];have hx':upd H1 dx (.own x) x=none:=by rw[qH (Ne.symm ne)];exact hx
 have s1:Step Y1 H1 Y1 (upd H1 dx (.own x)):=Step.fresh hdx;have s2:Step Y1 (upd H1 dx (.own x)) (Y1++[x]) (upd (upd H1 dx (.own x)) x (.ins C dx [])):=Step.new1 hx';have r2:RepH X.K (Y1++[x]) (h1++[.ins c []]) (upd (upd H1 dx (.own x)) x (.ins C dx [])):=(r.fresh hdx).newO hx' ⟨C,dx,[],hc,hcl,qL,rfl⟩;have hi:(Y1++[x])[h1.length]?=some x:=by rw[<- r.len,List.getElem?_append_right (Nat.le_refl _)];simp
 refine⟨Y1++[x],h1++[.ins c []],.ref h1.length::ds,r2,⟨.ref x,vs,rfl,⟨x,hi,rfl⟩,hl.mono (s1.trans s2) _ _⟩,?_⟩;have p:PostV X.K w Q Y1 H1 ((F fi (.ref h1.length::ds) (h1++[.ins c []])).bind fun d h'=>match d with | .non=>.ok (.ref h1.length) h' | _=>.bad):=p;cases z:F fi (.ref h1.length::ds) (h1++[.ins c []]) with
 |ok d g=>
  rw[z] at p;cases d with
  |non=>intro Y' H' e' r' v hv;refine⟨hv,?_⟩;have e2:=(s1.trans s2).trans e';exact p Y' H' e2 r' (.ref x) ⟨x,vQ e'.pre hi,rfl⟩
  |_=>cases p
 |exc cc g=>rw[z] at p;exact fun Y' H' e' r' _=>⟨cc,rfl,p Y' H' ((s1.trans s2).trans e') r'⟩
 |bad=>rw[z] at p;exact p
theorem qPw (hg:L2.Gl X y) (hdb:(y == ("__debug__":Str))=false) (hmg:X.mg y=some (.ref C)) (hc:zW X.K c C) (hcl:L2.Cls X.K C) (M:L2.Mk X.K C f)
  (hb:L2.Binds X.K fd ps []) (FO:L2.FnOk X.prog X.w X.K X.mg X.base (CXD X.prog X.w ex) k f fd ps (spD X.K (F fi))) (hr:L2.Room (k+1) X.A)
  (hxc:∀ pins U H s0 e s',Inv X pins U H s0->CXD X.prog X.w ex X.stack H s0 (fun _ co H'=>∃ c,co=some c/\W c U H') e s'->X.xe e s')
  (ha:PA X (e::es) (tDL X.K W (zB F cl))) (hst:starEach (e::es) X.env=(false,eval e X.env)::starEach es X.env) (hpl:(backTo pos (starEach es X.env)).any (·.1)=false) :
  PE X (.Call (.Name y p1) (e::es) [] pos) (tD X.K W (den F (.make c fi cl))):=by
 intro pins s U H Q I t;obtain ⟨Y,env,h,st,r,p⟩:=t;dsimp only[den] at p;refine wpAny_Call_Name_kw (L2.ld_glob I hg hmg ?_ hdb)
 refine PySem.W.callWith_K (h₀:=X.base) I.ok.mod.kin M.kp (thn (ha pos pins s U H (fun vs H1=>∀ x dx,H1 x=none->H1 dx=none->dx≠x->spD X.K (F fi) (.ref x::(vs++[])) (upd (upd H1 dx (.own x)) x (.ins C dx [])) (fun v H2=>v=.non/\Q (.ref x) H2) fun _ co H'=>∃ c,co=some c/\W c U H') I
  ⟨Y,env,h,st,r,Post.bind p fun Y1 h1 ds H1 e1 r1 q vs hvs=>qDJ hc hcl r1 hvs q⟩) fun us s1 ⟨vs,H1,I1,rv,q⟩=>⟨I1.kIn,?_⟩) hst hpl
 exact qCW M FO hr hb .nil (fun pins H s e s' I z=>hxc pins U H s e s' I z) I1 rv q
theorem qPv (hg:L2.Gl X y) (hdb:(y == ("__debug__":Str))=false) (hmg:X.mg y=some (.ref C)) (hc:zW X.K c C) (hcl:L2.Cls X.K C) (M:L2.Mk X.K C f)
  (hb:L2.Binds X.K fd ps []) (FO:L2.FnOk X.prog X.w X.K X.mg X.base (CXD X.prog X.w ex) k f fd ps (spD X.K (F fi))) (hr:L2.Room (k+1) X.A)
  (hxc:∀ pins U H s0 e s',Inv X pins U H s0->CXD X.prog X.w ex X.stack H s0 (fun _ co H'=>∃ c,co=some c/\W c U H') e s'->X.xe e s') :
  PE X (.Call (.Name y p1) [] [] pos) (tD X.K W (den F (.make c fi .nil))):=by
 intro pins s U H Q I t;obtain ⟨Y,env,h,st,r,p⟩:=t;dsimp only[den,zB] at p;refine wpAny_Call_Name_kw (L2.ld_glob I hg hmg ?_ hdb);exact PySem.W.callWith_K0 I.kIn M.kp (qCW (us:=[]) (vs:=[]) M FO hr hb .nil (fun pins H s e s' I z=>hxc pins U H s e s' I z) I .nil (qDJ (ds:=[]) hc hcl r rfl p))
end
section
variable {X:Cx}{F:Nat->List D->M D}{B:Nat}{W:WX}
theorem qM6(n:Nat)(i:Int):L2.ixN n i=ixN n i:=rfl
theorem RepL.set{K:PySem.W.Frag}(hv:RepV K Y H d v):∀ {ds:List D} {vs:List V} (n:Nat),RepL K Y H ds vs->RepL K Y H (ds.set n d) (vs.set n v)
 | [],_,n,h=>by cases h;simp[RepL]
 |x::ds,_,0,⟨u,r,h1,h2,h3⟩=>by subst h1;exact⟨v,r,rfl,hv,h3⟩
 |x::ds,_,n+1,⟨u,r,h1,h2,h3⟩=>by subst h1;exact⟨u,r.set n v,rfl,h2,RepL.set hv n h3⟩
def qCf:V->V->V->Hp->(Hp->Prop)->Prop:=fun o i v H Q=>L2.rSetL o i v H Q\/∃ a vs k,o=.ref a/\i=L2.kV k/\H a=some (.dK vs)/\vs.length<sizeLine/\Q (upd H a (.dK (L2.putK vs k v)))
theorem qIP:L2.PSet X qCf:=by
 intro pins s U H o i v ov iv u Q I ro ri rv h;rcases h with h | ⟨a,vs,k,rfl,rfl,hH,hl,q⟩
 ·exact L2.set_list pins s U H o i v ov iv u Q I ro ri rv h
 ·cases ro;exact qPR I hH hl ri rv fun s' I'=>⟨_,I',q⟩
theorem lJ(s:RepS X.K Y H env U)(e:Step Y H Y3 H3)(r3:RepH X.K Y3 h3 H3)(hvx:RepV X.K Y3 H3 (.ref k) vx)(hvy:RepV X.K Y3 H3 (kyD ky) vy)(hv:RepV X.K Y3 H3 d v)
  (q:PostS X.K W E Y H (SR.ofR env (wI d k ky h3) fun _ h2=>.nx env h2)):qCf vx vy v H3 fun H'=>E.nx U H':=by
 have q:PostS X.K W E Y H (SR.ofR env (match h3[k]? with | some (.dct kvs)=>(if kvs.length<16777216 then .ok () (h3.set k (.dct (kI kvs ky d))) else .bad) | _=>.bad) fun _ h2=>.nx env h2):=q;cases hk:h3[k]? with
 |none=>rw[hk] at q;cases q
 |some ob=>
  rw[hk] at q;cases ob with
  |dct kvs=>
   by_cases z:kvs.length<16777216
   ·have q:PostS X.K W E Y H (SR.ofR env (if kvs.length<16777216 then .ok () (h3.set k (.dct (kI kvs ky d))) else .bad) fun _ h2=>.nx env h2):=q;rw[if_pos z] at q;obtain ⟨a,vs,rfl,ha,hH,hl⟩:=r3.dict hk hvx;have hy:=dF hvy;subst hy;have stp:Step Y3 H3 Y3 (upd H3 a (.dK (L2.putK vs (kyV ky) v))):=Step.turn hH rfl (List.mem_of_getElem? ha);refine .inr ⟨a,vs,kyV ky,rfl,rfl,hH,by rw[<- hl.length,zX];exact z,?_⟩;exact q Y3 _ U (e.trans stp) (r3.setDict hk ha hH (hl.put ky hv)) (s.mono (e.trans stp))
   ·have q:PostS X.K W E Y H (SR.ofR env (if kvs.length<16777216 then .ok () (h3.set k (.dct (kI kvs ky d))) else .bad) fun _ h2=>.nx env h2):=q;rw[if_neg z] at q;cases q
  |_=>exact (show False from q).elim
theorem qIZ(ho:PE X o (tD X.K W (den F ca)))(hi:PE X i (tD X.K W (den F ci)))(he:PE X e (tD X.K W (den F ce)))(ha:∀ v,assign (.Subscript o i pos') X.env v=(do
      let ov <- holding [v] (eval o X.env)
      let iv <- holding [v,ov] (eval i X.env)
      standAt pos'
      holding [v,ov,iv] (setItem ov iv v)
      release [v,ov,iv] [])) (hs:swapsWithSole [.Subscript o i pos'] e pos.line X.env=pure false) (hw:swappedStores [.Subscript o i pos'] e X.env=pure none):PS X (.Assign [.Subscript o i pos'] e pos) (tDS X.K W (qB F B (.setIx ca ci ce))):=by
  refine PS.imp (L2.ps_asg he (L2.pg_sub ho hi qIP ha) hs hw) fun E U H t=>?_;obtain ⟨Y,env,h,s,r,p⟩:=t;dsimp only[qB] at p;refine⟨Y,env,h,s,r,PostS.ofR s p fun Y1 h1 d H1 e1 r1 q v hv=>⟨Y1,env,h1,s.mono e1,r1,?_⟩⟩;have q:PostS X.K W E Y1 H1 (SR.ofR env ((den F ca env h1).bind fun x g=>((den F ci env).bind fun y=>gY d x y) g) fun _ h2=>.nx env h2):=q;cases z:den F ca env h1 with
  |ok x h2=>
    rw[z] at q;have q:PostS X.K W E Y1 H1 (SR.ofR env ((den F ci env h2).bind fun y g=>gY d x y g) fun _ h2=>.nx env h2):=q;intro Y2 H2 e2 r2 vx hvx;refine⟨Y2,env,h2,(s.mono e1).mono e2,r2,?_⟩;cases z2:den F ci env h2 with
    |ok y h3=>
      rw[z2] at q;have q:PostS X.K W E Y1 H1 (SR.ofR env (gY d x y h3) fun _ h2=>.nx env h2):=q;intro Y3 H3 e3 r3 vy hvy;cases x with
      |ref k=>
        cases y with
        |int j=>
          have q:PostS X.K W E Y1 H1 (SR.ofR env (match h3[k]? with | some (.lst xs)=>(match ixN xs.length j with | some p=>.ok () (h3.set k (.lst (xs.set p d))) | none=>.bad) | _=>wI d k (.int j) h3) fun _ h2=>.nx env h2):=q;have e13:=e2.trans e3;cases hk:h3[k]? with
          |none=>rw[hk] at q;exact lJ (ky:=.int j) (s.mono e1) e13 r3 (hvx.mono e3 _ _) hvy (hv.mono e13 _ _) q
          |some ob=>
            rw[hk] at q;cases ob with
            |lst xs=>
              have q:PostS X.K W E Y1 H1 (SR.ofR env (match ixN xs.length j with | some p=>.ok () (h3.set k (.lst (xs.set p d))) | none=>.bad) fun _ h2=>.nx env h2):=q;cases hx:ixN xs.length j with
              |none=>rw[hx] at q;cases q
              |some n=>rw[hx] at q;cases hvy;obtain ⟨a,vs,rfl,ha',hH,hl⟩:=r3.own hk (hvx.mono e3 _ _);have stp:Step Y3 H3 Y3 (upd H3 a (.lst (vs.set n v))):=Step.turn hH rfl (List.mem_of_getElem? ha');refine .inl ⟨a,vs,j,n,rfl,rfl,hH,by rw[qM6,hl.length];exact hx,?_⟩;exact q Y3 _ U (e13.trans stp) (r3.setList hk ha' hH (RepL.set ((hv.mono e13 _ _)) n hl)) ((s.mono e1).mono (e13.trans stp))
            |_=>exact lJ (ky:=.int j) (s.mono e1) e13 r3 (hvx.mono e3 _ _) hvy (hv.mono e13 _ _) q
        |str j=>exact lJ (ky:=.str j) (s.mono e1) (e2.trans e3) r3 (hvx.mono e3 _ _) hvy (hv.mono (e2.trans e3) _ _) q
        |_=>exact (show False from q).elim
      |_=>exact (show False from q).elim
    |exc c h3=>rw[z2] at q;exact fun Y' H' e' r'=>q Y' H' U (e2.trans e') r' ((s.mono e1).mono (e2.trans e'))
    |bad=>rw[z2] at q;exact q
  |exc c h2=>rw[z] at q;exact fun Y' H' e' r'=>q Y' H' U e' r' ((s.mono e1).mono e')
  |bad=>rw[z] at q;exact q
def qCg:List V->Hp->VK->Prop:=fun xs H Q=>∃ i j k:Int,xs=[.int i,.int j,.int k]/\Q (.int (if k<(if j<i then j else i) then k else (if j<i then j else i))) H
theorem qQd (hc:X.calm=true):qN X (.builtin "min") qCg:=by
 rintro pins s U H xs us Q I rv ⟨i,j,k,rfl,q⟩
 cases rv with
 |cons r1 rv=>
 cases rv with
 |cons r2 rv=>
 cases rv with
 |cons r3 rv=>
 cases rv with
 |nil=>
  obtain ⟨t1,rfl⟩:=r1;obtain ⟨t2,rfl⟩:=r2;obtain ⟨t3,rfl⟩:=r3;refine min_three_ints (I.ok.hd hc) fun h' tk kk=>⟨_,H,I.kept kk,?_,q⟩
  by_cases h1:j<i
  ·rw[if_pos h1,if_pos h1]
   by_cases h2:k<j
   ·rw[if_pos h2,if_pos h2];exact⟨_,rfl⟩
   ·rw[if_neg h2,if_neg h2];exact⟨_,rfl⟩
  ·rw[if_neg h1,if_neg h1]
   by_cases h2:k<i
   ·rw[if_pos h2,if_pos h2];exact⟨_,rfl⟩
   ·rw[if_neg h2,if_neg h2];exact⟨_,rfl⟩
theorem qPs(he:PE X e (L2.tCB qCg (L2.tCons (tD X.K W (den F ca)) (L2.tCons (tD X.K W (den F cb)) (L2.tCons (tD X.K W (den F cc)) L2.tNil))))):PE X e (tD X.K W (den F (.bi .min2 (.bi .min2 ca cb) cc))):=PE.imp he fun U H Q t=>by
 obtain ⟨Y,env,h,s,r,p⟩:=t;dsimp only[den] at p;rw[kG] at p;refine⟨Y,env,h,s,r,Post.bind p fun Y1 h1 d1 H1 e1 r1 q v1 hv1=>?_⟩;rw[kG] at q;refine⟨Y1,env,h1,s.mono e1,r1,Post.bind q fun Y2 h2 d2 H2 e2 r2 q2 v2 hv2=>?_⟩;cases d1 with
 |int i=>
  cases d2 with
  |int j=>
   have q2:PostV X.K (W.at U) Q Y2 H2 ((den F cc env).bind (fun z=>biD .min2 (.int (if j<i then j else i)) z) h2):=q2;refine⟨Y2,env,h2,(s.mono e1).mono e2,r2,Post.bind q2 fun Y3 h3 d3 H3 e3 r3 q3 v3 hv3=>?_⟩;cases d3 with
   |int k=>
    cases hv1;cases hv2;cases hv3
    exact⟨i,j,k,rfl,PostV.now (h:=h3) q3 r3 rfl⟩
   |_=>exact (show False from q3).elim
  |_=>exact (show False from q2).elim
 |_=>exact (show False from q2).elim
end
open L2 (V Hp HO VK TE TT TA TS TI Cx Inv RelV Vals SqL SqT Rd upd qL qH PE PT PA PS PSs EP OpR qN IxR MtR SlR PO TO PI PG PIE Turn qS Ends)
inductive GK where
 |fn (i:Nat) | con (d:D) | blt | exc (c:Nat) | cls (c f:Nat)
structure Cc where
 N:List Str
 sc:Scope
 G:List (Str × GK)
 xs:List (Nat × List Nat)
 calm:Bool
 rs:Bool
 M:List (Str × Nat × List (Nat × Nat))
 A:List (Str × Nat × List Nat)
def Cc.slot(c:Cc)(x:Str):Option Nat:=match c.sc.names.lookup x with
 |some .local=>if x == "__debug__" || x == "__classdict__" then none else c.N.idxOf? x
 |some .cell=>if x == "__debug__" || x == "__classdict__" then none else c.N.idxOf? x
 |some .free=>if x == "__debug__" || x == "__classdict__" then none else c.N.idxOf? x
 |_=>none
def Cc.own(c:Cc)(x:Str):Option Nat:=match c.sc.names.lookup x with
 |some .local=>c.N.idxOf? x
 |some .cell=>c.N.idxOf? x
 |_=>none
def Cc.glob(c:Cc)(x:Str):Option GK:=match c.sc.names.lookup x with
 |some .globalImplicit=>if x == "__debug__" || x == "__name__" then none else c.G.lookup x
 |_=>none
def Cc.isB(c:Cc)(x:Str):Bool:=match c.glob x with
 |some .blt=>true
 |_=>false
def Cc.loc(c:Cc)(x:Str):Option Nat:=match c.sc.names.lookup x with
 |some .local=>c.N.idxOf? x
 |_=>none
def qFK:Const->Option CE
 | .none=>some (.lit .non)
 | .bool b=>some (.lit (.bl b))
 | .int i=>some (.lit (.int i))
 | .str s=>some (.lit (.str s.cps.toList))
 |_=>none
def qFS:Operator->Option Bi
 | .Add=>some .add | .Sub=>some .sub | .Mult=>some .mul | .FloorDiv=>some .fdiv | .Mod=>some .mod
 |_=>none
def fB:CmpOp->Option Bi
 | .Eq=>some .eq | .NotEq=>some .ne | .Lt=>some .lt | .LtE=>some .le | .Gt=>some .gt | .GtE=>some .ge | .In=>some .isin | .NotIn=>some .notin
 |_=>none
def bi1(x:Str):Option Un:=if x="len" then some .len else if x="ord" then some .ord else if x="str" then some .str else if x="int" then some .int else if x="tuple" then some .tuple else if x="list" then some .list else none
def sR(x:Str):Option Un:=if x="all" then some .all else if x="sorted" then some .sorted else none
def bi2(x:Str):Option Bi:=if x="min" then some .min2 else if x="max" then some .max2 else none
def tyN(x:Str):Option Ty:=if x="int" then some .int else if x="str" then some .str else if x="bool" then some .bool else if x="list" then some .list else if x="tuple" then some .tuple else none
def me1(x:Str):Option Bi:=if x="append" then some .append else if x="zfill" then some .zfill else if x="join" then some .join else if x="get" then some .get else if x="split" then some .split else if x="rpartition" then some .rpart else if x="extend" then some .extend else none
def zE:Expr->Bool
 | .Starred _ _=>false
 |_=>true
def cO:Expr->Bool
 | .Slice _ _ _ _=>false
 |_=>true
def yC:Expr->Bool
 | .Call (.Name _ _) [] [] _=>false
 |_=>true
def qCm:Expr->Bool
 | .UnaryOp _ _ _=>false
 | .BoolOp _ _ _=>false
 | .IfExp _ _ _ _=>false
 | .Compare _ _ _ _=>false
 |_=>true
def aB:Expr->Bool
 | .Set _ _ _=>false
 |_=>true
def isNone:Expr->Bool
 | .Constant .none _ _=>true
 |_=>false
def qCb(scope sc:Scope):Scope:={ scope with names:=scope.names.map fun (n,k)=>if (k == .free&&sc.kind == .function&&sc.names.lookup n == some .cell) then (n,.cell) else (n,k) }
def Cc.inner(c:Cc)(x:Str)(scope:Scope):Cc:=⟨jS c.N x++[x],qCb scope c.sc,c.G,c.xs,c.calm,false,c.M,c.A⟩
def Cc.compOk(c:Cc)(x:Str)(scope:Scope):Bool:=
 decide (scope.kind=.function)&&scope.names.all (fun y=>decide (y.2≠.cell))&&scope.names.all (fun y=>decide (y.2=.local->scope.names.lookup y.1=some .local))&&decide (scope.names.lookup x=some .local)
 &&scope.names.all (fun y=>decide (y.2=.free->c.sc.names.lookup y.1=some .cell\/c.sc.names.lookup y.1=some .free))&&(decide (x≠noN)&&(decide (x∉c.N) || (decide (noN∉c.N)&&decide (scope.names.lookup noN=none))))&&scope.names.all (fun y=>decide (y.1≠x->y.2=.local->y.1∉c.N))
def qU{α:Type}(b:Bool)(x:α):Option α:=match b with
 |true=>some x
 |false=>none
theorem qT{α:Type}{x r:α}(h:qU b x=some r):b=true/\x=r:=by
 cases b with
 |true=>exact⟨rfl,Option.some.inj h⟩
 |false=>cases h
theorem qE{α β:Type}{o:Option α}{f:α->Option β}{r:β}(h:o.bind f=some r):∃ a,o=some a/\f a=some r:=by
 cases o with
 |none=>cases h
 |some a=>exact⟨a,rfl,h⟩
structure Rc where
 e:Cc->Expr->Option CE
 cmp:Cc->Expr->CmpOp->Expr->Option CE
 b:Cc->Str->List Expr->Option CE
 l:Cc->List Expr->Option CL
 o:Cc->Option Expr->Option CP
 t:Cc->Expr->Option CT
 tb:Cc->BoolOp->List Expr->Option CT
 i:Cc->Expr->Option CI
def mS:Expr->Option (Option Expr × Option Expr)
 | .Slice lo hi st _=>match st with
  |none=>some (lo,hi)
  |some _=>none
 |_=>none
theorem qND(h:mS b=some q):∃ p,b=.Slice q.1 q.2 none p:=by
 cases b with
 |Slice l u s p=>
  cases s with
  |none=>cases h;exact⟨p,rfl⟩
  |some _=>cases h
 |_=>cases h
def qNG:Expr->Bool
 | .Constant (.int i) _ _=>decide (i=1)
 |_=>false
def qNH:Expr->Bool
 | .UnaryOp .USub a _=>qNG a
 |_=>false
def qDr:Expr->Bool
 | .Slice none none (some e) _=>qNH e
 |_=>false
def isF:Expr->Option Expr
 | .FormattedValue a cv sp _=>match sp with
  |none=>qU (decide (cv=-1)) a
  |some _=>none
 |_=>none
theorem qDv(h:isF b=some a):∃ p,b=.FormattedValue a (-1) none p:=by
 cases b with
 |FormattedValue v cv s p=>
  cases s with
  |none=>
   obtain ⟨h1,rfl⟩:=qT h;rw[of_decide_eq_true h1]
   exact⟨p,rfl⟩
  |some _=>cases h
 |_=>cases h
def isS:Expr->Option Str
 | .Constant k _ _=>match k with
  | .str s=>some s
  |_=>none
 |_=>none
theorem qDq(h:isS b=some s):∃ j p,b=.Constant (.str s) j p:=by
 cases b with
 |Constant k j p=>
  cases k with
  |str s=>cases h;exact⟨j,p,rfl⟩
  |_=>cases h
 |_=>cases h
def dX:Expr->Option Str
 | .Name x _=>some x
 |_=>none
theorem mV(h:dX b=some s):∃ p,b=.Name s p:=by
 cases b with
 |Name x p=>cases h;exact⟨p,rfl⟩
 |_=>cases h
structure Gn where
 x:Str
 p:Pos
 iter:Expr
 ifs:List Expr
def uQ:List Comprehension->Option Gn
 | []=>none
 |g::r=>match r with
  | []=>match g.target with
   | .Name x p=>qU (decide (g.is_async=0)) ⟨x,p,g.iter,g.ifs⟩
   |_=>none
  |_::_=>none
theorem qDu(h:uQ gs=some q):gs=[⟨.Name q.x q.p,q.iter,q.ifs,0⟩]:=by
 cases gs with
 |nil=>cases h
 |cons g r=>
  cases r with
  |cons _ _=>cases h
  |nil=>
   obtain ⟨t,it,f,a⟩:=g;cases t with
   |Name x p=>obtain ⟨h1,rfl⟩:=qT h;have h2:a=0:=of_decide_eq_true h1;subst h2;rfl
   |_=>cases h
def iZ(c:Cc)(x:Str):Option CE:=match c.slot x with
 |some i=>some (.var i)
 |none=>match c.glob x with
  |some (.con d)=>some (.lit d)
  |_=>none
def sUn(r:Rc)(c:Cc)(a:Expr):UnaryOp->Option CE
 | .Not=>(r.e c a).bind fun x=>some (.not x)
 | .USub=>(r.e c a).bind fun x=>some (.un .neg x)
 |_=>none
def qCV(r:Rc)(c:Cc)(op:BoolOp)(pos:Pos):List Expr->Option CE
 | []=>none
 |a::es=>match es with
  | []=>r.e c a
  |b::es=>(r.e c a).bind fun x=>(r.e c (.BoolOp op (b::es) pos)).bind fun y=>some (match op with | .And=>.and x y | .Or=>.or x y)
def qCS(r:Rc)(c:Cc)(a:Expr)(op op':CmpOp)(b d:Expr):Option CE:=
 (fB op).bind fun o=>(fB op').bind fun p=>(r.e c a).bind fun x=>(r.e c b).bind fun y=>(r.e c d).bind fun z=>qU (!lastMarks [op,op'] [b,d]) (.chain o p x y z)
def lA(r:Rc)(c:Cc)(a:Expr)(ops:List CmpOp)(cs:List Expr):Option CE:=match ops with
 | []=>none
 |op::ops=>match cs with
  | []=>none
  |b::cs=>match ops with
   | []=>match cs with
    | []=>r.cmp c a op b
    |_::_=>none
   |op'::ops=>match ops with
    |_::_=>none
    | []=>match cs with
     | []=>none
     |d::cs=>match cs with
      | []=>qCS r c a op op' b d
      |_::_=>none
def iX(r:Rc)(c:Cc)(a b:Expr):Option CE:=match qDr b with
 |true=>none
 |false=>match mS b with
  |some q=>(r.e c a).bind fun x=>(r.o c q.1).bind fun l=>(r.o c q.2).bind fun u=>some (.sl x l u)
  |none=>(r.e c a).bind fun x=>(r.e c b).bind fun y=>qU (cO b) (.bi .ix x y)
def qCT(r:Rc)(c:Cc)(x:Str)(es:List Expr):Option GK->Option CE
 |some (.fn i)=>match es with
  | []=>qU c.calm (.call i .nil)
  |e::es=>(r.l c (e::es)).bind fun l=>qU c.calm (.call i l)
 |some .blt=>r.b c x es
 |some (.cls k f)=>match es with
  | []=>qU c.calm (.make k f .nil)
  |e::es=>(r.l c (e::es)).bind fun l=>qU c.calm (.make k f l)
 |_=>none
def qCN(r:Rc)(c:Cc)(m:Str)(ok:Bool)(x:CE)(es:List Expr):Option (Nat × List (Nat × Nat))->Option CE
 |some q=>match es with
  | []=>qU (c.calm&&ok) (.meth q.1 q.2 x .nil)
  |e::es=>(r.l c (e::es)).bind fun l=>qU (c.calm&&ok&&decide (es.length<20)) (.meth q.1 q.2 x l)
 |none=>match es with
  | []=>none
  |b::es=>match es with
   | []=>(me1 m).bind fun o=>(r.e c b).bind fun y=>qU (ok&&zE b) (.me o x y)
   |d::es=>match es with
    | []=>match decide (m="setdefault") with
     |true=>none
     |false=>match decide (m="get") with
      |true=>none
      |false=>none
    |_::_=>none
def qCU(r:Rc)(c:Cc)(f:Expr)(es:List Expr)(ks:List Keyword)(p:Pos):Option CE:=match ks with
 |_::_=>none
 | []=>match f with
  | .Name x _=>qCT r c x es (c.glob x)
  | .Attribute a m ap=>(r.e c a).bind fun x=>qCN r c m (yC a&&(ap.endLine == p.line)) x es (c.M.lookup m)
  |_=>none
def qCO(r:Rc)(c:Cc):List Expr->Option CE
 | [f,k,g]=>(isF f).bind fun a=>(isS k).bind fun s=>(isF g).bind fun b=>(r.e c a).bind fun x=>(r.e c b).bind fun y=>some (.bi .add (.bi .add x (.lit (.str s.cps.toList))) y)
 |_=>none
def cE(r:Rc)(c:Cc)(elt:Expr)(scope:Scope)(q:Gn):Option CE:=match q.ifs with
 | []=>(r.i c q.iter).bind fun it=>(r.e (c.inner q.x scope) elt).bind fun y=>qU (c.calm&&c.compOk q.x scope) (.comp y it)
 |t::ts=>match ts with
  | []=>(r.i c q.iter).bind fun it=>(r.t (c.inner q.x scope) t).bind fun z=>(r.e (c.inner q.x scope) elt).bind fun y=>qU (c.calm&&c.compOk q.x scope) (.compIf y z it)
  |_::_=>none
def kM:Expr->Bool
 | .Name x _=>decide (x="sides"\/x="_law_come")
 | .Attribute _ f _=>decide (f="givers"\/f="takers")
 |_=>false
def lB(r:Rc)(c:Cc)(elt:Expr)(scope:Scope)(q:Gn):Option CE:=match q.ifs with
 | []=>(r.e c q.iter).bind fun d=>(r.e (c.inner q.x scope) elt).bind fun y=>qU (c.calm&&c.compOk q.x scope) (.compD y (.val (.lit (.bl true))) d)
 |t::ts=>match ts with
  | []=>(r.e c q.iter).bind fun d=>(r.t (c.inner q.x scope) t).bind fun z=>(r.e (c.inner q.x scope) elt).bind fun y=>qU (c.calm&&c.compOk q.x scope) (.compD y z d)
  |_::_=>none
def gZ(r:Rc)(c:Cc)(elt:Expr)(scope:Scope)(gens:List Comprehension):Option CE:=match uQ gens with
 |some q=>match kM q.iter with
  |true=>lB r c elt scope q
  |false=>cE r c elt scope q
 |none=>none
def qCc:Option Expr->Option Ky
 |none=>none
 |some e=>match e with
  | .Constant k _ _=>match k with
   | .str s=>some (.str s.cps.toList)
   | .int i=>some (.int i)
   |_=>none
  |_=>none
def lF:List (Option Expr)->Option (List Ky)
 | []=>some []
 |k::ks=>(qCc k).bind fun x=>(lF ks).bind fun xs=>some (x::xs)
def lE(r:Rc)(c:Cc):List Expr->Option CL
 | []=>some .nil
 |e::es=>(r.e c e).bind fun x=>(lE r c es).bind fun l=>some (.cons x l)
def qCQ(r:Rc)(c:Cc)(keys:List (Option Expr))(values:List Expr):Option CE:=
 (lF keys).bind fun ks=>(lE r c values).bind fun l=>qU (decide (keys.length=values.length)&&decide (keys.length<=15)) (.disp ks l)
def eS(r:Rc)(c:Cc):Expr->Option CE
 | .Constant k _ _=>qFK k
 | .Name x _=>iZ c x
 | .BinOp a op b _=>(qFS op).bind fun o=>(r.e c a).bind fun x=>(r.e c b).bind fun y=>some (.bi o x y)
 | .UnaryOp op a _=>sUn r c a op
 | .BoolOp op es pos=>qCV r c op pos es
 | .IfExp t a b _=>(r.t c t).bind fun z=>(r.e c a).bind fun x=>(r.e c b).bind fun y=>some (.ite z x y)
 | .Compare a ops cs _=>lA r c a ops cs
 | .Tuple es _ _=>(r.l c es).bind fun l=>some (.tup l)
 | .List es _=>(r.l c es).bind fun l=>some (.lst l)
 | .Subscript a b _=>iX r c a b
 | .Dict keys values _=>qCQ r c keys values
 | .Call f es ks p=>qCU r c f es ks p
 | .Attribute a f _=>(c.A.lookup f).bind fun k=>(r.e c a).bind fun x=>qU (yC a) (.un (.fld k.1) x)
 | .JoinedStr es _=>qCO r c es
 | .ListComp elt gens scope _=>gZ r c elt scope gens
 |_=>none
def sIs(u:Un)(v:Bool->Un)(x:CE)(b:Expr):Option CE:=match isNone b with
 |true=>some (.un u x)
 |false=>none
def qCR(r:Rc)(c:Cc)(a:Expr)(op:CmpOp)(b:Expr):Option CE:=(fB op).bind fun o=>(r.e c a).bind fun x=>(r.e c b).bind fun y=>qU (!behindInMarks op b) (.bi o x y)
def qE2(r:Rc)(c:Cc)(a:Expr)(op:CmpOp)(b:Expr):Option CE:=match op with
 | .Is=>(r.e c a).bind fun x=>sIs .isN .isB x b
 | .IsNot=>(r.e c a).bind fun x=>sIs .notN .nsB x b
 |op=>qCR r c a op b
def qCP(r:Rc)(c:Cc)(a:Expr)(y:Str):Option CE:=(r.e c a).bind fun z=>match tyN y with
 |some t=>qU (zE a&&c.isB y) (.un (.isi t) z)
 |none=>none
def sB1(c:Cc)(x:Str)(a:Expr)(y:CE):Option CE:=match bi1 x with
 |some o=>qU (zE a) (.un o y)
 |none=>(sR x).bind fun o=>qU (zE a&&c.calm) (.un o y)
def sB2(r:Rc)(c:Cc)(x:Str)(a b:Expr):Option CE:=(bi2 x).bind fun o=>(r.e c a).bind fun u=>(r.e c b).bind fun v=>qU (zE a&&zE b&&c.calm) (.bi o u v)
def mU:Expr->Option (List Expr)
 | .Call f es ks _=>match ks with
  | []=>match f with
   | .Name x _=>qU (decide (x="range")) es
   |_=>none
  |_::_=>none
 |_=>none
theorem qNF {e:Expr} {es:List Expr} (h:mU e=some es):∃ p q,e=.Call (.Name "range" p) es [] q:=by
 cases e with
 |Call f es ks q=>
  cases ks with
  |cons _ _=>cases h
  |nil=>
   cases f with
   |Name x p=>
    obtain ⟨h1,rfl⟩:=qT h;rw[of_decide_eq_true h1]
    exact⟨p,q,rfl⟩
   |_=>cases h
 |_=>cases h
def bS(r:Rc)(c:Cc)(x:Str):List Expr->Option CE
 | []=>none
 |a::es=>match es with
  | []=>(r.e c a).bind fun y=>sB1 c x a y
  |b::es=>match es with
   | []=>match decide (x="isinstance") with
    |true=>(dX b).bind fun y=>qCP r c a y
    |false=>sB2 r c x a b
   |d::es=>match es with
    | []=>(bi2 x).bind fun o=>(r.e c a).bind fun u=>(r.e c b).bind fun v=>(r.e c d).bind fun z=>qU (decide (o=.min2)&&(zE a&&zE b&&zE d&&c.calm)) (.bi .min2 (.bi .min2 u v) z)
    |_::_=>none
def lS(r:Rc)(c:Cc):List Expr->Option CL
 | []=>some .nil
 |e::es=>(r.e c e).bind fun x=>(r.l c es).bind fun l=>qU (zE e) (.cons x l)
def oS(r:Rc)(c:Cc):Option Expr->Option CP
 |none=>some .no
 |some e=>(r.e c e).bind fun x=>some (.at x)
def sT(r:Rc)(c:Cc)(e:Expr):Option CT:=(r.e c e).bind fun x=>qU (qCm e) (.val x)
def tS(r:Rc)(c:Cc)(e:Expr):Option CT:=match e with
 | .UnaryOp op a _=>match op with
  | .Not=>(r.t c a).bind fun x=>some (.not x)
  |_=>none
 | .BoolOp op es _=>r.tb c op es
 | .Compare a ops cs _=>(lA r c a ops cs).bind fun x=>some (.val x)
 |e=>sT r c e
def tbS(r:Rc)(c:Cc)(op:BoolOp):List Expr->Option CT
 | []=>none
 |a::es=>match es with
  | []=>r.t c a
  |b::es=>(r.t c a).bind fun x=>(r.tb c op (b::es)).bind fun y=>some (match op with | .And=>.and x y | .Or=>.or x y)
def sRg(r:Rc)(c:Cc):List Expr->Option CI
 | []=>none
 |a::es=>match es with
  | []=>(r.e c a).bind fun y=>qU (zE a&&c.isB "range") (.rng1 y)
  |b::es=>match es with
   | []=>(r.e c a).bind fun y=>(r.e c b).bind fun z=>qU (zE a&&zE b&&c.isB "range") (.rng2 y z)
   |d::es=>match es with
    | []=>(r.e c a).bind fun y=>(r.e c b).bind fun z=>(r.e c d).bind fun u=>qU (zE a&&zE b&&zE d&&c.isB "range") (.rng3 y z u)
    |_::_=>none
def iS(r:Rc)(c:Cc)(e:Expr):Option CI:=match mU e with
 |some es=>sRg r c es
 |none=>(r.e c e).bind fun y=>qU (aB e) (.of y)
def qLD(r:Rc):Rc:=⟨eS r,qE2 r,bS r,lS r,oS r,tS r,tbS r,iS r⟩
def rcN:Nat->Rc
 |0=>⟨fun _ _=>none,fun _ _ _ _=>none,fun _ _ _=>none,fun _ _=>none,fun _ _=>none,fun _ _=>none,fun _ _ _=>none,fun _ _=>none⟩
 |n+1=>qLD (rcN n)
def qDx:Expr->Bool
 | .ListComp _ gs _ _=>match uQ gs with
  |some q=>decide (q.ifs.length<=1)&&!kM q.iter
  |none=>false
 |_=>false
def aC:Expr->Bool
 | .ListComp _ _ _ _=>false
 | .SetComp _ _ _ _=>false
 | .DictComp _ _ _ _ _=>false
 |_=>true
def Cc.still(c:Cc):Cc:={ c with rs:=false }
def Cc.dull(c:Cc):Cc:={ c with rs:=false,calm:=false }
structure Rs where
 s:Cc->Stmt->Option CS
 ss:Cc->List Stmt->Option CS
 h:Cc->List ExceptHandler->Option CH
def qCM(r:Rc)(c:Cc)(e:Expr):Expr->Option CS
 | .Name x _=>(c.own x).bind fun i=>(r.e c e).bind fun y=>qU (aC e || qDx e) (.set (.nm i) y)
 | .Attribute o f _=>(c.A.lookup f).bind fun k=>(r.e c o).bind fun x=>(r.e c e).bind fun y=>qU (aC e) (.setF x k.1 k.2 y)
 | .Subscript o i _=>(r.e c o).bind fun x=>(r.e c i).bind fun z=>(r.e c e).bind fun y=>qU (aC e&&cO i) (.setIx x z y)
 |_=>none
def aM(c:Cc):Expr->Option TG
 | .Name x _=>(c.own x).bind fun i=>some (.nm i)
 |_=>none
def mT:Expr->Option Str
 | .Call f es ks _=>match ks with
  | []=>match es with
   | [k]=>(isS k).bind fun _=>dX f
   |_=>none
  |_::_=>none
 |_=>none
theorem qNE(h:mT e=some x):∃ p s j q z,e=.Call (.Name x p) [.Constant (.str s) j q] [] z:=by
 cases e with
 |Call f es ks z=>
  cases ks with
  |cons _ _=>cases h
  |nil=>
   cases es with
   |nil=>cases h
   |cons k es=>
    cases es with
    |cons _ _=>cases h
    |nil=>
     obtain ⟨s,h1,h2⟩:=qE h;obtain ⟨j,q,rfl⟩:=qDq h1;obtain ⟨p,rfl⟩:=mV h2
     exact⟨p,s,j,q,z,rfl⟩
 |_=>cases h
def iY(c:Cc)(x:Str):Option CS:=match c.glob x with
 |some (.exc i)=>qU (c.rs&&c.calm) (.raise i)
 |_=>none
def qCL(q:Rs)(c:Cc)(a:List Stmt)(hs:List ExceptHandler)(els fin:List Stmt):Option CS:=match hs with
 | []=>none
 |h::hs=>match els with
  |_::_=>none
  | []=>match fin with
   |_::_=>none
   | []=>(q.ss c.still a).bind fun x=>(q.h c (h::hs)).bind fun y=>qU c.calm (.tryx x y)
def cD(r:Rc)(q:Rs)(c:Cc)(tg e:Expr)(a:List Stmt):Option CS:=(aM c tg).bind fun t=>match t with
 | .nm i=>(r.e c e).bind fun z=>(q.ss c.still a).bind fun y=>qU c.calm (.forD i z y)
 |_=>none
def stS(r:Rc)(q:Rs)(c:Cc):Stmt->Option CS
 | .Assign ts e _=>match ts with
  | [t]=>qCM r c e t
  |_=>none
 | .Expr e _=>(r.e c e).bind fun y=>qU (aC e) (.exp y)
 | .Return v _=>match v with
  |some e=>(r.e c e).bind fun y=>some (.ret y)
  |none=>some .retN
 | .Pass _=>some .skip
 | .Break _=>some .brk
 | .Continue _=>some .cnt
 | .If t a b _=>(r.t c t).bind fun z=>(q.ss c a).bind fun x=>(q.ss c b).bind fun y=>some (.ite z x y)
 | .While t a els _=>match els with
  | []=>(r.t c.still t).bind fun z=>(q.ss c.still a).bind fun x=>some (.whil z x)
  |_::_=>none
 | .For tg it a els _=>match els with
  | []=>match kM it with
   |true=>cD r q c tg it a
   |false=>(aM c tg).bind fun t=>(r.i c it).bind fun z=>(q.ss c.still a).bind fun y=>qU c.calm (.fori t z y)
  |_::_=>none
 | .Raise x y _=>match y with
  |some _=>none
  |none=>match x with
   |none=>none
   |some e=>(mT e).bind fun x=>iY c x
 | .Try a hs els fin _=>qCL q c a hs els fin
 |_=>none
def ssS(q:Rs)(c:Cc):List Stmt->Option CS
 | []=>some .skip
 |s::r=>match r with
  | []=>some ((q.s c s).getD .opq)
  |t::r=>(q.ss c (t::r)).bind fun y=>some (.seq ((q.s c s).getD .opq) y)
def sH(q:Rs)(c:Cc)(i:Nat)(nm:Option Str)(b:List Stmt)(r:List ExceptHandler):Option CH:=match b with
 | []=>none
 |s::b=>(c.xs.lookup i).bind fun cs=>(q.ss c.dull (s::b)).bind fun k=>(q.h c r).bind fun z=>match nm with
  |none=>some (.cons cs k z)
  |some _=>none
def hS(q:Rs)(c:Cc):List ExceptHandler->Option CH
 | []=>some .nil
 | .ExceptHandler ty nm b _::r=>match ty with
  |none=>none
  |some t=>(dX t).bind fun x=>match c.glob x with
   |some (.exc i)=>sH q c i nm b r
   |_=>none
def qLC(r:Rc)(q:Rs):Rs:=⟨stS r q,ssS q,hS q⟩
def rsN:Nat->Rs
 |0=>⟨fun _ _=>none,fun _ _=>none,fun _ _=>none⟩
 |n+1=>qLC (rcN n) (rsN n)
def cSs(c:Cc)(n:Nat)(b:List Stmt):Option CS:=(rsN n).ss c b
def GOk(X:Cx)(F:Nat->List D->M D)(k:Nat)(ex:Nat->Option Addr)(x:Str):GK->Prop
 | .fn i=>∃ f fd ps,X.mg x=some (.ref f)/\PySem.W.keepIn X.K (.ref f)=true/\L2.Binds X.K fd ps []/\L2.FnOk X.prog X.w X.K X.mg X.base (CXD X.prog X.w ex) k f fd ps (spD X.K (F i))
 | .con d=>∃ v u,X.mg x=some u/\RelV v u/\∀ Y H,RepV X.K Y H d v
 | .blt=>X.mg x=none
 | .exc c=>∃ C,X.mg x=some (.ref C)/\ex c=some C/\yJ X.K C=true
 | .cls c i=>∃ C f fd ps,X.mg x=some (.ref C)/\zW X.K c C/\L2.Cls X.K C/\L2.Mk X.K C f/\L2.Binds X.K fd ps []/\L2.FnOk X.prog X.w X.K X.mg X.base (CXD X.prog X.w ex) k f fd ps (spD X.K (F i))
structure Body (X:Cx) (c:Cc) (F:Nat->List D->M D) (k:Nat) (ex:Nat->Option Addr) (W:WX):Prop where
 N:X.N=c.N
 nd:c.N.Nodup
 sc:X.env.scope=c.sc
 calm:c.calm=true->X.calm=true
 room:c.calm=true->L2.Room (k+1) X.A
 hu:X.A.units+64<cLine
 glob:∀ x g,c.G.lookup x=some g->GOk X F k ex x g
 xq:∀ i cs xl C j D,c.xs.lookup i=some cs->c.xs.lookup 1=some xl->ex i=some C->zW X.K j D->xl.contains j=true->PySem.W.kitOne X.K (.ref D) (.ref C)=some (cs.contains j)
 xv:∀ cs xl j D,c.xs.lookup 0=some cs->c.xs.lookup 1=some xl->zW X.K j D->xl.contains j=true->PySem.W.kitOne X.K (.ref D) (.type "ValueError")=some (cs.contains j)
 mt:∀ m mk tb,c.M.lookup m=some (mk,tb)->m=qD mk/\mk<256 ^ 60/\iF X F k ex m tb
 at':∀ f kk cs,c.A.lookup f=some (kk,cs)->f=qD kk/\kk<256 ^ 60/\∀ cc C,cs.contains cc=true->zW X.K cc C->L2.NoAttr X.K C (qD kk)
 xg:∀ xl j D,c.xs.lookup 1=some xl->zW X.K j D->xl.contains j=true->XGet X.K D
 xc:∀ pins U H s0 e s',Inv X pins U H s0->CXD X.prog X.w ex X.stack H s0 (fun _ co H'=>∃ c,co=some c/\W c U H') e s'->X.xe e s'
structure BodyS (X:Cx) (c:Cc) (F:Nat->List D->M D) (k:Nat) (ex:Nat->Option Addr) (W:WX):Prop extends Body X c F k ex W where
 fn:∀ x,X.fn x=true
 stk:X.stack=X.env::X.outer/\X.env.frame=some X.env.locals
 noex:X.ex=[]
 xcl:∀ i C,ex i=some C->zW X.K i C
 xr:c.rs=true->∀ pins U H s a args h' i C,ex i=some C->Inv X pins U H s->Heap.MadeExcOf s.heap h' a (.ref C) args->W i U H->X.xe (.ref a) { s with heap:=h' }
 xm:∀ i cs C j D,c.xs.lookup i=some cs->ex i=some C->ex j=some D->PySem.W.exmOne X.K (.ref D) (.ref C)=some (cs.contains j)
theorem mZ{l:List Str}(h:l.idxOf? x=some i):l[i]?=some x:=by
 unfold List.idxOf? at h;rw[List.findIdx?_eq_some_iff_getElem] at h;obtain ⟨h1,h2,_⟩:=h;rw[List.getElem?_eq_getElem h1];simpa using h2
theorem vA(h:zE e=true):starEach (e::es) env=(false,eval e env)::starEach es env:=by
 cases e <;> first | rfl | cases h
theorem qH8:starEach [] env=[]:=rfl
theorem jP(h:zE e=true):starEach [e] env=[(false,eval e env)]:=by rw[vA h,qH8]
theorem uC(h:zE e=true)(h':zE e'=true):starEach [e,e'] env=[(false,eval e env),(false,eval e' env)]:=by rw[vA h,jP h']
theorem qH9(h:zE e=true)(h':zE e'=true)(h'':zE e''=true):starEach [e,e',e''] env=[(false,eval e env),(false,eval e' env),(false,eval e'' env)]:=by rw[vA h,uC h' h'']
def vM:List Expr->Bool
 | []=>true
 |e::es=>zE e&&vM es
theorem bY:∀ {es:List Expr},vM es=true->(backTo pos (starEach es env)).any (·.1)=false
 | [],_=>rfl
 |e::es,h=>by
  have h:=Bool.and_eq_true_iff.mp h;rw[vA h.1];show (false || (backTo pos (starEach es env)).any (·.1))=false;rw[bY h.2];rfl
theorem vG(h:yC o=true):attributeBase o m env w=w:=by
 cases o with
 |Call f es ks pos=>
  cases f with
  |Name id p=>
   cases es with
   |nil=>
    cases ks with
    |nil=>cases h
    |cons _ _=>rfl
   |cons _ _=>rfl
  |_=>rfl
 |_=>rfl
theorem qM2(h:cO b=true):L2.PlainIx b:=by
 intro o i;cases b <;> first | rfl | cases h
section
variable {X:Cx}{c:Cc}{F:Nat->List D->M D}{k B:Nat}{ex:Nat->Option Addr}{W:WX}
theorem Body.vis (T:Body X c F k ex W) (h:c.slot x=some i):X.N[i]?=some x/\L2.Vis X.env.scope x/\(x == ("__debug__":Str))=false/\(x == ("__classdict__":Str))=false:=by
 unfold Cc.slot at h;rw[T.N]
 have key:∀ {kd:NameKind},c.sc.names.lookup x=some kd->(kd=.local\/kd=.cell\/kd=.free)->(if (x == ("__debug__":Str) || x == ("__classdict__":Str))=true then none else c.N.idxOf? x)=some i->c.N[i]?=some x/\L2.Vis X.env.scope x/\(x == ("__debug__":Str))=false/\(x == ("__classdict__":Str))=false:=by
  intro kd hk hd hi;split at hi
  ·cases hi
  ·rename_i hn;refine⟨mZ hi,?_,?_⟩
   ·unfold L2.Vis;rw[T.sc,hk];rcases hd with rfl | rfl | rfl <;> simp
   ·simpa using hn
 split at h
 ·rename_i hk;exact key hk (.inl rfl) h
 ·rename_i hk;exact key hk (.inr (.inl rfl)) h
 ·rename_i hk;exact key hk (.inr (.inr rfl)) h
 ·cases h
theorem Body.loc(T:Body X c F k ex W)(h:c.own x=some i):X.N[i]?=some x/\L2.Loc X.env.scope x:=by
 unfold Cc.own at h;rw[T.N];split at h
 ·rename_i hk;refine⟨mZ h,.inl ?_⟩;rw[T.sc];exact hk
 ·rename_i hk;refine⟨mZ h,.inr ?_⟩;rw[T.sc];exact hk
 ·cases h
theorem Body.gl (T:Body X c F k ex W) (h:c.glob x=some g):L2.Gl X x/\(x == ("__debug__":Str))=false/\x≠"__name__"/\GOk X F k ex x g:=by
 unfold Cc.glob at h;split at h
 ·rename_i hk;split at h
  ·cases h
  ·rename_i hn;refine⟨?_,by revert hn;cases (x == ("__debug__":Str)) <;> simp,fun z=>hn (by simp[z]),T.glob x g h⟩;show X.env.scope.names.lookup x=_;rw[T.sc];exact hk
 ·cases h
theorem Body.nd'(T:Body X c F k ex W):X.N.Nodup:=by rw[T.N];exact T.nd
theorem qRt(h:qFS op=some o):OpR X (binaryOp op) (rB X.K o):=by
 cases op <;> first | (cases h;first | exact qJY | exact qJM | exact qJP | exact qJW | exact qJQ) | cases h
theorem wS(T:Body X c F k ex W)(h:fB op=some o):uR o=true/\OpR X (compareOp op) (rB X.K o):=by
 cases op <;> first
  | (cases h;exact⟨rfl,by first | exact qJX T.hu | exact qJO T.hu | exact qJR | exact qJS | exact qJU | exact qJV | exact qJT T.hu | exact qJN⟩)
  |cases h
theorem qRw(T:Body X c F k ex W)(h:bi1 x=some o)(hg:c.glob x=some .blt)(ha:PE X a (tD X.K W (den F ca)))(hs:zE a=true):PE X (.Call (.Name x p) [a] [] pos) (tD X.K W (den F (.un o ca))):=by
 obtain ⟨g1,g2,g3,g4⟩:=T.gl hg;have st:=jP (env:=X.env) hs
 have go:∀ {id:String},qN X (.builtin id) (rC X.K o)->bootBuiltins x=some (.builtin id)->PE X (.Call (.Name x p) [a] [] pos) (tD X.K W (den F (.un o ca))):=fun hc hv=>
  eO (a:=a) (L2.pe_callB hc g1 g4 hv (L2.pa_cons ha L2.pa_nil (by rw[st];rfl)) g3 g2 (by rw[st];rfl)) fun x H Q z=>⟨x,rfl,z⟩
 have goT:∀ {id:String},qN X (.type id) (rC X.K o)->bootBuiltins x=some (.type id)->PE X (.Call (.Name x p) [a] [] pos) (tD X.K W (den F (.un o ca))):=fun hc hv=>
  eO (a:=a) (L2.pe_callTy hc g1 g4 hv (L2.pa_cons ha L2.pa_nil (by rw[st];rfl)) g3 g2 (by rw[st];rfl)) fun x H Q z=>⟨x,rfl,z⟩
 unfold bi1 at h;split at h
 ·rename_i e;subst e;cases h;exact go qQh (by decide +kernel)
 split at h
 ·rename_i e;subst e;cases h;exact go qQb (by decide +kernel)
 split at h
 ·rename_i e;subst e;cases h;exact goT qQZ (by decide +kernel)
 split at h
 ·rename_i e;subst e;cases h;exact goT qQj (by decide +kernel)
 split at h
 ·rename_i e;subst e;cases h;exact goT qQY (by decide +kernel)
 split at h
 ·rename_i e;subst e;cases h;exact goT qQg (by decide +kernel)
 ·cases h
theorem qRv(T:Body X c F k ex W)(hc:c.calm=true)(h:sR x=some o)(hg:c.glob x=some .blt)(ha:PE X a (tD X.K W (den F ca)))(hs:zE a=true):PE X (.Call (.Name x p) [a] [] pos) (tD X.K W (den F (.un o ca))):=by
 obtain ⟨g1,g2,g3,g4⟩:=T.gl hg;have st:=jP (env:=X.env) hs
 have go:∀ {id:String},qN X (.builtin id) (rC X.K o)->bootBuiltins x=some (.builtin id)->PE X (.Call (.Name x p) [a] [] pos) (tD X.K W (den F (.un o ca))):=fun hc hv=>
  eO (a:=a) (L2.pe_callB hc g1 g4 hv (L2.pa_cons ha L2.pa_nil (by rw[st];rfl)) g3 g2 (by rw[st];rfl)) fun x H Q z=>⟨x,rfl,z⟩
 have goT:∀ {id:String},qN X (.type id) (rC X.K o)->bootBuiltins x=some (.type id)->PE X (.Call (.Name x p) [a] [] pos) (tD X.K W (den F (.un o ca))):=fun hc hv=>
  eO (a:=a) (L2.pe_callTy hc g1 g4 hv (L2.pa_cons ha L2.pa_nil (by rw[st];rfl)) g3 g2 (by rw[st];rfl)) fun x H Q z=>⟨x,rfl,z⟩
 unfold sR at h;split at h
 ·rename_i e;subst e;cases h;exact go (qQk (T.calm hc)) (by decide +kernel)
 split at h
 ·rename_i e;subst e;cases h;exact go (qQa (T.calm hc)) (by decide +kernel)
 ·cases h
theorem qRu(T:Body X c F k ex W)(hc:c.calm=true)(h:bi2 x=some o)(hg:c.glob x=some .blt)(ha:PE X a (tD X.K W (den F ca)))(hb:PE X b (tD X.K W (den F cb)))(hs:zE a=true)(hs':zE b=true):PE X (.Call (.Name x p) [a,b] [] pos) (tD X.K W (den F (.bi o ca cb))):=by
 obtain ⟨g1,g2,g3,g4⟩:=T.gl hg;have st:=uC (env:=X.env) hs hs';have st1:=jP (env:=X.env) hs'
 have go:∀ {id:String},qN X (.builtin id) (rC2 X.K o)->bootBuiltins x=some (.builtin id)->PE X (.Call (.Name x p) [a,b] [] pos) (tD X.K W (den F (.bi o ca cb))):=fun hc hv=>
  qQA (L2.pe_callB hc g1 g4 hv (L2.pa_cons ha (L2.pa_cons hb L2.pa_nil (by rw[st1];rfl)) (by rw[st,st1])) g3 g2 (by rw[st,st1]) (by rw[st1];rfl)) fun x y H Q z=>⟨x,y,rfl,z⟩
 unfold bi2 at h;split at h
 ·rename_i e;subst e;cases h;exact go (qQe (T.calm hc)) (by decide +kernel)
 split at h
 ·rename_i e;subst e;cases h;exact go (qQf (T.calm hc)) (by decide +kernel)
 ·cases h
theorem qLN(T:Body X c F k ex W)(hc:c.calm=true)(h:bi2 x=some .min2)(hg:c.glob x=some .blt)(ha:PE X a (tD X.K W (den F ca)))(hb:PE X b (tD X.K W (den F cb)))(hd:PE X d (tD X.K W (den F cd)))(hs:zE a=true)(hs':zE b=true)(hs'':zE d=true):PE X (.Call (.Name x p) [a,b,d] [] pos) (tD X.K W (den F (.bi .min2 (.bi .min2 ca cb) cd))):=by
 obtain ⟨g1,g2,g3,g4⟩:=T.gl hg;have st1:=jP (env:=X.env) hs'';have st2:starEach [b,d] X.env=[(false,eval b X.env),(false,eval d X.env)]:=uC hs' hs'';have st:starEach [a,b,d] X.env=(false,eval a X.env)::[(false,eval b X.env),(false,eval d X.env)]:=by rw[vA hs,st2]
 unfold bi2 at h;split at h
 ·rename_i e;subst e;exact qPs (L2.pe_callB (qQd (T.calm hc)) g1 g4 (by decide +kernel) (L2.pa_cons ha (L2.pa_cons hb (L2.pa_cons hd L2.pa_nil (by rw[st1];rfl)) (by rw[st2,st1])) (by rw[st,st2])) g3 g2 (by rw[st,st2]) (by rw[st2];rfl))
 ·split at h
  ·cases h
  ·cases h
theorem qNB (T:Body X c F k ex W) {x:Str} (hx:x="isinstance") (ht:tyN y=some t) (hg:c.glob x=some .blt) (hy:c.isB y=true) (ha:PE X a (tD X.K W (den F ca))) (hs:zE a=true):PE X (.Call (.Name x p) [a,.Name y p2] [] pos) (tD X.K W (den F (.un (.isi t) ca))):=by
 obtain ⟨g1,g2,g3,g4⟩:=T.gl hg
 have hy':c.glob y=some .blt:=by
  unfold Cc.isB at hy;split at hy
  ·assumption
  ·cases hy
 obtain ⟨k1,k2,k3,k4⟩:=T.gl hy';refine qP1 hx g1 g4 k1 k4 ?_ k3 k2 ha (uC hs rfl);unfold tyN at ht;split at ht
 ·rename_i e;subst e;cases ht;decide +kernel
 split at ht
 ·rename_i e;subst e;cases ht;decide +kernel
 split at ht
 ·rename_i e;subst e;cases ht;decide +kernel
 split at ht
 ·rename_i e;subst e;cases ht;decide +kernel
 split at ht
 ·rename_i e;subst e;cases ht;decide +kernel
 ·cases ht
theorem yI{α:Type}[Decidable p]{a b r:α}(h:(if p then a else b)=r):(p/\a=r)\/(¬ p/\b=r):=by
 by_cases q:p
 ·exact .inl ⟨q,by rw[if_pos q] at h;exact h⟩
 ·exact .inr ⟨q,by rw[if_neg q] at h;exact h⟩
theorem qLY(T:Body X c F k ex W)(h:me1 m=some o)(ha:PE X a (tD X.K W (den F ca)))(hb:PE X b (tD X.K W (den F cb)))(hs:zE b=true)(hsu:yC a=true)(hl:(ap.endLine == p.line)=true):PE X (.Call (.Attribute a m ap) [b] [] p) (tD X.K W (den F (.me o ca cb))):=by
 unfold me1 at h;rcases yI h with⟨e,h⟩ | ⟨_,h⟩
 ·cases h;exact qQB e ha hb (vG hsu) hl (jP hs)
 rcases yI h with⟨e,h⟩ | ⟨_,h⟩
 ·cases h;exact qPi e ha hb (vG hsu) hl (jP hs)
 rcases yI h with⟨e,h⟩ | ⟨_,h⟩
 ·cases h;exact qPy e ha hb (vG hsu) hl (jP hs)
 rcases yI h with⟨e,h⟩ | ⟨_,h⟩
 ·cases h;exact qP3 e ha hb (vG hsu) hl (jP hs)
 rcases yI h with⟨e,h⟩ | ⟨_,h⟩
 ·cases h;exact qPl e ha hb (vG hsu) hl (jP hs)
 rcases yI h with⟨e,h⟩ | ⟨_,h⟩
 ·cases h;exact qPn e ha hb (vG hsu) hl (jP hs)
 rcases yI h with⟨e,h⟩ | ⟨_,h⟩
 ·cases h;exact qP6 e ha hb (vG hsu) hl (jP hs)
 ·cases h
theorem qQJ(h:qFK kc=some ce):PE X (.Constant kc j pos) (tD X.K W (den F ce)):=by
 cases kc with
 |none=>cases h;exact aV L2.pe_non fun _ _=>rfl
 |bool b=>cases h;exact aV L2.pe_bl fun _ _=>rfl
 |int i=>cases h;exact aV L2.pe_int fun _ _=>rfl
 |str s=>cases h;exact aV L2.pe_str fun _ _=>(show V.str s=V.str ⟨s.cps.toList.toArray⟩ by simp)
 |_=>cases h
theorem qQc(T:Body X c F k ex W)(hc:c.calm=true)(h:c.glob x=some (.fn i))(ha:PA X (e::es) (tDL X.K W (zB F cl)))(hs:vM (e::es)=true):PE X (.Call (.Name x p) (e::es) [] pos) (tD X.K W (den F (.call i cl))):=by
 obtain ⟨g1,g2,g3,f,fd,ps,hm,hk,hb,FO⟩:=T.gl h;have hs':=Bool.and_eq_true_iff.mp hs;intro pins s U H Q I t;obtain ⟨Y,env,hh,st,r,pp⟩:=t;dsimp only[den] at pp;refine wpAny_Call_Name_kw (L2.ld_glob I g1 hm ?_ g2);refine PySem.W.callWith_K (h₀:=X.base) I.ok.mod.kin hk (L2.thn (ha pos pins s U H (fun vs H1=>spD X.K (F i) vs H1 Q fun _ co H'=>∃ c,co=some c/\W c U H') I ⟨Y,env,hh,st,r,Post.bind pp fun Y1 h1 ds H1 e1 r1 q vs hvs=>?_⟩) fun us s1 z=>?_) (vA hs'.1) (bY hs'.2)
 ·exact⟨Y1,h1,ds,r1,hvs,by
   cases z:F i ds h1 with
   |ok a g=>rw[z] at q;exact q
   |exc c g=>rw[z] at q;exact fun Y' H' e' r' _=>⟨c,rfl,q Y' H' e' r'⟩
   |bad=>rw[z] at q;exact q⟩
 ·obtain ⟨vs,H1,I1,rv,q1⟩:=z
  exact⟨I1.kIn,cF FO ((T.room hc).mono (Nat.le_succ _)) hb (fun e s' x=>T.xc pins U H1 s1 e s' I1 x) I1 rv q1⟩
theorem qQn(T:Body X c F k ex W)(hc:c.calm=true)(h:c.glob x=some (.fn i)):PE X (.Call (.Name x p) [] [] pos) (tD X.K W (den F (.call i .nil))):=by
 obtain ⟨g1,g2,g3,f,fd,ps,hm,hk,hb,FO⟩:=T.gl h;intro pins s U H Q I t;obtain ⟨Y,env,hh,st,r,pp⟩:=t;dsimp only[den,zB] at pp;refine wpAny_Call_Name_kw (L2.ld_glob I g1 hm ?_ g2);refine PySem.W.callWith_K0 I.kIn hk (cF (us:=[]) (vs:=[]) (E:=fun _ co H'=>∃ c,co=some c/\W c U H') FO ((T.room hc).mono (Nat.le_succ _)) hb (fun e s' x=>T.xc pins U H s e s' I x) I .nil ⟨Y,hh,[],r,rfl,?_⟩);have q:PostV X.K (W.at U) Q Y H (F i [] hh):=pp;cases z:F i [] hh with
 |ok a g=>rw[z] at q;exact q
 |exc c g=>rw[z] at q;exact fun Y' H' e' r' _=>⟨c,rfl,q Y' H' e' r'⟩
 |bad=>rw[z] at q;exact q
theorem qLf(T:Body X c F k ex W)(hc:c.calm=true)(h:c.glob x=some (.cls cc i))(ha:PA X (e::es) (tDL X.K W (zB F cl)))(hs:vM (e::es)=true):PE X (.Call (.Name x p) (e::es) [] pos) (tD X.K W (den F (.make cc i cl))):=by
 obtain ⟨g1,g2,g3,C,f,fd,ps,hm,h1,h2,h3,h4,h5⟩:=T.gl h;have hs':=Bool.and_eq_true_iff.mp hs;exact qPw g1 g2 hm h1 h2 h3 h4 h5 (T.room hc) T.xc ha (vA hs'.1) (bY hs'.2)
theorem qLh(T:Body X c F k ex W)(hc:c.calm=true)(h:c.glob x=some (.cls cc i)):PE X (.Call (.Name x p) [] [] pos) (tD X.K W (den F (.make cc i .nil))):=by
 obtain ⟨g1,g2,g3,C,f,fd,ps,hm,h1,h2,h3,h4,h5⟩:=T.gl h;exact qPv g1 g2 hm h1 h2 h3 h4 h5 (T.room hc) T.xc
theorem qB0:∀ {es:List Expr},vM es=true->(backTo pos (starEach es env)).all (fun x=>!x.1)=true
 | [],_=>rfl
 |e::es,h=>by
  have h:=Bool.and_eq_true_iff.mp h;rw[vA h.1];show (!false&&(backTo pos (starEach es env)).all (fun x=>!x.1))=true;rw[qB0 h.2];rfl
theorem qLO(T:Body X c F k ex W)(hc:c.calm=true)(h:c.M.lookup m=some (mk,tb))(ho:PE X a (tD X.K W (den F ca)))(ha:PA X (e::es) (tDL X.K W (zB F cl)))(hs:vM (e::es)=true)(hsu:yC a=true)(hl:(ap.endLine == pos.line)=true)(hn:es.length<20) :
  PE X (.Call (.Attribute a m ap) (e::es) [] pos) (tD X.K W (den F (.meth mk tb ca cl))):=by
 obtain ⟨m1,m2,m3⟩:=T.mt m mk tb h;have hs':=Bool.and_eq_true_iff.mp hs;refine qPu m3 m1 m2 ((T.room hc).mono (Nat.le_succ _)) T.xc ho ha (vG hsu) hl ?_ (vA hs'.1) (bY hs'.2);unfold methodCallForm;rw[qB0 hs];show (true&&true&&decide ((e::es).length+0+0<30))=true;simp only[List.length_cons,Bool.and_self,Bool.true_and,decide_eq_true_eq]
 lia
theorem qLQ(T:Body X c F k ex W)(hc:c.calm=true)(h:c.M.lookup m=some (mk,tb))(ho:PE X a (tD X.K W (den F ca)))(hsu:yC a=true)(hl:(ap.endLine == pos.line)=true) :
  PE X (.Call (.Attribute a m ap) [] [] pos) (tD X.K W (den F (.meth mk tb ca .nil))):=by
 obtain ⟨m1,m2,m3⟩:=T.mt m mk tb h;exact qPt m3 m1 m2 ((T.room hc).mono (Nat.le_succ _)) T.xc ho (vG hsu) hl
theorem qDs(h:isNone b=true):∃ j pos,b=.Constant .none j pos:=by
 unfold isNone at h;split at h
 ·exact⟨_,_,rfl⟩
 ·cases h
theorem qJE(h:qCm e=true)(whole:Sem Value):isTrue e env whole=(do let v <- whole;standAt e.pos;holding [v] (truthy v)):=by
 cases e <;> first | rfl | cases h
theorem wP(h:aB e=true)(x:Value):foldedSetIterable e env x=pure x:=by
 cases e <;> first | rfl | cases h
theorem yO(T:Body X c F k ex W)(h:c.compOk x scope=true):CompOk X x scope:=by
 unfold Cc.compOk at h;simp only[Bool.and_eq_true,Bool.or_eq_true,decide_eq_true_eq,List.all_eq_true] at h;obtain ⟨⟨⟨⟨⟨⟨h1,h2⟩,h3⟩,h4⟩,h5⟩,h6⟩,h7⟩:=h;refine⟨h1,h2,h3,h4,fun y hy hf=>?_,h6.1,fun z=>?_,fun y hne hy hm=>h7 _ (yD hy) hne rfl (by rw[<- T.N];exact hm)⟩
 rotate_left
 ·rw[T.N] at z ⊢;rcases h6.2 with w | w
  ·exact absurd z w
  ·exact w
 show X.env.scope.names.lookup y.1=_\/X.env.scope.names.lookup y.1=_;rw[T.sc];exact h5 y hy hf
theorem vU(T:Body X c F k ex W)(h:c.compOk x scope=true)(cl:List (Str × Addr))(C:Addr)(s3:Shared)(H3:Hp)(fp:List Addr)(E:Value->Shared->Prop):Body (cxC X x scope cl C s3 H3 fp E) (c.inner x scope) F k ex WF:=by
 have K:=yO T h;refine⟨?_,?_,?_,T.calm,T.room,T.hu,fun y g hg=>?_,T.xq,T.xv,T.mt,T.at',T.xg,fun pins U H s0 e s' I x=>?_⟩
 ·show jS X.N x++[x]=jS c.N x++[x];rw[T.N]
 ·show (jS c.N x++[x]).Nodup;exact qDC T.nd K.new fun z=>by have:=(K.hole (by rw[T.N];exact z)).1;rw[T.N] at this;exact this
 ·show relabel scope X.env=qCb scope c.sc;rw[<- T.sc];rfl
 ·have:=T.glob y g hg
  cases g <;> exact this
 ·obtain ⟨_,_,_,_,_,_,_,_,_,_,_,_,_,_,_,_,z⟩:=x;cases z
structure AllOk (X:Cx) (c:Cc) (F:Nat->List D->M D) (W:WX) (r:Rc):Prop where
 e:∀ e ce,r.e c e=some ce->PE X e (tD X.K W (den F ce))
 cmp:∀ a op b ce pos,r.cmp c a op b=some ce->PE X (.Compare a [op] [b] pos) (tD X.K W (den F ce))/\PT X (.Compare a [op] [b] pos) (tDT X.K W (qM F (.val ce)))
 b:∀ x es ce p pos,c.glob x=some .blt->r.b c x es=some ce->PE X (.Call (.Name x p) es [] pos) (tD X.K W (den F ce))
 l:∀ es cl,r.l c es=some cl->PA X es (tDL X.K W (zB F cl))/\vM es=true
 o:∀ o cp,r.o c o=some cp->PO X o (tDP X.K W (kY F cp))
 t:∀ e ct,r.t c e=some ct->PT X e (tDT X.K W (qM F ct))
 tb:∀ op es ct pos,r.tb c op es=some ct->L2.PW X (.BoolOp op es pos) (tDT X.K W (qM F ct))
 i:∀ tg e ci,r.i c e=some ci->PI X tg e (tDI X.K W (jF F ci))/\aB e=true
end
section
variable {X:Cx}{c:Cc}{F:Nat->List D->M D}{k:Nat}{W:WX}
end
section
variable {X:Cx}{c:Cc}{F:Nat->List D->M D}{k B:Nat}{ex:Nat->Option Addr}{W:WX}
theorem qLF(T:Body X c F k ex W)(h:iZ c x=some ce):PE X (.Name x pos) (tD X.K W (den F ce)):=by
 unfold iZ at h;cases q:c.slot x with
 |some i=>rw[q] at h;cases h;obtain ⟨h1,h2,h3,h4⟩:=T.vis q;exact qPj (L2.pe_var h1 h2 h3 h4)
 |none=>
  rw[q] at h;cases w:c.glob x with
  |none=>rw[w] at h;cases h
  |some g=>
   rw[w] at h;cases g with
   |con d=>cases h;obtain ⟨g1,g2,g3,v,u,hm,hr,hv⟩:=T.gl w;exact aV (L2.pe_glob g1 hm hr g2) hv
   |_=>cases h
theorem qGx(A:AllOk X c F W r)(h:sUn r c a op=some ce):PE X (.UnaryOp op a pos) (tD X.K W (den F ce)):=by
 cases op with
 |Not=>obtain ⟨x,hx,h⟩:=qE h;cases h;exact qPq (A.e a x hx)
 |USub=>obtain ⟨x,hx,h⟩:=qE h;cases h;exact qPr (A.e a x hx)
 |_=>cases h
theorem qRr(A:AllOk X c F W r)(h:qCV r c op pos es=some ce):PE X (.BoolOp op es pos) (tD X.K W (den F ce)):=by
 cases es with
 |nil=>cases h
 |cons a es=>
  cases es with
  |nil=>exact L2.pe_one (A.e a ce h)
  |cons b es=>
   obtain ⟨x,hx,h⟩:=qE h;obtain ⟨y,hy,h⟩:=qE h;cases op with
   |And=>cases h;exact qQC (A.e a x hx) (A.e _ y hy)
   |Or=>cases h;exact qPo (A.e a x hx) (A.e _ y hy)
theorem qQS(T:Body X c F k ex W)(A:AllOk X c F W r)(h:qCS r c a op op' b d=some ce) :
  PE X (.Compare a [op,op'] [b,d] pos) (tD X.K W (den F ce))/\PT X (.Compare a [op,op'] [b,d] pos) (tDT X.K W (qM F (.val ce))):=by
 obtain ⟨o,ho,h⟩:=qE h;obtain ⟨p,hp,h⟩:=qE h;obtain ⟨x,hx,h⟩:=qE h;obtain ⟨y,hy,h⟩:=qE h;obtain ⟨z,hz,h⟩:=qE h;obtain ⟨hl,rfl⟩:=qT h;have hl:lastMarks [op,op'] [b,d]=false:=by simpa using hl
 exact⟨qP9 (wS T ho).2 (wS T hp).2 (A.e a x hx) (A.e b y hy) (A.e d z hz) hl,qPK (wS T hp).1 (wS T ho).2 (wS T hp).2 (A.e _ x hx) (A.e _ y hy) (A.e _ z hz) hl⟩
theorem qEw(T:Body X c F k ex W)(A:AllOk X c F W r)(h:lA r c a ops cs=some ce) :
  PE X (.Compare a ops cs pos) (tD X.K W (den F ce))/\PT X (.Compare a ops cs pos) (tDT X.K W (qM F (.val ce))):=by
 cases ops with
 |nil=>cases h
 |cons op ops=>
  cases cs with
  |nil=>cases h
  |cons b cs=>
   cases ops with
   |nil=>
    cases cs with
    |nil=>exact A.cmp a op b ce pos h
    |cons _ _=>cases h
   |cons op' ops=>
    cases ops with
    |cons _ _=>cases h
    |nil=>
     cases cs with
     |nil=>cases h
     |cons d cs=>
      cases cs with
      |nil=>exact qQS T A h
      |cons _ _=>cases h
theorem qHw(A:AllOk X c F W r)(h:iX r c a b=some ce):PE X (.Subscript a b pos) (tD X.K W (den F ce)):=by
 unfold iX at h;cases qr:qDr b with
 |true=>rw[qr] at h;cases h
 |false=>
 rw[qr] at h;cases q:mS b with
 |some w=>rw[q] at h;obtain ⟨p,rfl⟩:=qND q;obtain ⟨x,hx,h⟩:=qE h;obtain ⟨l,hl,h⟩:=qE h;obtain ⟨u,hu,h⟩:=qE h;cases h;exact qPm (A.e a x hx) (A.o w.1 l hl) (A.o w.2 u hu)
 |none=>rw[q] at h;obtain ⟨x,hx,h⟩:=qE h;obtain ⟨y,hy,h⟩:=qE h;obtain ⟨hs,rfl⟩:=qT h;exact qPz (A.e a x hx) (A.e b y hy) (qM2 hs)
theorem qQm(T:Body X c F k ex W)(A:AllOk X c F W r)(h:qCT r c x es (c.glob x)=some ce):PE X (.Call (.Name x p) es [] pos) (tD X.K W (den F ce)):=by
 cases w:c.glob x with
 |none=>rw[w] at h;cases h
 |some g=>
  rw[w] at h;cases g with
  |fn i=>
   cases es with
   |nil=>obtain ⟨hs,rfl⟩:=qT h;exact qQn T hs w
   |cons e es=>obtain ⟨l,hl,h⟩:=qE h;obtain ⟨hs,rfl⟩:=qT h;exact qQc T hs w (A.l _ l hl).1 (A.l _ l hl).2
  |blt=>exact A.b x es ce p pos w h
  |cls kc fi=>
   cases es with
   |nil=>obtain ⟨hs,rfl⟩:=qT h;exact qLh T hs w
   |cons e es=>obtain ⟨l,hl,h⟩:=qE h;obtain ⟨hs,rfl⟩:=qT h;exact qLf T hs w (A.l _ l hl).1 (A.l _ l hl).2
  |_=>cases h
theorem qLP(T:Body X c F k ex W)(A:AllOk X c F W r)(hx:r.e c a=some x)(h:qCN r c m (yC a&&(ap.endLine == p.line)) x es (c.M.lookup m)=some ce):PE X (.Call (.Attribute a m ap) es [] p) (tD X.K W (den F ce)):=by
 cases w:c.M.lookup m with
 |some q=>
  rw[w] at h;obtain ⟨mk,tb⟩:=q;cases es with
  |nil=>obtain ⟨hs,rfl⟩:=qT h;obtain ⟨h1,h2⟩:=Bool.and_eq_true_iff.mp hs;obtain ⟨h2,h3⟩:=Bool.and_eq_true_iff.mp h2;exact qLQ T h1 w (A.e a x hx) h2 h3
  |cons e es=>obtain ⟨l,hl,h⟩:=qE h;obtain ⟨hs,rfl⟩:=qT h;obtain ⟨hs,h4⟩:=Bool.and_eq_true_iff.mp hs;obtain ⟨h1,h2⟩:=Bool.and_eq_true_iff.mp hs;obtain ⟨h2,h3⟩:=Bool.and_eq_true_iff.mp h2;exact qLO T h1 w (A.e a x hx) (A.l _ l hl).1 (A.l _ l hl).2 h2 h3 (of_decide_eq_true h4)
 |none=>
  rw[w] at h;cases es with
  |nil=>cases h
  |cons b es=>
   cases es with
   |cons d es=>
    cases es with
    |cons _ _=>cases h
    |nil=>
     have h:(match decide (m="setdefault") with | true=>none | false=>match decide (m="get") with | true=>none | false=>none)=some ce:=h;split at h
     ·cases h
     ·split at h
      ·cases h
      ·cases h
   |nil=>obtain ⟨o,ho,h⟩:=qE h;obtain ⟨y,hy,h⟩:=qE h;obtain ⟨hs,rfl⟩:=qT h;obtain ⟨hs,h4⟩:=Bool.and_eq_true_iff.mp hs;obtain ⟨h2,h3⟩:=Bool.and_eq_true_iff.mp hs;exact qLY T ho (A.e a x hx) (A.e b y hy) h4 h2 h3
theorem qQl(T:Body X c F k ex W)(A:AllOk X c F W r)(h:qCU r c f es ks p=some ce):PE X (.Call f es ks p) (tD X.K W (den F ce)):=by
 cases ks with
 |cons _ _=>cases h
 |nil=>
  cases f with
  |Name x q=>exact qQm T A h
  |Attribute a m ap=>obtain ⟨x,hx,h⟩:=qE h;exact qLP T A hx h
  |_=>cases h
theorem qMs{k:Option Expr}(h:qCc k=some y):∃ e,k=some e/\PE X e (L2.tC (L2.kV (kyV y))):=by
 cases k with
 |none=>cases h
 |some e=>
  cases e with
  |Constant kc j pos=>
   cases kc with
   |str s=>
    cases h;refine⟨_,rfl,?_⟩;have e1:(⟨s.cps.toList.toArray⟩:Str)=s:=by simp
    show PE X _ (L2.tC (.str ⟨s.cps.toList.toArray⟩));rw[e1];exact L2.pe_str
   |int i=>cases h;exact⟨_,rfl,L2.pe_int⟩
   |_=>cases h
  |_=>cases h
theorem qEq(A:AllOk X c F W r):∀ {keys:List (Option Expr)} {values:List Expr} {ks:List Ky} {l:CL},lF keys=some ks->lE r c values=some l->keys.length=values.length ->
  L2.PPs X pos keys values (trs X F W ks l)/\keys.all (·.isSome)=true/\fD l=ks.length
 | [],[],_,_,h1,h2,_=>by cases h1;cases h2;exact⟨L2.pps_nil,rfl,rfl⟩
 | [],_::_,_,_,_,_,h=>by cases h
 |_::_,[],_,_,_,_,h=>by cases h
 |k::keys,e::values,ks,l,h1,h2,h3=>by
  obtain ⟨y,hy,h1⟩:=qE h1;obtain ⟨ys,hys,h1⟩:=qE h1;cases h1;obtain ⟨x,hx,h2⟩:=qE h2;obtain ⟨l',hl,h2⟩:=qE h2;cases h2;obtain ⟨ek,rfl,pk⟩:=qMs (X:=X) hy;obtain ⟨g1,g2,g3⟩:=qEq A (pos:=pos) hys hl (Nat.succ.inj h3)
  exact⟨L2.pps_cons pk (A.e e x hx) g1,by rw[List.all_cons,g2];rfl,congrArg Nat.succ g3⟩
theorem qPY(A:AllOk X c F W r)(h:qCQ r c keys values=some ce):PE X (.Dict keys values pos) (tD X.K W (den F ce)):=by
 obtain ⟨ks,hk,h⟩:=qE h;obtain ⟨l,hl,h⟩:=qE h;obtain ⟨hs,rfl⟩:=qT h;obtain ⟨h1,h2⟩:=Bool.and_eq_true_iff.mp hs;have h1:=of_decide_eq_true h1;obtain ⟨g1,g2,g3⟩:=qEq A (pos:=pos) hk hl h1;refine qP7 g1 g2 h1 (of_decide_eq_true h2) g3 fun z=>?_;subst z;cases hk;cases values with
 |nil=>cases hl;exact⟨rfl,rfl,rfl⟩
 |cons _ _=>cases h1
theorem qMy(A:AllOk X c F W r)(h:qCO r c es=some ce):PE X (.JoinedStr es p) (tD X.K W (den F ce)):=by
 rcases es with _ | ⟨f,_ | ⟨s,_ | ⟨g,_ | ⟨u,es⟩⟩⟩⟩
 ·cases h
 ·cases h
 ·cases h
 ·obtain ⟨a,ha,h⟩:=qE h;obtain ⟨t,ht,h⟩:=qE h;obtain ⟨b,hb,h⟩:=qE h;obtain ⟨x,hx,h⟩:=qE h;obtain ⟨y,hy,h⟩:=qE h;cases h;obtain ⟨_,rfl⟩:=qDv ha;obtain ⟨_,_,rfl⟩:=qDq ht;obtain ⟨_,rfl⟩:=qDv hb;exact qP4 (A.e a x hx) (A.e b y hy)
 ·cases h
theorem qQK(T:Body X c F k ex W)(AA:∀ (X:Cx) (c:Cc) (W:WX),Body X c F k ex W->AllOk X c F W r)(h:cE r c elt scope q=some ce):PE X (.ListComp elt [⟨.Name q.x q.p,q.iter,q.ifs,0⟩] scope pos) (tD X.K W (den F ce)):=by
 have A:=AA X c W T;obtain ⟨x,px,iter,ifs⟩:=q;cases ifs with
 |nil=>
  obtain ⟨it,hi,h⟩:=qE h;obtain ⟨y,hy,h⟩:=qE h;obtain ⟨hk',rfl⟩:=qT h;obtain ⟨hcm,hk⟩:=Bool.and_eq_true_iff.mp hk';have K:=yO T hk
  exact PE.imp (cH K (by rw[T.N];exact T.nd) (T.calm hcm) (A.i _ iter it hi).1 (wP (A.i (.Name x px) iter it hi).2) (tt:=none) fun cl C s3 H3 fp E=>⟨(AA _ _ _ (vU T hk cl C s3 H3 fp E)).e elt y hy,rfl⟩) fun U H Q t=>eY (f:=fun env x=>jI (den F y) env x) (mi:=jF F it) (iQ _) (by
   obtain ⟨Y,env,h,s,r,p⟩:=t;dsimp only[den] at p
   exact⟨Y,env,h,s,r,p⟩)
 |cons tst ts=>
  cases ts with
  |cons _ _=>cases h
  |nil=>
   obtain ⟨it,hi,h⟩:=qE h;obtain ⟨z,hz,h⟩:=qE h;obtain ⟨y,hy,h⟩:=qE h;obtain ⟨hk',rfl⟩:=qT h;obtain ⟨hcm,hk⟩:=Bool.and_eq_true_iff.mp hk';have K:=yO T hk
   exact PE.imp (cH K (by rw[T.N];exact T.nd) (T.calm hcm) (A.i _ iter it hi).1 (wP (A.i (.Name x px) iter it hi).2) (tt:=some (tDT X.K WF (qM F z))) fun cl C s3 H3 fp E=>⟨(AA _ _ _ (vU T hk cl C s3 H3 fp E)).e elt y hy,tst,rfl,(AA _ _ _ (vU T hk cl C s3 H3 fp E)).t tst z hz⟩) fun U H Q t=>eY (f:=fun env x=>jG (den F y) (qM F z) env x) (mi:=jF F it) (iP _ _) (by
    obtain ⟨Y,env,h,s,r,p⟩:=t;dsimp only[den] at p
    exact⟨Y,env,h,s,r,p⟩)
theorem mW(h:c.isB x=true):c.glob x=some .blt:=by
 unfold Cc.isB at h;split at h
 ·assumption
 ·cases h
theorem lP(h:kM e=true):aB e=true:=by
 cases e with
 |Set _ _=>cases h
 |_=>rfl
theorem qQN(T:Body X c F k ex W)(AA:∀ (X:Cx) (c:Cc) (W:WX),Body X c F k ex W->AllOk X c F W r)(hd:kM q.iter=true)(h:lB r c elt scope q=some ce):PE X (.ListComp elt [⟨.Name q.x q.p,q.iter,q.ifs,0⟩] scope pos) (tD X.K W (den F ce)):=by
 have A:=AA X c W T;obtain ⟨x,px,iter,ifs⟩:=q;cases ifs with
 |nil=>obtain ⟨d,hi,h⟩:=qE h;obtain ⟨y,hy,h⟩:=qE h;obtain ⟨hk',rfl⟩:=qT h;obtain ⟨hcm,hk⟩:=Bool.and_eq_true_iff.mp hk';have K:=yO T hk;have e:(fun env x=>jG (den F y) (qM F (.val (.lit (.bl true)))) env x)=fun env x=>jI (den F y) env x:=rfl;exact PE.imp (L2.pe_thaw (cH K (by rw[T.N];exact T.nd) (T.calm hcm) (L2.pi_dict (A.e iter d hi)) (wP (lP hd)) (tt:=none) fun cl C s3 H3 fp E=>⟨(AA _ _ _ (vU T hk cl C s3 H3 fp E)).e elt y hy,rfl⟩)) fun U H Q t=>compD (by rw[e];exact iQ _) t
 |cons tst ts=>
  cases ts with
  |cons _ _=>cases h
  |nil=>obtain ⟨d,hi,h⟩:=qE h;obtain ⟨z,hz,h⟩:=qE h;obtain ⟨y,hy,h⟩:=qE h;obtain ⟨hk',rfl⟩:=qT h;obtain ⟨hcm,hk⟩:=Bool.and_eq_true_iff.mp hk';have K:=yO T hk;exact PE.imp (L2.pe_thaw (cH K (by rw[T.N];exact T.nd) (T.calm hcm) (L2.pi_dict (A.e iter d hi)) (wP (lP hd)) (tt:=some (tDT X.K WF (qM F z))) fun cl C s3 H3 fp E=>⟨(AA _ _ _ (vU T hk cl C s3 H3 fp E)).e elt y hy,tst,rfl,(AA _ _ _ (vU T hk cl C s3 H3 fp E)).t tst z hz⟩)) fun U H Q t=>compD (iP _ _) t
theorem qQM(T:Body X c F k ex W)(AA:∀ (X:Cx) (c:Cc) (W:WX),Body X c F k ex W->AllOk X c F W r)(h:gZ r c elt scope gs=some ce):PE X (.ListComp elt gs scope pos) (tD X.K W (den F ce)):=by
 unfold gZ at h;split at h
 ·rename_i q hq;obtain rfl:=qDu hq;cases hd:kM q.iter with
  |true=>rw[hd] at h;exact qQN T AA hd h
  |false=>rw[hd] at h;exact qQK T AA h
 ·cases h
theorem qBy(T:Body X c F k ex W)(AA:∀ (X:Cx) (c:Cc) (W:WX),Body X c F k ex W->AllOk X c F W r)(e:Expr)(ce:CE)(h:eS r c e=some ce):PE X e (tD X.K W (den F ce)):=by
 have A:=AA X c W T;cases e with
 |Constant kc j pos=>exact qQJ h
 |Name x pos=>exact qLF T h
 |BinOp a op b pos=>obtain ⟨o,ho,h⟩:=qE h;obtain ⟨x,hx,h⟩:=qE h;obtain ⟨y,hy,h⟩:=qE h;cases h;exact PE.imp (L2.pe_op (qRt ho) (A.e a x hx) (A.e b y hy)) fun _ _ _ t=>two t
 |UnaryOp op a pos=>exact qGx A h
 |BoolOp op es pos=>exact qRr A h
 |IfExp t a b pos=>obtain ⟨z,hz,h⟩:=qE h;obtain ⟨x,hx,h⟩:=qE h;obtain ⟨y,hy,h⟩:=qE h;cases h;exact qP0 (A.t t z hz) (A.e a x hx) (A.e b y hy)
 |Compare a ops cs pos=>exact (qEw T A h).1
 |Tuple es j pos=>obtain ⟨l,hl,h⟩:=qE h;cases h;exact qPk (A.l es l hl).1
 |List es pos=>obtain ⟨l,hl,h⟩:=qE h;cases h;exact qPx (A.l es l hl).1
 |Subscript a b pos=>exact qHw A h
 |Call f es ks p=>exact qQl T A h
 |Attribute a f pos=>obtain ⟨kk,hk,h⟩:=qE h;obtain ⟨x,hx,h⟩:=qE h;obtain ⟨hs,rfl⟩:=qT h;exact qP5 (T.at' f kk.1 kk.2 hk).1 (A.e a x hx) (vG hs)
 |Dict keys values pos=>exact qPY A h
 |JoinedStr es p=>exact qMy A h
 |ListComp elt gs scope pos=>exact qQM T AA h
 |_=>cases h
theorem qQO(T:Body X c F k ex W)(A:AllOk X c F W r)(h:qCR r c a op b=some ce) :
  PE X (.Compare a [op] [b] pos) (tD X.K W (den F ce))/\PT X (.Compare a [op] [b] pos) (tDT X.K W (qM F (.val ce))):=by
 obtain ⟨o,ho,h⟩:=qE h;obtain ⟨x,hx,h⟩:=qE h;obtain ⟨y,hy,h⟩:=qE h;obtain ⟨hb,rfl⟩:=qT h;have hb:behindInMarks op b=false:=by simpa using hb
 exact⟨qP8 (wS T ho).2 (A.e _ x hx) (A.e _ y hy) hb,qPJ (wS T ho).1 (wS T ho).2 (A.e _ x hx) (A.e _ y hy) hb⟩
theorem qH6(T:Body X c F k ex W)(A:AllOk X c F W r)(a:Expr)(op:CmpOp)(b:Expr)(ce:CE)(pos:Pos)(h:qE2 r c a op b=some ce) :
  PE X (.Compare a [op] [b] pos) (tD X.K W (den F ce))/\PT X (.Compare a [op] [b] pos) (tDT X.K W (qM F (.val ce))):=by
 cases op with
 |Is=>
  obtain ⟨x,hx,h⟩:=qE h;unfold sIs at h;cases q:isNone b with
  |true=>
   rw[q] at h;cases h;obtain ⟨j,p',rfl⟩:=qDs q
   exact⟨qP2 (A.e _ x hx),qPI (A.e _ x hx)⟩
  |false=>rw[q] at h;cases h
 |IsNot=>
  obtain ⟨x,hx,h⟩:=qE h;unfold sIs at h;cases q:isNone b with
  |true=>
   rw[q] at h;cases h;obtain ⟨j,p',rfl⟩:=qDs q
   exact⟨qPp (A.e _ x hx),qPG (A.e _ x hx)⟩
  |false=>rw[q] at h;cases h
 |_=>exact qQO T A h
theorem qT5(T:Body X c F k ex W)(hg:c.glob x=some .blt)(ha:PE X a (tD X.K W (den F y)))(h:sB1 c x a y=some ce):PE X (.Call (.Name x p) [a] [] pos) (tD X.K W (den F ce)):=by
 unfold sB1 at h;cases q:bi1 x with
 |some o=>rw[q] at h;obtain ⟨hs,rfl⟩:=qT h;exact qRw T q hg ha hs
 |none=>rw[q] at h;obtain ⟨o,ho,h⟩:=qE h;obtain ⟨hs,rfl⟩:=qT h;obtain ⟨h1,h2⟩:=Bool.and_eq_true_iff.mp hs;exact qRv T h2 ho hg ha h1
theorem qNC (T:Body X c F k ex W) (A:AllOk X c F W r) {x:Str} (hx:x="isinstance") (hg:c.glob x=some .blt) (h:qCP r c a y=some ce):PE X (.Call (.Name x p) [a,.Name y p2] [] pos) (tD X.K W (den F ce)):=by
 obtain ⟨z,hz,h⟩:=qE h;cases q:tyN y with
 |some t=>rw[q] at h;obtain ⟨hs,rfl⟩:=qT h;obtain ⟨h1,h2⟩:=Bool.and_eq_true_iff.mp hs;exact qNB T hx q hg h2 (A.e _ z hz) h1
 |none=>rw[q] at h;cases h
theorem qH7(T:Body X c F k ex W)(A:AllOk X c F W r)(x:Str)(es:List Expr)(ce:CE)(p pos:Pos)(hg:c.glob x=some .blt)(h:bS r c x es=some ce):PE X (.Call (.Name x p) es [] pos) (tD X.K W (den F ce)):=by
 rcases es with _ | ⟨a,_ | ⟨b,_ | ⟨d,_ | ⟨_,_⟩⟩⟩⟩
 ·cases h
 ·obtain ⟨y,hy,h⟩:=qE h;exact qT5 T hg (A.e _ y hy) h
 ·unfold bS at h;cases q:decide (x="isinstance") with
  |true=>simp only[q] at h;obtain ⟨y,hy,h⟩:=qE h;obtain ⟨p2,rfl⟩:=mV hy;exact qNC T A (of_decide_eq_true q) hg h
  |false=>simp only[q] at h;obtain ⟨o,ho,h⟩:=qE h;obtain ⟨u,hu,h⟩:=qE h;obtain ⟨v,hv,h⟩:=qE h;obtain ⟨hs,rfl⟩:=qT h;obtain ⟨hs,h3⟩:=Bool.and_eq_true_iff.mp hs;obtain ⟨h1,h2⟩:=Bool.and_eq_true_iff.mp hs;exact qRu T h3 ho hg (A.e _ u hu) (A.e _ v hv) h1 h2
 ·obtain ⟨o,ho,h⟩:=qE h;obtain ⟨u,hu,h⟩:=qE h;obtain ⟨v,hv,h⟩:=qE h;obtain ⟨z,hz,h⟩:=qE h;obtain ⟨hs,rfl⟩:=qT h;obtain ⟨h0,hs⟩:=Bool.and_eq_true_iff.mp hs;obtain ⟨hs,h4⟩:=Bool.and_eq_true_iff.mp hs;obtain ⟨hs,h3⟩:=Bool.and_eq_true_iff.mp hs;obtain ⟨h1,h2⟩:=Bool.and_eq_true_iff.mp hs;rw[of_decide_eq_true h0] at ho;exact qLN T h4 ho hg (A.e _ u hu) (A.e _ v hv) (A.e _ z hz) h1 h2 h3
 ·cases h
theorem qH3(A:AllOk X c F W r)(es:List Expr)(cl:CL)(h:lS r c es=some cl):PA X es (tDL X.K W (zB F cl))/\vM es=true:=by
 cases es with
 |nil=>cases h;exact⟨qPg (es:=[]),rfl⟩
 |cons e es=>
  obtain ⟨x,hx,h⟩:=qE h;obtain ⟨l,hl,h⟩:=qE h;obtain ⟨hs,rfl⟩:=qT h
  exact⟨qPh (A.e _ x hx) (A.l _ l hl).1 (vA hs),by unfold vM;rw[hs,(A.l _ l hl).2];rfl⟩
theorem qH2(A:AllOk X c F W r)(o:Option Expr)(cp:CP)(h:oS r c o=some cp):PO X o (tDP X.K W (kY F cp)):=by
 cases o with
 |none=>cases h;exact qPN
 |some e=>obtain ⟨x,hx,h⟩:=qE h;cases h;exact qPO (A.e _ x hx)
theorem qIr(A:AllOk X c F W r)(h:sT r c e=some ct):PT X e (tDT X.K W (qM F ct)):=by
 obtain ⟨x,hx,h⟩:=qE h;obtain ⟨hs,rfl⟩:=qT h;exact qPF (A.e _ x hx) (qJE hs)
theorem qHz(T:Body X c F k ex W)(A:AllOk X c F W r)(e:Expr)(ct:CT)(h:tS r c e=some ct):PT X e (tDT X.K W (qM F ct)):=by
 cases e with
 |UnaryOp op a pos=>
  cases op with
  |Not=>obtain ⟨x,hx,h⟩:=qE h;cases h;exact qPH (A.t _ x hx)
  |_=>cases h
 |BoolOp op es pos=>exact (A.tb _ _ ct pos h).pt
 |Compare a ops cs pos=>obtain ⟨x,hx,h⟩:=qE h;cases h;exact (qEw T A hx).2
 |_=>exact qIr A h
theorem qHy(A:AllOk X c F W r)(op:BoolOp)(es:List Expr)(ct:CT)(pos:Pos)(h:tbS r c op es=some ct):L2.PW X (.BoolOp op es pos) (tDT X.K W (qM F ct)):=by
 cases es with
 |nil=>cases h
 |cons a es=>
  cases es with
  |nil=>
   cases op with
   |And=>exact L2.pw_and1 (A.t _ ct h)
   |Or=>exact L2.pw_or1 (A.t _ ct h)
  |cons b es=>
   obtain ⟨x,hx,h⟩:=qE h;obtain ⟨y,hy,h⟩:=qE h;cases op with
   |And=>cases h;exact qPC (A.t _ x hx) (A.tb _ _ y pos hy)
   |Or=>cases h;exact qPB (A.t _ x hx) (A.tb _ _ y pos hy)
theorem qH4(T:Body X c F k ex W)(A:AllOk X c F W r)(tg e:Expr)(ci:CI)(h:iS r c e=some ci):PI X tg e (tDI X.K W (jF F ci))/\aB e=true:=by
 unfold iS at h;cases q:mU e with
 |none=>
  rw[q] at h;obtain ⟨z,hz,h⟩:=qE h;obtain ⟨hs,rfl⟩:=qT h
  exact⟨qPe (A.e _ z hz),hs⟩
 |some es=>
  rw[q] at h;obtain ⟨p,p2,rfl⟩:=qNF q;rcases es with _ | ⟨a,_ | ⟨b,_ | ⟨d,_ | _⟩⟩⟩
  ·cases h
  ·obtain ⟨z,hz,h⟩:=qE h;obtain ⟨hs,rfl⟩:=qT h;obtain ⟨h1,h2⟩:=Bool.and_eq_true_iff.mp hs;obtain ⟨g1,g2,g3,g4⟩:=T.gl (mW h2)
   exact⟨qPd g1 g4 (A.e _ z hz) (jP h1),rfl⟩
  ·obtain ⟨z,hz,h⟩:=qE h;obtain ⟨z',hz',h⟩:=qE h;obtain ⟨hs,rfl⟩:=qT h;obtain ⟨hs,h2⟩:=Bool.and_eq_true_iff.mp hs;obtain ⟨h1,h3⟩:=Bool.and_eq_true_iff.mp hs;obtain ⟨g1,g2,g3,g4⟩:=T.gl (mW h2)
   exact⟨qPc g1 g4 (A.e _ z hz) (A.e _ z' hz') (uC h1 h3) (jP h3),rfl⟩
  ·obtain ⟨z,hz,h⟩:=qE h;obtain ⟨z',hz',h⟩:=qE h;obtain ⟨z'',hz'',h⟩:=qE h;obtain ⟨hs,rfl⟩:=qT h;obtain ⟨hs,h2⟩:=Bool.and_eq_true_iff.mp hs;obtain ⟨hs,h4⟩:=Bool.and_eq_true_iff.mp hs;obtain ⟨h1,h3⟩:=Bool.and_eq_true_iff.mp hs;obtain ⟨g1,g2,g3,g4⟩:=T.gl (mW h2)
   exact⟨qPb g1 g4 (A.e _ z hz) (A.e _ z' hz') (A.e _ z'' hz'') (qH9 h1 h3 h4) (uC h3 h4) (jP h4),rfl⟩
  ·cases h
theorem wD:∀ (n:Nat) (X:Cx) (c:Cc) (W:WX),Body X c F k ex W->AllOk X c F W (rcN n)
 |0,_,_,_,_=>{
   e:=fun _ _ h=>nomatch h
   cmp:=fun _ _ _ _ _ h=>nomatch h
   b:=fun _ _ _ _ _ _ h=>nomatch h
   l:=fun _ _ h=>nomatch h
   o:=fun _ _ h=>nomatch h
   t:=fun _ _ h=>nomatch h
   tb:=fun _ _ _ _ h=>nomatch h
   i:=fun _ _ _ h=>nomatch h }
 |n+1,X,c,W,T=>
  have A:=wD n X c W T
  ⟨qBy T (wD n),qH6 T A,qH7 T A,qH3 A,qH2 A,qHz T A,qHy A,qH4 T A⟩
theorem bU(h:aC e=true):swapsWith e t n env=pure false:=by
 cases e <;> first | rfl | cases h
theorem qT7(h:cO i=true)(v:Value):assign (.Subscript o i pos) env v=(do
      let ov <- holding [v] (eval o env)
      let iv <- holding [v,ov] (eval i env)
      standAt pos
      holding [v,ov,iv] (setItem ov iv v)
      release [v,ov,iv] []):=by
  cases i <;> first | rfl | cases h
theorem qIm(ht:yA X.K t g)(hc:X.calm=true)(hi:PI X.nox tg iter (tDI X.K WF (jF F ci)))(hg:PG X.nox tg g)(hb:PSs X.nox body (tDS X.K WF (qB F B cb)))
  (hs:∀ x,foldedSetIterable iter X.env x=pure x):PS X (.For tg iter body [] pos) (tDS X.K W (qB F B (.fori t ci cb))):=PS.imp (PS.nox (L2.ps_for PassesOwn.never hc hi hg hb hs)) fun E U H q=>by
 obtain ⟨Y,env,h,s,r,p⟩:=q;dsimp only[qB] at p;refine⟨Y,env,h,s,r,qFC (PostS.ofR s p fun Y1 h1 it H1 e1 r1 q J hJ=>?_) _⟩;cases it with
 |row xs=>obtain ⟨go,yl,sp⟩:=hJ;exact qDX ht (s.mono e1) r1 go yl sp q
 |pairs xs=>exact (show False from q).elim
 |live k=>obtain ⟨a,ha,rfl⟩:=hJ;exact qMT ht (s.mono e1) r1 ha q
theorem qIb(T:BodyS X c F k ex W)(hi:c.own y=some i)(hc:qDx e=true)(he:eS (rcN n) c e=some ce):PS X (.Assign [.Name y py] e spos) (tDS X.K W (qB F B (.set (.nm i) ce))):=by
 have AA:=wD (F:=F) (k:=k) (ex:=ex) n;have A:=AA X c W T.toBody;obtain ⟨h1,h2⟩:=T.loc hi;have pe:=qBy T.toBody (wD n) e ce he
 have key:∀ {U:L2.St} {H:Hp} {E:Ends},tDS X.K W (qB F B (.set (.nm i) ce)) E U H->tD X.K W (den F ce) U H fun v H'=>E.nx (U.set i (some v)) H':=fun {U H E} t=>by
  obtain ⟨Y,env,h,s,r,p⟩:=t;dsimp only[qB] at p
  exact⟨Y,env,h,s,r,PostS.ofR s p fun Y' h' d H' e' r' q v hv=>q Y' H' _ (Step.refl _ _) r' ((s.mono e').set i hv)⟩
 cases e with
 |ListComp elt gs scope pos=>
  have he:gZ (rcN n) c elt scope gs=some ce:=he;have hc':(match uQ gs with | some q=>decide (q.ifs.length<=1)&&!kM q.iter | none=>false)=true:=hc
  obtain ⟨g,hg⟩:∃ g,uQ gs=some g:=by
   cases z:uQ gs with
   |none=>rw[z] at hc';cases hc'
   |some g=>exact⟨g,rfl⟩
  rw[hg] at hc';have hdn:kM g.iter=false:=by simpa using (Bool.and_eq_true_iff.mp hc').2
  have hsc:cE (rcN n) c elt scope g=some ce:=by
   unfold gZ at he;rw[hg] at he;have he:(match kM g.iter with | true=>lB (rcN n) c elt scope g | false=>cE (rcN n) c elt scope g)=some ce:=he;rw[hdn] at he;exact he
  clear hc'
  obtain rfl:=qDu hg;obtain ⟨x,px,iter,ifs⟩:=g;have hsw:swapsWith (.ListComp elt [⟨.Name x px,iter,ifs,0⟩] scope pos) (some (.Name y py)) spos.line X.env=pure (X.env.blockKind == .function&&X.env.kindOf y == some .local&&py.line == (Expr.ListComp elt [⟨.Name x px,iter,ifs,0⟩] scope pos).pos.line&&!(scope.names.any fun (n,k)=>n == y&&(k == .local || k == .cell))):=rfl;cases q:(X.env.blockKind == .function&&X.env.kindOf y == some .local&&py.line == (Expr.ListComp elt [⟨.Name x px,iter,ifs,0⟩] scope pos).pos.line&&!(scope.names.any fun (n,k)=>n == y&&(k == .local || k == .cell))) with
  |false=>rw[q] at hsw;exact qCJ T.nd' h1 h2 pe hsw (.inl (T.fn _))
  |true=>
   rw[q] at hsw;simp only[Bool.and_eq_true] at q;have hk:X.env.scope.names.lookup y=some .local:=(show X.env.kindOf y=some .local by simpa using q.1.1.2);cases ifs with
   |nil=>
    obtain ⟨it,hit,he⟩:=qE hsc;obtain ⟨z,hz,he⟩:=qE he;obtain ⟨hko',rfl⟩:=qT he;obtain ⟨hcm,hko⟩:=Bool.and_eq_true_iff.mp hko';have K:=yO T.toBody hko;refine PS.imp (qCj K T.nd' (T.calm hcm) (A.i _ iter it hit).1 (wP (A.i (.Name x px) iter it hit).2) (tt:=none) (fun cl C s3 H3 fp E=>⟨(AA _ _ _ (vU T.toBody hko cl C s3 H3 fp E)).e elt z hz,rfl⟩) h1 hk hsw) fun E U H t=>eY (f:=fun env x=>jI (den F z) env x) (mi:=jF F it) (iQ _) ?_;obtain ⟨Y,env,h,s,r,p⟩:=key t;dsimp only[den] at p
    exact⟨Y,env,h,s,r,p⟩
   |cons tst ts=>
    cases ts with
    |cons _ _=>cases hsc
    |nil=>
     obtain ⟨it,hit,he⟩:=qE hsc;obtain ⟨zt,hzt,he⟩:=qE he;obtain ⟨z,hz,he⟩:=qE he;obtain ⟨hko',rfl⟩:=qT he;obtain ⟨hcm,hko⟩:=Bool.and_eq_true_iff.mp hko';have K:=yO T.toBody hko;refine PS.imp (qCj K T.nd' (T.calm hcm) (A.i _ iter it hit).1 (wP (A.i (.Name x px) iter it hit).2) (tt:=some (tDT X.K WF (qM F zt))) (fun cl C s3 H3 fp E=>⟨(AA _ _ _ (vU T.toBody hko cl C s3 H3 fp E)).e elt z hz,tst,rfl,(AA _ _ _ (vU T.toBody hko cl C s3 H3 fp E)).t tst zt hzt⟩) h1 hk hsw) fun E U H t=>eY (f:=fun env x=>jG (den F z) (qM F zt) env x) (mi:=jF F it) (iP _ _) ?_;obtain ⟨Y,env,h,s,r,p⟩:=key t;dsimp only[den] at p
     exact⟨Y,env,h,s,r,p⟩
 |_=>cases hc
theorem iU(T:BodyS X c F k ex W):BodyS X.nox c.still F k ex WF where
 N:=T.N
 nd:=T.nd
 sc:=T.sc
 calm:=T.calm
 room:=T.room
 hu:=T.hu
 glob:=fun x g h=>by
  have:=T.glob x g h
  cases g <;> exact this
 xc:=fun pins U H s0 e s' I x=>by
  obtain ⟨_,_,_,_,_,_,_,_,_,_,_,_,_,_,_,_,z⟩:=x;cases z
 fn:=T.fn
 stk:=T.stk
 xr:=fun z=>by cases z
 xm:=T.xm
 xq:=T.xq
 xv:=T.xv
 xg:=T.xg
 mt:=T.mt
 at':=T.at'
 noex:=T.noex
 xcl:=T.xcl
theorem qPD(T:BodyS X c F k ex W)(e:Value):BodyS (mark X e) c.dull F k ex WF where
 N:=T.N
 nd:=T.nd
 sc:=T.sc
 calm:=fun z=>by cases z
 room:=fun z=>by cases z
 hu:=T.hu
 glob:=fun x g h=>by
  have:=T.glob x g h
  cases g <;> exact this
 xc:=fun pins U H s0 e s' I x=>by
  obtain ⟨_,_,_,_,_,_,_,_,_,_,_,_,_,_,_,_,z⟩:=x;cases z
 fn:=T.fn
 stk:=T.stk
 xr:=fun z=>by cases z
 xm:=T.xm
 xq:=T.xq
 xv:=T.xv
 xg:=T.xg
 mt:=T.mt
 at':=T.at'
 noex:=T.noex
 xcl:=T.xcl
theorem qOL(T:BodyS X c F k ex W)(pins:List (Addr × Obj))(W1:WX):BodyS (hold X pins fun e s'=>∃ pins' U H s0,Inv (hold X pins fun _ _=>False) pins' U H s0/\CXD X.prog X.w ex X.stack H s0 (fun _ co H'=>∃ c,co=some c/\W1 c U H') e s') c.still F k ex W1 where
 N:=T.N
 nd:=T.nd
 sc:=T.sc
 calm:=T.calm
 room:=T.room
 hu:=T.hu
 glob:=fun x g h=>by
  have:=T.glob x g h
  cases g <;> exact this
 xc:=fun pins' U H s0 e s' I x=>⟨pins',U,H,s0,⟨qC0 (qCz I.ok),I.os,I.bare,I.base,I.loc,I.cell,I.free,I.freeC,I.pin,I.hok,I.len⟩,x⟩
 fn:=T.fn
 stk:=T.stk
 xr:=fun z=>by cases z
 xm:=T.xm
 xq:=T.xq
 xv:=T.xv
 xg:=T.xg
 mt:=T.mt
 at':=T.at'
 noex:=T.noex
 xcl:=T.xcl
structure AllS (F:Nat->List D->M D) (k B:Nat) (ex:Nat->Option Addr) (r:Rs):Prop where
 s:∀ (X:Cx) (c:Cc) (W:WX),BodyS X c F k ex W->∀ st cs,r.s c st=some cs->PS X st (tDS X.K W (qB F B cs))
 ss:∀ (X:Cx) (c:Cc) (W:WX),BodyS X c F k ex W->∀ st cs,r.ss c st=some cs->PSs X st (tDS X.K W (qB F B cs))
 h:∀ (X:Cx) (c:Cc) (W:WX),BodyS X c F k ex W->∀ hs ch,r.h c hs=some ch->HOf X F B ex hs ch
theorem qIM(T:BodyS X c F k ex W)(h:qCM (rcN n) c e t=some cs):PS X (.Assign [t] e spos) (tDS X.K W (qB F B cs)):=by
 have A:=wD (F:=F) (k:=k) (ex:=ex) n X c W T.toBody;cases t with
 |Name x py=>
  obtain ⟨i,hi,h⟩:=qE h;obtain ⟨y,hy,h⟩:=qE h;obtain ⟨hn,rfl⟩:=qT h;obtain ⟨h1,h2⟩:=T.loc hi;rcases Bool.or_eq_true_iff.mp hn with hn | hn
  ·exact qCJ T.nd' h1 h2 (A.e _ y hy) (bU hn) (.inl (T.fn _))
  ·cases n with
   |zero=>cases hy
   |succ n=>exact qIb T hi hn hy
 |Attribute o f p=>obtain ⟨kk,hk,h⟩:=qE h;obtain ⟨x,hx,h⟩:=qE h;obtain ⟨y,hy,h⟩:=qE h;obtain ⟨hn,rfl⟩:=qT h;obtain ⟨k1,k2,k3⟩:=T.at' _ kk.1 kk.2 hk;exact qIa k1 k2 (fun c C h1 h2=>k3 c C h1 h2) (A.e _ x hx) (A.e _ y hy) (bU hn)
 |Subscript o i p=>obtain ⟨x,hx,h⟩:=qE h;obtain ⟨z,hz,h⟩:=qE h;obtain ⟨y,hy,h⟩:=qE h;obtain ⟨hn,rfl⟩:=qT h;obtain ⟨h1,h2⟩:=Bool.and_eq_true_iff.mp hn;exact qIZ (A.e _ x hx) (A.e _ z hz) (A.e _ y hy) (qT7 h2) (by unfold swapsWithSole;exact bU h1) rfl
 |_=>cases h
theorem qBr(T:BodyS X c F k ex W)(hc:X.calm=true)(h:aM c tg=some t):∃ g,yA X.K t g/\PG X.nox tg g:=by
 cases tg with
 |Name x p=>
  obtain ⟨i,hi,h⟩:=qE h;cases h;obtain ⟨h1,h2⟩:=T.loc hi
  exact⟨_,qHZ i,L2.pg_name (X:=X.nox) T.nd' h1 h2 (.inl (T.fn _))⟩
 |_=>cases h
theorem qOr(S:AllS F k B ex (rsN n))(X:Cx)(c:Cc)(W:WX)(T:BodyS X c F k ex W)(ht:aM c tg=some t)(hz:(rcN n).i c it=some z)(hy:(rsN n).ss c.still a=some y)(hcm:c.calm=true):PS X (.For tg it a [] pos) (tDS X.K W (qB F B (.fori t z y))):=by
 have T':=iU T;have A':=wD (k:=k) (ex:=ex) n X.nox c WF { T'.toBody with };obtain ⟨g,g1,g2⟩:=qBr T (T.calm hcm) ht;exact qIm g1 (T.calm hcm) (A'.i _ _ z hz).1 g2 (S.ss _ _ _ T' _ y hy) (wP (A'.i (.Name "" ⟨0,0,0,0⟩) _ z hz).2)
theorem qOs(S:AllS F k B ex (rsN n))(X:Cx)(c:Cc)(W:WX)(T:BodyS X c F k ex W)(hd:kM l=true)(h:cD (rcN n) (rsN n) c tg l a=some cs):PS X (.For tg l a [] pos) (tDS X.K W (qB F B cs)):=by
 unfold cD at h;obtain ⟨t,ht,h⟩:=qE h;cases t with
 |two i j=>cases h
 |nm i=>obtain ⟨z,hz,h⟩:=qE h;obtain ⟨y,hy,h⟩:=qE h;obtain ⟨hcm,rfl⟩:=qT h;have T':=iU T;have A':=wD (k:=k) (ex:=ex) n X.nox c WF { T'.toBody with };obtain ⟨g,g1,g2⟩:=qBr T (T.calm hcm) ht;exact qIl g1 (T.calm hcm) (A'.e _ z hz) g2 (S.ss _ _ _ T' _ y hy) (wP (lP hd))
theorem qIz(T:BodyS X c F k ex W)(he:mT e=some x)(h:iY c x=some cs):PS X (.Raise (some e) none pos) (tDS X.K W (qB F B cs)):=by
 obtain ⟨_,_,_,_,_,rfl⟩:=qNE he;unfold iY at h;cases w:c.glob x with
 |none=>rw[w] at h;cases h
 |some g=>
  rw[w] at h;cases g with
  |exc i=>obtain ⟨hr,rfl⟩:=qT h;obtain ⟨hr1,hr2⟩:=Bool.and_eq_true_iff.mp hr;obtain ⟨g1,g2,g3,C,g4,g5,g6⟩:=T.gl w;exact qIf (T.calm hr2) g1 g2 g4 g6 fun pins U H s a args h' I m hw=>T.xr hr1 pins U H s a args h' i C g5 I m hw
  |_=>cases h
theorem qHT(S:AllS F k B ex (rsN n))(X:Cx)(c:Cc)(W:WX)(T:BodyS X c F k ex W){fin:List Stmt}(h:qCL (rsN n) c a hs els fin=some cs):PS X (.Try a hs els fin pos) (tDS X.K W (qB F B cs)):=by
 cases hs with
 |nil=>cases h
 |cons hd hs=>
  cases els with
  |cons _ _=>cases h
  |nil=>
   cases fin with
   |cons _ _=>cases h
   |nil=>obtain ⟨x,hx,h⟩:=qE h;obtain ⟨y,hy,h⟩:=qE h;obtain ⟨_,rfl⟩:=qT h;exact qIX T.stk (S.h X c W T _ y hy) fun pins W1=>S.ss _ _ _ (qOL T pins W1) _ x hx
theorem qH1(S:AllS F k B ex (rsN n))(X:Cx)(c:Cc)(W:WX)(T:BodyS X c F k ex W)(st:Stmt)(cs:CS)(h:stS (rcN n) (rsN n) c st=some cs):PS X st (tDS X.K W (qB F B cs)):=by
 have A:=wD (k:=k) (ex:=ex) n X c W T.toBody;cases st with
 |Assign ts e spos=>
  rcases ts with _ | ⟨t,_ | ⟨_,_⟩⟩
  ·cases h
  ·exact qIM T h
  ·cases h
 |Expr e pos=>obtain ⟨y,hy,h⟩:=qE h;obtain ⟨hn,rfl⟩:=qT h;exact qIn (A.e _ y hy) (bU hn)
 |Return v pos=>
  cases v with
  |none=>cases h;exact qIc
  |some e=>obtain ⟨y,hy,h⟩:=qE h;cases h;exact qId (A.e _ y hy)
 |Pass pos=>cases h;exact qIg
 |Break pos=>cases h;exact qIq
 |Continue pos=>cases h;exact qIp
 |If t a b pos=>obtain ⟨z,hz,h⟩:=qE h;obtain ⟨x,hx,h⟩:=qE h;obtain ⟨y,hy,h⟩:=qE h;cases h;exact qIk (A.t _ z hz) (S.ss X c W T _ x hx) (S.ss X c W T _ y hy)
 |While t a els pos=>
  cases els with
  |cons _ _=>cases h
  |nil=>obtain ⟨z,hz,h⟩:=qE h;obtain ⟨x,hx,h⟩:=qE h;cases h;have T':=iU T;exact qIV ((wD (k:=k) (ex:=ex) n _ _ _ T'.toBody).t _ z hz) (S.ss _ _ _ T' _ x hx)
 |For tg it a els pos=>
  cases els with
  |cons _ _=>cases h
  |nil=>
   have h:(match kM it with | true=>cD (rcN n) (rsN n) c tg it a | false=>(aM c tg).bind fun t=>((rcN n).i c it).bind fun z=>((rsN n).ss c.still a).bind fun y=>qU c.calm (.fori t z y))=some cs:=h;cases hd:kM it with
   |true=>rw[hd] at h;exact qOs S X c W T hd h
   |false=>
   rw[hd] at h;obtain ⟨t,ht,h⟩:=qE h;obtain ⟨z,hz,h⟩:=qE h;obtain ⟨y,hy,h⟩:=qE h;obtain ⟨hcm,rfl⟩:=qT h;exact qOr S X c W T ht hz hy hcm
 |Raise x y pos=>
  cases y with
  |some _=>cases h
  |none=>
   cases x with
   |none=>cases h
   |some e=>obtain ⟨x,hx,h⟩:=qE h;exact qIz T hx h
 |Try a hs els fin pos=>exact qHT S X c W T h
 |_=>cases h
theorem qIh{st:Stmt}:PS X st (tDS X.K W (qB F B .opq)):=fun pins s U H D I t=>by
 obtain ⟨Y,env,h,st,r,p⟩:=t;dsimp only[qB] at p;cases p
theorem qCK(S:AllS F k B ex (rsN n))(T:BodyS X c F k ex W)(st:Stmt):PS X st (tDS X.K W (qB F B (((rsN n).s c st).getD .opq))):=by
 cases q:(rsN n).s c st with
 |none=>exact qIh
 |some x=>exact S.s X c W T st x q
theorem qIi{st:Stmt}(h1:PS X st (tDS X.K W (qB F B a))):PSs X [st] (tDS X.K W (qB F B a)):=L2.pss_one h1
theorem qH0(S:AllS F k B ex (rsN n))(X:Cx)(c:Cc)(W:WX)(T:BodyS X c F k ex W)(st:List Stmt)(cs:CS)(h:ssS (rsN n) c st=some cs):PSs X st (tDS X.K W (qB F B cs)):=by
 cases st with
 |nil=>cases h;exact qIj
 |cons s r=>
  cases r with
  |nil=>cases h;exact qIi (qCK S T _)
  |cons t r=>obtain ⟨y,hy,h⟩:=qE h;cases h;exact qIo (qCK S T _) (S.ss X c W T _ y hy)
theorem qOa(S:AllS F k B ex (rsN n))(X:Cx)(c:Cc)(W:WX)(T:BodyS X c F k ex W)(hi:c.glob x=some (.exc i))(h:sH (rsN n) c i nm b r=some ch):HOf X F B ex (.ExceptHandler (some (.Name x p)) nm b pos::r) ch:=by
 obtain ⟨g1,g2,g3,C,g4,g5,g6⟩:=T.gl hi;cases b with
 |nil=>cases h
 |cons s b=>
  obtain ⟨cs,hcs,h⟩:=qE h;obtain ⟨kk,hk,h⟩:=qE h;obtain ⟨q,hq,h⟩:=qE h;cases nm with
  |none=>
   cases h
   exact⟨⟨C,g1,g2,g4,fun j D hj=>T.xm i cs C j D hcs g5 hj⟩,⟨_,_,rfl⟩,fun e=>S.ss _ _ _ (qPD T e) _ kk hk,S.h X c W T _ q hq⟩
  |some m=>cases h
theorem qH5(S:AllS F k B ex (rsN n))(X:Cx)(c:Cc)(W:WX)(T:BodyS X c F k ex W)(hs:List ExceptHandler)(ch:CH)(h:hS (rsN n) c hs=some ch):HOf X F B ex hs ch:=by
 cases hs with
 |nil=>cases h;trivial
 |cons hd r=>
  obtain ⟨ty,nm,b,pos⟩:=hd;cases ty with
  |none=>cases h
  |some t=>
   obtain ⟨x,hx,h2⟩:=qE h;obtain ⟨p,rfl⟩:=mV hx
   clear h
   cases w:c.glob x with
   |none=>rw[w] at h2;cases h2
   |some g=>
    rw[w] at h2;cases g with
    |exc i=>exact qOa S X c W T w h2
    |_=>cases h2
theorem qGc:∀ n,AllS F k B ex (rsN n)
 |0=>{ s:=fun _ _ _ _ _ _ h=>(nomatch h),ss:=fun _ _ _ _ _ _ h=>(nomatch h),h:=fun _ _ _ _ _ _ h=>(nomatch h) }
 |n+1=>
  have S:=qGc n
  ⟨qH1 S,qH0 S,qH5 S⟩
end
structure Df where
 name:Str
 qual:Str
 st:Stmt
 N:List Str
 ps:List Str
structure DfOk (G:List (Str × GK)) (xs:List (Nat × List Nat)) (Mt:List (Str × Nat × List (Nat × Nat))) (At:List (Str × Nat × List Nat)) (d:Df) (f:Fn):Prop where
 sc:L2.FnScope d.N d.ps (L2.defScope d.st)
 cp:cSs ⟨d.N,L2.defScope d.st,G,xs,true,true,Mt,At⟩ 100 (L2.defBody d.st)=some f.body
 ar:f.ar=d.ps.length
 sl:f.sl=d.N.length
def wW(K:PySem.W.Frag)(d:Df)(f:Addr)(fd:FuncData):Prop:=L2.Fun K d.name d.qual d.st f fd/\L2.Binds K fd d.ps []
def qUJ(mg:Str->Option Value)(x:Str)(d:D):Prop:=∃ v u,mg x=some u/\RelV v u/\∀ K Y H,RepV K Y H d v
def jD(K:PySem.W.Frag)(xl:List Nat)(c:Nat):Option Addr:=if xl.contains c then (match PySem.W.nsIn K mainGlobals (qD c) with | some (some (.ref C))=>some C | _=>none) else none
theorem gA{K:PySem.W.Frag}(h:jD K xl c=some C):c∈xl/\zW K c C:=by
 unfold jD at h;split at h
 ·rename_i q;refine⟨by simpa using q,?_⟩;split at h
  ·rename_i C' z;cases h;exact z
  ·cases h
 ·cases h
theorem eM{K:PySem.W.Frag}(hc:xl.contains c=true)(hx:qD c=x)(h:PySem.W.nsIn K mainGlobals x=some (some (.ref C))):jD K xl c=some C:=by
 unfold jD;rw[if_pos hc,hx,h]
theorem aY{K:PySem.W.Frag}{D:Addr}(h:zW K c D)(hx:qD c=x)(ha:PySem.W.nsIn K mainGlobals x=some (some (.ref C))):D=C:=by
 unfold zW at h;rw[hx,ha] at h;cases h;rfl
theorem qO1 {K:PySem.W.Frag} {D:Addr} (hc:PySem.W.isClsIn K C=true) (ht:PySem.W.typeIn K (.ref C)=some (.type "type")) (hb:PySem.W.subIn K (.ref C) (.type "BaseException")=some true) (hs:PySem.W.subIn K (.ref D) (.ref C)=some b) :
  PySem.W.exmOne K (.ref D) (.ref C)=some b:=by
 unfold PySem.W.exmOne;rw[hb,if_pos (show (some true == some true)=true from rfl)];unfold PySem.W.kitCls;have hc':(PySem.W.clsIn K C).isSome=true:=hc;simp only;rw[hc',ht,if_pos (show (true&&some (Value.type "type") == some (Value.type "type"))=true by decide),hs]
def GlP(K:PySem.W.Frag)(mg:Str->Option Value)(xl:List Nat)(ds:List Df)(x:Str)(g:GK):Prop:=match g with
 | .fn i=>∃ d f fd,ds[i]?=some d/\mg x=some (.ref f)/\wW K d f fd
 | .con d=>qUJ mg x d
 | .blt=>mg x=none
 | .exc c=>∃ C,mg x=some (.ref C)/\jD K xl c=some C/\yJ K C=true
 | .cls c i=>∃ C d f fd,mg x=some (.ref C)/\zW K c C/\L2.Cls K C/\L2.Mk K C f/\ds[i]?=some d/\wW K d f fd
def MtP(K:PySem.W.Frag)(ds:List Df)(m:Str)(mk:Nat)(tb:List (Nat × Nat)):Prop:=m=qD mk/\mk<256 ^ 60/\∀ cc fi C,tbN tb cc=some fi->zW K cc C->L2.Cls K C/\∃ d f fd,L2.Meth K C m f/\ds[fi]?=some d/\wW K d f fd
def AtP(K:PySem.W.Frag)(f:Str)(kk:Nat)(cs:List Nat):Prop:=f=qD kk/\kk<256 ^ 60/\∀ cc C,cs.contains cc=true->zW K cc C->L2.NoAttr K C (qD kk)
def AllP{α:Type}(P:α->Prop):List α->Prop
 | []=>True
 |a::r=>P a/\AllP P r
theorem AllP.of{α:Type}{P:α->Prop}{l:List α}(h:AllP P l){a:α}(ha:a∈l):P a:=by
 induction l with
 |nil=>cases ha
 |cons b r ih=>
  rcases List.mem_cons.mp ha with e | e
  ·rw[e];exact h.1
  ·exact ih h.2 e
def AllZ{α β:Type}(P:α->β->Prop):List α->List β->Prop
 |a::r,b::q=>P a b/\AllZ P r q
 |_,_=>True
theorem AllZ.of{α β:Type}{P:α->β->Prop}{l:List α}{m:List β}(h:AllZ P l m){i:Nat}{a:α}{b:β}(ha:l[i]?=some a)(hb:m[i]?=some b):P a b:=by
 induction l generalizing m i with
 |nil=>cases ha
 |cons x r ih=>
  cases m with
  |nil=>cases hb
  |cons y q=>
   cases i with
   |zero=>cases ha;cases hb;exact h.1
   |succ i=>exact ih h.2 (by simpa using ha) (by simpa using hb)
def qG(d:Df):Prop:=∀ (kV doc pm:Value) (an:Option Addr) (cdv ct:Value) (us:List Value),us.length=d.ps.length->bindArgs (PySem.W.fnOf d.name d.qual (L2.defArgs d.st) (L2.defBody d.st) (L2.defScope d.st) .none kV doc pm an cdv ct) ⟨us,[]⟩=pure (d.ps.zip us)
section
variable {P:List Value->Prop}
theorem ar0(h:P []):∀ us:List Value,us.length=0->P us:=fun us e=>by
 cases us with
 |nil=>exact h
 |cons a r=>cases e
theorem arS{n:Nat}(h:∀ a us,us.length=n->P (a::us)):∀ us:List Value,us.length=n+1->P us:=fun us e=>by
 cases us with
 |nil=>cases e
 |cons a r=>exact h a r (Nat.succ.inj e)
theorem ar1(h:∀ a,P [a]):∀ us:List Value,us.length=1->P us:=arS fun a=>ar0 (h a)
theorem ar2(h:∀ a b,P [a,b]):∀ us:List Value,us.length=2->P us:=arS fun a=>ar1 (h a)
theorem ar3(h:∀ a b c,P [a,b,c]):∀ us:List Value,us.length=3->P us:=arS fun a=>ar2 (h a)
theorem ar4(h:∀ a b c d,P [a,b,c,d]):∀ us:List Value,us.length=4->P us:=arS fun a=>ar3 (h a)
end
theorem qPf{K:PySem.W.Frag}(p:qG d)
  (l:K.lookup f=some ⟨oc,od,.func (PySem.W.fnOf d.name d.qual (L2.defArgs d.st) (L2.defBody d.st) (L2.defScope d.st) .none kV doc pm an cdv ct),osl⟩) (c:PySem.W.codeIn K cdv d.qual=true) (k:PySem.W.keepIn K (.ref f)=true) :
  ∃ fd,wW K d f fd:=⟨_,L2.fun_mk l c k,(L2.fun_mk l c k).binds p⟩
section
variable {K:PySem.W.Frag}{mg:Str->Option Value}{xl:List Nat}{ds:List Df}{h:Heap}{x:Str}
theorem qQ(X:K.In h)(Gm:h.Ns mainGlobals mg)(hd:ds[i]?=some d)(a:PySem.W.nsIn K mainGlobals x=some (some (.ref f)))(D:∃ fd,wW K d f fd):GlP K mg xl ds x (.fn i):=by
 obtain ⟨fd,D⟩:=D
 exact⟨d,f,fd,hd,PySem.W.mg_of X Gm a,D⟩
theorem aP(X:K.In h)(Gm:h.Ns mainGlobals mg)(hd:ds[i]?=some d)(hx:qD c=x)(a:PySem.W.nsIn K mainGlobals x=some (some (.ref C)))(q:L2.Cls K C)(m:L2.Mk K C f)(D:∃ fd,wW K d f fd):GlP K mg xl ds x (.cls c i):=by
 obtain ⟨fd,D⟩:=D
 exact⟨C,d,f,fd,PySem.W.mg_of X Gm a,(by unfold zW;rw[hx];exact a),q,m,hd,D⟩
theorem vX(X:K.In h)(Gm:h.Ns mainGlobals mg)(hc:xl.contains c=true)(hx:qD c=x)(a:PySem.W.nsIn K mainGlobals x=some (some (.ref C)))(e:yJ K C=true):GlP K mg xl ds x (.exc c):=
 ⟨C,PySem.W.mg_of X Gm a,eM hc hx a,e⟩
theorem zP(X:K.In h)(Gm:h.Ns mainGlobals mg)(a:PySem.W.nsIn K mainGlobals x=some (some (.int n t))):GlP K mg xl ds x (.con (.int n)):=⟨.int _,_,PySem.W.mg_of X Gm a,⟨_,rfl⟩,fun _ _ _=>rfl⟩
theorem kE(X:K.In h)(Gm:h.Ns mainGlobals mg)(a:PySem.W.nsIn K mainGlobals x=some none):GlP K mg xl ds x .blt:=PySem.W.mg_none_of X Gm a
end
structure Top (K:PySem.W.Frag) (mg:Str->Option Value) (G:List (Str × GK)) (xs:List (Nat × List Nat)) (xl:List Nat) (Mt:List (Str × Nat × List (Nat × Nat))) (At:List (Str × Nat × List Nat)) (ds:List Df) (fns:List Fn):Prop where
 ok:∀ (i:Nat) (d:Df) (f:Fn),ds[i]?=some d->fns[i]?=some f->DfOk G xs Mt At d f
 len:ds.length=fns.length
 gl:∀ x g,(x,g)∈G->GlP K mg xl ds x g
 mt:∀ m mk tb,(m,mk,tb)∈Mt->MtP K ds m mk tb
 at':∀ f kk cs,(f,kk,cs)∈At->AtP K f kk cs
 xm:∀ (i:Nat) (cs:List Nat) (C:Addr) (j:Nat) (D:Addr),(i,cs)∈xs->jD K xl i=some C->jD K xl j=some D->PySem.W.exmOne K (.ref D) (.ref C)=some (cs.contains j)
 xk:∀ (i:Nat) (cs:List Nat),(i,cs)∈xs->xl.contains i=true->cs.contains i=true
 xl1:∀ (cs:List Nat),(1,cs)∈xs->cs=xl
 xv:∀ (cs:List Nat) (j:Nat) (D:Addr),(0,cs)∈xs->jD K xl j=some D->PySem.W.exmOne K (.ref D) (.type "ValueError")=some (cs.contains j)
 xg:∀ (j:Nat) (D:Addr),jD K xl j=some D->XGet K D
section
variable {K:PySem.W.Frag}{mg:Str->Option Value}{xl:List Nat}{ds:List Df}{h:Heap}{x:Str}
theorem df_mk'(p:qG d)(hn:d.name=nm)(hq:d.qual=ql)
  (l:K.lookup f=some ⟨oc,od,.func (PySem.W.fnOf nm ql (L2.defArgs d.st) (L2.defBody d.st) (L2.defScope d.st) .none kV doc pm an cdv ct),osl⟩) (c:PySem.W.codeIn K cdv ql=true) (k:PySem.W.keepIn K (.ref f)=true):∃ fd,wW K d f fd:=by
 subst hn hq;exact qPf p l c k
theorem qOh(X:K.In h)(Gm:h.Ns mainGlobals mg)(hz:z=⟨tx.toArray⟩)(a:PySem.W.nsIn K mainGlobals x=some (some (.str z t))):GlP K mg xl ds x (.con (.str tx)):=⟨.str z,_,PySem.W.mg_of X Gm a,⟨_,rfl⟩,fun _ _ _=>by rw[hz];rfl⟩
theorem gM {P:Prop} (X:K.In h) (a:PySem.W.nsIn K mainGlobals x=some (some (.ref C))) (b:PySem.W.plainGet K C Str.empty=true) (c:PySem.W.hasDictIn K C=true) (d:PySem.W.plainOver K C=true) (e:PySem.W.findIn K (.ref C) "__setattr__"=some (some (.builtin "object.__setattr__"))) (k:PySem.W.nsIn K mainGlobals x=some (some (.ref C))->L2.Cls K C->P):P:=k a ⟨b,c,d,e⟩
theorem vL {P:Prop} (X:K.In h) (a:PySem.W.nsIn K mainGlobals x=some (some (.ref C))) (b:PySem.W.excIn K C [.type "ValueError",.type "Exception",.type "BaseException",.type "object"] "ValueError.__new__"=true) (k:PySem.W.nsIn K mainGlobals x=some (some (.ref C))->yJ K C=true->P):P:=k a b
theorem mt_nil(h1:qD mk=m)(h2:mk<256 ^ 60):MtP K ds m mk []:=⟨h1.symm,h2,fun _ _ _ z=>by cases z⟩
theorem mt_cons(hx:qD c=x)(hn:PySem.W.nsIn K mainGlobals x=some (some (.ref C)))(h3:L2.Cls K C)(hm:L2.Meth K C m f)(hd:ds[i]?=some d)(D:∃ fd,wW K d f fd)(r:MtP K ds m mk tb):MtP K ds m mk ((c,i)::tb):=
 ⟨r.1,r.2.1,fun cc fi E ht hE=>by
  unfold tbN at ht;split at ht
  ·rename_i q;have q:c=cc:=by simpa using q
   subst q;cases ht;cases aY hE hx hn;obtain ⟨fd,D⟩:=D
   exact⟨h3,d,f,fd,hm,hd,D⟩
  ·exact r.2.2 cc fi E ht hE⟩
theorem at_nil(h1:qD kk=f)(h2:kk<256 ^ 60):AtP K f kk []:=⟨h1.symm,h2,fun _ _ z=>by cases z⟩
theorem at_cons(hx:qD c=x)(hn:PySem.W.nsIn K mainGlobals x=some (some (.ref C)))(h3:PySem.W.findIn K (.ref C) f=some none)(r:AtP K f kk cs):AtP K f kk (c::cs):=
 ⟨r.1,r.2.1,fun cc D hc hD=>by
  rw[List.contains_cons,Bool.or_eq_true] at hc;rcases hc with e | e
  ·have e:cc=c:=by simpa using e
   subst e;cases aY hD hx hn;unfold L2.NoAttr;rw[<- r.1];exact h3
  ·exact r.2.2 cc D e hD⟩
def XsP(K:PySem.W.Frag)(C:Addr)(cs:List Nat)(j:Nat):Prop:=∀ D,zW K j D->PySem.W.subIn K (.ref D) (.ref C)=some (cs.contains j)
theorem xs_mk{D:Addr}(hx:qD j=x)(a:PySem.W.nsIn K mainGlobals x=some (some (.ref D)))(hb:cs.contains j=b)(hs:PySem.W.subIn K (.ref D) (.ref C)=some b):XsP K C cs j:=fun E hE=>by
 cases aY hE hx a;rw[hb];exact hs
def XmP(K:PySem.W.Frag)(xl:List Nat)(i:Nat)(cs:List Nat):Prop:=∀ C,jD K xl i=some C->∀ j D,jD K xl j=some D->PySem.W.exmOne K (.ref D) (.ref C)=some (cs.contains j)
theorem xm_mk (hx:qD i=x) (a:PySem.W.nsIn K mainGlobals x=some (some (.ref C))) (hc:PySem.W.isClsIn K C=true) (ht:PySem.W.typeIn K (.ref C)=some (.type "type")) (hb:PySem.W.subIn K (.ref C) (.type "BaseException")=some true) (r:AllP (XsP K C cs) xl):XmP K xl i cs:=fun E hE j D hD=>by
 cases aY (gA hE).2 hx a;obtain ⟨hj,hD⟩:=gA hD;exact qO1 hc ht hb (r.of hj D hD)
def XgP(K:PySem.W.Frag)(j:Nat):Prop:=∀ D,zW K j D->XGet K D
theorem vK(hx:qD j=x)(a:PySem.W.nsIn K mainGlobals x=some (some (.ref C)))(g:XGet K C):XgP K j:=fun D hD=>by
 cases aY hD hx a;exact g
theorem qHU{G:List (Str × GK)}{xs:List (Nat × List Nat)}{Mt:List (Str × Nat × List (Nat × Nat))}{At:List (Str × Nat × List Nat)}{fns:List Fn}(ok:AllZ (fun d f=>DfOk G xs Mt At d f) ds fns)(len:ds.length=fns.length)(gl:AllP (fun p:Str × GK=>GlP K mg xl ds p.1 p.2) G)
  (mt:AllP (fun p:Str × Nat × List (Nat × Nat)=>MtP K ds p.1 p.2.1 p.2.2) Mt) (at':AllP (fun p:Str × Nat × List Nat=>AtP K p.1 p.2.1 p.2.2) At) (xm:AllP (fun p:Nat × List Nat=>XmP K xl p.1 p.2) xs) (xk:xs.all (fun p=>!xl.contains p.1 || p.2.contains p.1)=true) (xl1:xs.all (fun p=>decide (p.1≠1) || decide (p.2=xl))=true)
  (xv:xs.all (fun p=>decide (p.1≠0))=true) (xg:AllP (XgP K) xl):Top K mg G xs xl Mt At ds fns where
 ok:=fun _ _ _ hd hf=>ok.of hd hf
 len:=len
 gl:=fun _ _ hg=>gl.of hg
 mt:=fun _ _ _ hm=>mt.of hm
 at':=fun _ _ _ hf=>at'.of hf
 xm:=fun _ _ C j D hi hC hD=>xm.of hi C hC j D hD
 xk:=fun i cs hi hx=>by
  have:=List.all_eq_true.mp xk _ hi
  rw[show xl.contains (i,cs).1=true from hx] at this;exact this
 xl1:=fun cs hi=>by
  have:=List.all_eq_true.mp xl1 _ hi
  simpa using this
 xv:=fun cs j D hi _=>by
  have:=List.all_eq_true.mp xv _ hi
  simp at this
 xg:=fun j D hD=>xg.of (gA hD).1 D (gA hD).2
end
theorem lookup_mem'{α β:Type}[BEq α][LawfulBEq α]{l:List (α × β)}{x:α}{g:β}(h:l.lookup x=some g):(x,g)∈l:=by
 induction l with
 |nil=>cases h
 |cons p l ih=>
  obtain ⟨a,b⟩:=p;rw[List.lookup_cons] at h;cases q:(x == a) with
  |true=>
   rw[q] at h;cases h
   have:x=a:=by simpa using q
   subst this;exact List.mem_cons_self ..
  |false=>rw[q] at h;exact List.mem_cons_of_mem _ (ih h)
theorem PostS.fin{K:PySem.W.Frag}(p:PostV K w Q Y H (fin r)):PostS K (fun c _ H'=>w c H') { nx:=fun _ H'=>Q .non H',rt:=Q } Y H r:=by
 cases r with
 |nx e h=>exact fun Y' H' st e' r' s'=>p Y' H' e' r' .non rfl
 |rt d h=>exact fun Y' H' v e' r' hv=>p Y' H' e' r' v hv
 |bk e h=>cases p
 |ct e h=>cases p
 |exc c e h=>exact fun Y' H' st e' r' s'=>p Y' H' e' r'
 |bad=>cases p
theorem PSs.wish{st:List Stmt}(h:PSs (X.wish E) st t)(hE:∀ e s,E e s->X.xe e s):PSs X st t:=fun pins s U H D I hw=>
 wpAny_mono (h pins s U H D (I.wish _) hw) (fun _ _ q=>q.unwish) hE
theorem RepS.start{K:PySem.W.Frag}(l:RepL K Y H ds vs)(hn:n=N.length-vs.length):RepS K Y H (ds.map some++List.replicate n none) (L2.start N vs):=by
 subst hn;unfold L2.start;refine⟨by simp[l.length],fun i d hi=>?_⟩
 by_cases hlt:i<ds.length
 ·rw[List.getElem?_append_left (by simpa using hlt),List.getElem?_map] at hi;cases q:ds[i]? with
  |none=>rw[q] at hi;cases hi
  |some d'=>rw[q] at hi;cases hi;obtain ⟨v,h1,h2⟩:=l.get q;refine⟨v,?_,h2⟩;rw[List.getElem?_append_left (by simpa [l.length] using hlt),List.getElem?_map,h1];rfl
 ·rw[List.getElem?_append_right (by simpa using hlt),List.getElem?_replicate] at hi;split at hi <;> cases hi
def qFM(X0:Cx)(ex:Nat->Option Addr)(E:XK):Value->Shared->Prop:=fun e s'=>
 (∃ pins U H1 s1,Inv X0 pins U H1 s1/\CXD X0.prog X0.w ex X0.stack H1 s1 (fun _ co H'=>∃ c,co=some c/\∀ e,E e (some c) H') e s') \/
 (∃ pins U H1 s1 a args h' c C,ex c=some C/\Inv X0 pins U H1 s1/\Heap.MadeExcOf s1.heap h' a (.ref C) args/\(∀ e,E e (some c) H1)/\e=.ref a/\s'={ s1 with heap:=h' })
theorem eI{K:PySem.W.Frag}(T:Top K mg G xs xl Mt At ds fns) :
  ∀ (n i:Nat) (d:Df) (f:Addr) (fd:FuncData),ds[i]?=some d->L2.Fun K d.name d.qual d.st f fd->L2.FnOk P w K mg base (CXD P w (jD K xl)) (2*n) f fd d.ps (spD K (qA fns B n i))
 |0,i,d,f,fd,hi,hf=>by
  refine⟨fun vs H Q E h=>?_,fun A outer s H args us vs Q E hr he hb hv h=>?_⟩
  ·obtain ⟨Y,h0,ds,_,_,p⟩:=h;cases p
  ·obtain ⟨Y,h0,ds,_,_,p⟩:=h;cases p
 |n+1,i,d,f,fd,hi,hf=>by
  have hil:=(List.getElem?_eq_some_iff.mp hi).1;have hfi:fns[i]?=some (fns[i]'(by rw[<- T.len];exact hil)):=List.getElem?_eq_getElem _;generalize fns[i]'(by rw[<- T.len];exact hil)=fn at hfi;have O:=T.ok i d fn hi hfi
  have key:∀ {ds:List D} {h:AH},qA fns B (n+1) i ds h=lC (qA fns B n) B fn ds h:=by
   intro ds h;rw[qA,hfi]
  have arity:∀ {w:W1} {Q:VK} {Y:List Addr} {H:Hp} {ds:List D} {h:AH},PostV K w Q Y H (qA fns B (n+1) i ds h)->ds.length=fn.ar/\PostV K w Q Y H (fin (qB (qA fns B n) B fn.body (ds.map some++List.replicate (fn.sl-fn.ar) none) h)):=by
   intro w Q Y H ds h p;rw[key,lC] at p;exact PostV.ite p
  obtain ⟨oc,od,kV,doc,pm,an,cdv,ct,osl,rfl,lk,hcd⟩:=hf.ex;refine L2.fn_of lk hcd O.sc (fun vs H Q E h=>?_) fun A outer s H vs Q E hr h=>?_
  ·obtain ⟨Y,h0,ds,_,l,p⟩:=h;rw[l.length,(arity p).1,O.ar]
  ·obtain ⟨Y,h0,ds',r,l,p⟩:=h;obtain ⟨ha,p⟩:=arity p;refine⟨tDS K (fun c _ H'=>∀ e,E e (some c) H') (qB (qA fns B n) B fn.body),?_,Y,ds'.map some++List.replicate (fn.sl-fn.ar) none,h0,RepS.start l (by rw[O.sl,l.length,ha]),r,PostS.fin p⟩;refine PSs.wish (E:=qFM (cxX (jD K xl) P w K mg base d.N d.qual (L2.defScope d.st) f cdv A outer s H E) (jD K xl) E) ?_ fun e s' z=>?_
   ·have T':BodyS ((cxX (jD K xl) P w K mg base d.N d.qual (L2.defScope d.st) f cdv A outer s H E).wish (qFM (cxX (jD K xl) P w K mg base d.N d.qual (L2.defScope d.st) f cdv A outer s H E) (jD K xl) E)) ⟨d.N,L2.defScope d.st,G,xs,true,true,Mt,At⟩ (qA fns B n) (2*n) (jD K xl) (fun c _ H'=>∀ e,E e (some c) H'):=by
     refine⟨⟨rfl,O.sc.nd,rfl,fun _=>rfl,fun _=>hr,hr.units,fun x g hg=>?_,fun i cs xl' C j D h h1 hC hD hj=>?_,fun cs xl' j D h h1 hD hj=>?_,fun m mk tb hm=>?_,fun f kk cs hf=>T.at' f kk cs (lookup_mem' hf),fun xl' j D h1 hD hj=>?_,fun pins U H1 s1 e s' I x=>.inl ⟨pins,U,H1,s1,I.unwish,x⟩⟩,fun _=>rfl,⟨rfl,rfl⟩,rfl,fun i C h=>(gA h).2,fun _ pins U H1 s1 a args h' c C hc I m hw=>.inr ⟨pins,U,H1,s1,a,args,h',c,C,hc,I.unwish,m,hw,rfl,rfl⟩,fun i cs C j D h=>T.xm i cs C j D (lookup_mem' h)⟩
     ·have gm:=T.gl x g (lookup_mem' hg);cases g with
      |fn j=>
       obtain ⟨d',f',fd',hd',hm,hF,hB⟩:=gm
       exact⟨f',fd',d'.ps,hm,hF.kp,hB,eI T n j d' f' fd' hd' hF⟩
      |con e=>
       obtain ⟨v,u,h1,h2,h3⟩:=gm
       exact⟨v,u,h1,h2,fun Y H=>h3 _ Y H⟩
      |blt=>exact gm
      |exc c=>exact gm
      |cls c j=>
       obtain ⟨C,d',f',fd',hm,h1,h2,h3,hd',hF,hB⟩:=gm
       exact⟨C,f',fd',d'.ps,hm,h1,h2,h3,hB,eI T n j d' f' fd' hd' hF⟩
     ·have e:=T.xl1 _ (lookup_mem' h1);subst e;have hD':=eM hj rfl hD;have q1:=T.xm i cs C j D (lookup_mem' h) hC hD';refine qDh q1 fun z=>?_;have e:D=C:=Value.ref.inj (beq_iff_eq.mp z);subst e;have q2:=T.xm i cs D i D (lookup_mem' h) hC hC;rw[T.xk i cs (lookup_mem' h) (by simpa using (gA hC).1)] at q2;exact Option.some.inj (q1.symm.trans q2)
     ·have e:=T.xl1 _ (lookup_mem' h1);subst e;exact qDh (T.xv cs j D (lookup_mem' h) (eM hj rfl hD)) fun z=>by cases beq_iff_eq.mp z
     ·obtain ⟨m1,m2,m3⟩:=T.mt m mk tb (lookup_mem' hm);refine⟨m1,m2,fun cc fi C ht hC=>?_⟩;obtain ⟨k1,d',f',fd',k2,k3,k4,k5⟩:=m3 cc fi C ht hC
      exact⟨k1,f',fd',d'.ps,k2,k5,eI T n fi d' f' fd' k3 k4⟩
     ·have e:=T.xl1 _ (lookup_mem' h1);subst e;exact T.xg j D (eM hj rfl hD)
    exact (qGc 100).ss _ _ _ T' _ _ O.cp
   ·rcases z with⟨pins,U,H1,s1,I,x⟩ | ⟨pins,U,H1,s1,a,args,h',c,C,hc,I,m,hw,rfl,rfl⟩
    ·exact qMY (W:=fun c _ H'=>∀ e,E e (some c) H') (fun _ _ _ z=>z) I x
    ·exact qMX (W:=fun c _ H'=>∀ e,E e (some c) H') (fun _ _ _ z=>z) I hc m hw
theorem qMb{K:PySem.W.Frag}(hm:∀ ns:List Int,ns.length<=63->∃ h',m [.ref 0] [.rol (ns.map .int)]=.ok (.bl true) h')(H:Hp)(a:Addr)(ns:List Int)(hl:ns.length<=63)(hO:L2.Only H)(hS:SqL K H a (ns.map V.int)) :
  spD K m [.ref a] H (fun v _=>v=.bl true) E:=by
 have hr:∀ ns:List Int,RepL K [a] H (ns.map .int) (ns.map V.int):=fun ns=>by
  induction ns with
  |nil=>rfl
  |cons x ns ih=>exact⟨_,_,rfl,rfl,ih⟩
 refine⟨[a],[.rol (ns.map .int)],[.ref 0],⟨rfl,fun i o hi=>?_,fun i j b o1 o2 hi hj m1 m2 _ _=>?_⟩,⟨.ref a,[],rfl,⟨a,rfl,rfl⟩,rfl⟩,?_⟩
 ·cases i with
  |succ i=>simp at hi
  |zero=>
   cases hi;refine⟨a,rfl,ns.map V.int,?_,hr ns⟩;rcases hS with (h | ⟨o,h⟩) | h
   ·rcases hO a with z | ⟨o,xs,z⟩
    ·rw[h] at z;cases z
    ·rw[h] at z;cases z
   ·exact .inl ⟨o,h⟩
   ·exact .inr h
 ·cases i with
  |succ i=>simp at hi
  |zero=>cases hi;cases m1
 ·obtain ⟨h',e⟩:=hm ns hl;rw[e];exact fun Y' H' _ _ v hv=>hv
theorem walk{l:PySem.W.OpenLaw}{K:Params->PySem.W.Frag}
  (hn:l.most=some 63) (hdf:dr.params.defaults=[]) (hi:ds[i]?=some d) (hG:(dr.name,GK.fn i)∈G) (hq:d.qual=d.name) (hps:d.ps=[x])
  (hY:∀ (w:World) (h:Heap),YP w h->(K w.params).In h)
  (T:∀ (w:World) (mg:Str->Option Value) (h:Heap),(K w.params).In h->h.Ns mainGlobals mg->Top (K w.params) mg G xs xl Mt At ds fns)
  (hm:∀ ns:List Int,ns.length<=63->∃ h',qA fns B 40 i [.ref 0] [.rol (ns.map .int)]=.ok (.bl true) h')
  (hbnd:∀ (fd:FuncData) (f:Addr) (K:PySem.W.Frag),L2.Fun K d.name d.name d.st f fd->∀ (s:Shared) (u:Value),BindsTo s fd ⟨[u],[]⟩ [(x,u)]) :
  PySem.W.WalkO q loose XP YP l.row.toRowW dr [] (fun f vs=>PySem.call f vs):=by
 refine L2.walk_of (n:=63) (k:=80) (x:=x) (K:=K) (CX:=fun w=>CXD l.prog w (jD (K w.params) xl)) (sp:=fun w=>spD (K w.params) (qA fns B 40 i)) hn (by decide) hdf ⟨rfl,by decide,by decide⟩ hY (fun w mg fa h KX Gm hmg=>?_) (fun w H a ns hl hO hS=>qMb hm H a ns hl hO hS) fun w H s e s' z=>?_
 ·have T':=T w mg h KX Gm;obtain ⟨d',f,fd,h0,h1,h2,h3⟩:=T'.gl _ _ hG;rw[hi] at h0;cases h0;rw[h1] at hmg;cases hmg;refine⟨fd,hbnd fd _ _ (hq ▸ h2),fun base kb nb=>?_⟩
  have:=eI (P:=l.prog) (w:=w) (base:=base) (B:=B) T' 40 i d _ fd hi h2
  rw[hps] at this;exact this
 ·obtain ⟨_,_,_,_,_,_,_,_,_,_,_,_,_,_,q⟩:=z;exact q
end Fy
namespace Lk40
open Fy PySem

abbrev _root_.Fy.CE.n(i:Int):CE:=.lit (.int i)
abbrev FE:List Nat:=[332437021739526678278002,91742370622580,22077439339750245,86240048210286,5651827816973820269,86240599565684,73059263014254,298204816740,23766421875286888]
abbrev bR:Nat:=86240048210286
abbrev gL:Nat:=298204816740
abbrev iG:Nat:=23766421875286888
abbrev qF:Nat:=306712044914
abbrev zQ:Nat:=21785059625889383
abbrev zC:Nat:=1215263604
abbrev kR:Nat:=1836020596
abbrev dH:Nat:=1952807028
abbrev dL:Nat:=1936027252
abbrev dQ:Nat:=1668246885
abbrev dM:Nat:=465625246068
abbrev dI:Nat:=495806672499
abbrev dN:Nat:=7598521885552567652
abbrev mL:Nat:=127482042954642681340718708
abbrev mK:Nat:=7598521898286281316
abbrev dO:Nat:=29681726098730597
abbrev qDi:Nat:=1835626085
abbrev mI:Nat:=521561010803
abbrev mJ:Nat:=115944243160436
abbrev vT:Nat:=1919905645
abbrev wM:Nat:=108256335193460
abbrev yH:Nat:=1818846821
abbrev uN:Nat:=30792258880630375
abbrev uO:Nat:=113702655586931
abbrev aL:Nat:=127961762460275
abbrev dJ:Nat:=2128684475675056370548
def qTN:CT:=(.val (.lit (.bl true)))
def qTO:CS:=(.whil qTN .skip)
def qF5:CS:=(.set (.nm 3) (.bi .add (.var 5) (.n 1)))
def qF4:CS:=(.set (.nm 4) (.var 5))
def qAl:CS:=(.seq (.set (.nm 5) (.bi .fdiv (.bi .add (.var 3) (.var 4)) (.n 2))) (.ite (.val (.bi .lt (.bi .ix (.bi .ix (.var 0) (.var 5)) (.var 1)) (.var 2))) qF5 qF4))
def qAk:CT:=(.val (.bi .lt (.var 3) (.var 4)))
def qF3:CS:=(.ret (.var 3))
def qAm:CS:=(.seq (.set (.nm 3) (.n 0)) (.seq (.set (.nm 4) (.un .len (.var 0))) (.seq (.whil qAk qAl) qF3)))
def qAo:CS:=(.ite (.val (.bi .lt (.var 0) (.n 0))) (.raise 86240048210286) .skip)
def bH:CS:=(.seq (.exp (.call 2 (.cons (.var 0) .nil))) (.ite (.val (.bi .gt (.var 0) (.var 1))) (.raise 86240048210286) .skip))
def qGE:CS:=(.seq (.set (.nm 1) (.bi .min2 (.var 1) (.bi .ix (.bi .ix (.var 0) (.var 3)) (.n 0)))) (.set (.nm 2) (.bi .max2 (.var 2) (.bi .ix (.bi .ix (.var 0) (.bi .sub (.var 4) (.n 1))) (.n 1)))))
def qAt:CS:=(.ret (.bi .add (.bi .add (.sl (.var 0) .no (.at (.var 3))) (.tup (.cons (.tup (.cons (.var 1) (.cons (.var 2) .nil))) .nil))) (.sl (.var 0) (.at (.var 4)) .no)))
def qGD:CS:=(.seq (.set (.nm 3) (.call 1 (.cons (.var 0) (.cons (.n 1) (.cons (.var 1) .nil))))) (.seq (.set (.nm 4) (.call 1 (.cons (.var 0) (.cons (.n 0) (.cons (.bi .add (.var 2) (.n 1)) .nil))))) (.seq (.ite (.val (.bi .lt (.var 3) (.var 4))) qGE .skip) qAt)))
def fT:CS:=(.seq (.exp (.call 3 (.cons (.var 1) (.cons (.var 2) .nil)))) (.seq (.ite (.val (.bi .eq (.var 1) (.var 2))) (.ret (.var 0)) .skip) qGD))
def qAj:CS:=(.ret (.var 2))
def fP:CS:=(.seq (.exp (.call 2 (.cons (.var 1) .nil))) (.seq (.set (.nm 2) (.sl (.var 0) (.at (.call 1 (.cons (.var 0) (.cons (.n 1) (.cons (.bi .add (.var 1) (.n 1)) .nil))))) .no)) (.seq (.ite (.and (.val (.bi .gt (.un .len (.var 2)) (.n 0))) (.val (.bi .lt (.bi .ix (.bi .ix (.var 2) (.n 0)) (.n 0)) (.var 1)))) (.ret (.bi .add (.tup (.cons (.tup (.cons (.var 1) (.cons (.bi .ix (.bi .ix (.var 2) (.n 0)) (.n 1)) .nil))) .nil)) (.sl (.var 2) (.at (.n 1)) .no))) .skip) qAj)))
def qF0:CS:=(.exp (.me .append (.var 3) (.tup (.cons (.var 4) (.cons (.bi .ix (.var 5) (.n 0)) .nil)))))
def qAf:CS:=(.set (.nm 4) (.bi .ix (.var 5) (.n 1)))
def qFz:CS:=(.seq (.ite (.val (.bi .gt (.bi .ix (.var 5) (.n 0)) (.var 4))) qF0 .skip) qAf)
def qAe:CS:=(.seq (.ite (.val (.bi .ge (.bi .ix (.var 5) (.n 0)) (.var 2))) .brk .skip) qFz)
def qFy:CS:=(.exp (.me .append (.var 3) (.tup (.cons (.var 4) (.cons (.var 2) .nil)))))
def qAd:CS:=(.ret (.un .tuple (.var 3)))
def qAc:CS:=(.seq (.ite (.val (.bi .lt (.var 4) (.var 2))) qFy .skip) qAd)
def qAg:CS:=(.seq (.exp (.call 3 (.cons (.var 1) (.cons (.var 2) .nil)))) (.seq (.set (.nm 3) (.lst .nil)) (.seq (.set (.nm 4) (.var 1)) (.seq (.fori (.nm 5) (.of (.call 5 (.cons (.var 0) (.cons (.var 1) .nil)))) qAe) qAc))))
def qBU:CS:=(.seq (.setF (.var 0) 1836020596 [306712044914,1215263604] (.var 1)) (.seq (.setF (.var 0) 1952807028 [306712044914,358300611685,362411681138] (.lit (.str []))) (.seq (.setF (.var 0) 1936027252 [306712044914] (.n 0)) (.seq (.setF (.var 0) 1668246885 [306712044914] (.n 0)) (.seq (.setF (.var 0) 465625246068 [306712044914,362411681138] (.n 1)) (.seq (.setF (.var 0) 495806672499 [306712044914,358300611685] (.tup .nil)) (.seq (.setF (.var 0) 7598521885552567652 [306712044914] (.lit (.bl false))) (.seq (.setF (.var 0) 127482042954642681340718708 [306712044914] (.lit (.bl false))) (.seq (.setF (.var 0) 7598521898286281316 [306712044914] (.lit (.bl false))) (.setF (.var 0) 29681726098730597 [306712044914,362411681138] (.lit (.bl false))))))))))))
def qGQ:CS:=(.setF (.var 0) 1952807028 [306712044914,358300611685,362411681138] (.bi .add (.un (.fld 1952807028) (.var 0)) (.var 1)))
def qGP:CS:=(.seq (.ite (.val (.bi .gt (.bi .add (.un .len (.un (.fld 1952807028) (.var 0))) (.un .len (.var 1))) (.n 2000))) (.raise 23766421875286888) .skip) qGQ)
def qGO:CS:=(.seq (.ite (.not (.val (.chain .le .le (.n 1) (.un .len (.var 1)) (.n 200)))) (.raise 23766421875286888) .skip) qGP)
def qBL:CS:=(.seq (.ite (.val (.un (.fld 7598521885552567652) (.var 0))) (.raise 298204816740) .skip) qGO)
def qGa:CS:=(.setF (.var 0) 7598521885552567652 [306712044914] (.lit (.bl true)))
def qBV:CS:=(.seq (.ite (.val (.un (.fld 7598521885552567652) (.var 0))) (.raise 298204816740) .skip) qGa)
def qBW:CS:=(.seq (.setF (.var 0) 7598521898286281316 [306712044914] (.lit (.bl true))) (.seq (.setF (.var 0) 1668246885 [306712044914] (.bi .max2 (.un (.fld 1668246885) (.var 0)) (.var 1))) (.seq (.setF (.var 0) 465625246068 [306712044914,362411681138] (.bi .max2 (.un (.fld 465625246068) (.var 0)) (.var 2))) (.seq (.setF (.var 0) 495806672499 [306712044914,358300611685] (.meth 507330387524976831460456 [(306712044914,11)] (.var 0) (.cons (.var 3) .nil))) (.setF (.var 0) 29681726098730597 [306712044914,362411681138] (.and (.un (.fld 7598521885552567652) (.var 0)) (.bi .eq (.un (.fld 1668246885) (.var 0)) (.bi .add (.un .len (.un (.fld 1952807028) (.var 0))) (.n 1)))))))))
def wU:CS:=(.seq (.set (.nm 4) (.ite (.val (.un (.fld 7598521885552567652) (.var 0))) (.bi .add (.un .len (.un (.fld 1952807028) (.var 0))) (.n 1)) (.un .len (.un (.fld 1952807028) (.var 0))))) (.seq (.ite (.or (.val (.bi .gt (.var 1) (.var 4))) (.val (.bi .lt (.bi .add (.var 2) (.n 1)) (.var 1)))) .retN .skip) qBW))
def qGZ:CS:=(.set (.nm 2) (.call 4 (.cons (.var 2) (.cons (.var 4) (.cons (.var 5) .nil)))))
def iC:CS:=(.seq (.set (.nm 4) (.bi .max2 (.bi .ix (.var 3) (.n 0)) (.un (.fld 1668246885) (.var 0)))) (.seq (.set (.nm 5) (.bi .min2 (.bi .ix (.var 3) (.n 1)) (.un .len (.un (.fld 1952807028) (.var 0))))) (.ite (.val (.bi .lt (.var 4) (.var 5))) qGZ .skip)))
def qGY:CS:=(.ret (.var 2))
def qBT:CS:=(.seq (.set (.nm 2) (.call 5 (.cons (.un (.fld 495806672499) (.var 0)) (.cons (.un (.fld 1668246885) (.var 0)) .nil)))) (.seq (.fori (.nm 3) (.of (.var 1)) iC) qGY))
def qBR:CS:=(.exp (.me .append (.var 2) (.var 3)))
def bM:CS:=(.seq (.set (.nm 3) (.meth 2036453570056342827636 [(306712044914,13)] (.var 0) .nil)) (.seq (.ite (.val (.un .isN (.var 3))) .brk .skip) qBR))
def gK:CT:=(.val (.bi .lt (.un .len (.var 2)) (.var 1)))
def qGU:CS:=(.ret (.var 2))
def qBS:CS:=(.seq (.set (.nm 2) (.lst .nil)) (.seq (.whil gK bM) qGU))
def qGX:CS:=(.seq (.setF (.var 0) 1936027252 [306712044914] (.var 2)) (.ret (.tup (.cons (.lit (.str [100,97,116,97])) (.cons (.var 1) (.cons (.sl (.un (.fld 1952807028) (.var 0)) (.at (.var 1)) (.at (.var 2))) .nil))))))
def qGW:CS:=(.seq (.setF (.var 0) 127482042954642681340718708 [306712044914] (.lit (.bl true))) (.ret (.tup (.cons (.lit (.str [101,110,100])) (.cons (.var 1) .nil)))))
def iA:CS:=(.ret (.lit .non))
def qGV:CS:=(.seq (.ite (.and (.val (.un (.fld 7598521885552567652) (.var 0))) (.and (.not (.val (.un (.fld 127482042954642681340718708) (.var 0)))) (.val (.bi .eq (.var 1) (.un .len (.un (.fld 1952807028) (.var 0))))))) qGW .skip) iA)
def iB:CS:=(.seq (.set (.nm 1) (.un (.fld 1936027252) (.var 0))) (.seq (.set (.nm 2) (.bi .min2 (.bi .min2 (.bi .add (.var 1) (.un (.fld 1836020596) (.var 0))) (.un (.fld 465625246068) (.var 0))) (.un .len (.un (.fld 1952807028) (.var 0))))) (.seq (.ite (.val (.bi .lt (.var 1) (.var 2))) qGX .skip) qGV)))
def qBX:CS:=(.ret (.sl (.meth 135859872665656628713974126 [(306712044914,15)] (.var 0) .nil) .no (.at (.var 1))))
def qGT:CS:=(.ret (.lst .nil))
def qBP:CS:=(.seq (.ite (.or (.val (.bi .lt (.un (.fld 1936027252) (.var 0)) (.un .len (.un (.fld 1952807028) (.var 0))))) (.not (.val (.un (.fld 7598521898286281316) (.var 0))))) (.ret (.lst (.cons (.tup (.cons (.lit (.str [100,97,116,97])) (.cons (.un (.fld 1936027252) (.var 0)) (.cons (.lit (.str [])) .nil)))) .nil))) .skip) qGT)
def qGS:CS:=(.seq (.ite (.and (.val (.un (.fld 127482042954642681340718708) (.var 0))) (.not (.val (.un (.fld 29681726098730597) (.var 0))))) (.ret (.lst (.cons (.tup (.cons (.lit (.str [101,110,100])) (.cons (.un .len (.un (.fld 1952807028) (.var 0))) .nil))) .nil))) .skip) qBP)
def qBQ:CS:=(.seq (.set (.nm 1) (.meth 2279350429444218050288784390251891 [(306712044914,16)] (.var 0) .nil)) (.seq (.ite (.val (.bi .gt (.un .len (.var 1)) (.n 0))) (.ret (.var 1)) .skip) qGS))
def qBN:CS:=(.exp (.me .append (.var 1) (.tup (.cons (.lit (.str [100,97,116,97])) (.cons (.var 3) (.cons (.sl (.un (.fld 1952807028) (.var 0)) (.at (.var 3)) (.at (.bi .min2 (.bi .add (.var 3) (.un (.fld 1836020596) (.var 0))) (.bi .ix (.var 2) (.n 1))))) .nil))))))
def qBM:CS:=(.fori (.nm 3) (.rng3 (.bi .ix (.var 2) (.n 0)) (.bi .ix (.var 2) (.n 1)) (.un (.fld 1836020596) (.var 0))) qBN)
def qGR:CS:=(.ret (.var 1))
def qBO:CS:=(.seq (.set (.nm 1) (.lst .nil)) (.seq (.fori (.nm 2) (.of (.call 6 (.cons (.un (.fld 495806672499) (.var 0)) (.cons (.un (.fld 1668246885) (.var 0)) (.cons (.bi .max2 (.un (.fld 1668246885) (.var 0)) (.un (.fld 1936027252) (.var 0))) .nil))))) qBM) qGR))
def qAv:CS:=(.seq (.setF (.var 0) 1835626085 [21785059625889383] (.var 1)) (.seq (.setF (.var 0) 521561010803 [21785059625889383] (.n 0)) (.setF (.var 0) 115944243160436 [21785059625889383] (.lit (.bl false)))))
def qAx:CS:=(.seq (.setF (.var 0) 521561010803 [21785059625889383] (.var 2)) (.setF (.var 0) 115944243160436 [21785059625889383] (.lit (.bl false))))
def qAw:CS:=(.setF (.var 0) 115944243160436 [21785059625889383] (.lit (.bl true)))
def fW:CS:=(.ret (.tup (.cons (.var 4) (.cons (.var 5) .nil))))
def fV:CS:=(.seq (.set (.nm 5) (.bi .eq (.var 3) (.un (.fld 1835626085) (.var 0)))) (.seq (.ite (.val (.var 5)) qAw .skip) fW))
def fU:CS:=(.seq (.set (.nm 4) (.bi .gt (.var 2) (.un (.fld 521561010803) (.var 0)))) (.seq (.ite (.val (.var 4)) qAx .skip) fV))
def bI:CS:=(.seq (.set (.nm 2) (.bi .ix (.var 1) (.n 1))) (.seq (.set (.nm 3) (.bi .ix (.var 1) (.n 2))) (.seq (.ite (.or (.val (.bi .lt (.var 2) (.un (.fld 521561010803) (.var 0)))) (.val (.bi .gt (.var 3) (.un (.fld 1835626085) (.var 0))))) (.ret (.lit .non)) .skip) fU)))
def qTn:CS:=(.ret (.tup (.cons (.lit (.str [104,101,108,108,111])) (.cons (.un (.fld 1835626085) (.var 0)) (.cons (.n 0) .nil)))))
def qAu:CS:=(.ret (.tup (.cons (.lit (.str [104,101,108,108,111])) (.cons (.un (.fld 1835626085) (.var 0)) (.cons (.un (.fld 521561010803) (.var 0)) .nil)))))
def qAM:CS:=(.seq (.set (.nm 1) (.un .ord (.var 0))) (.ret (.and (.chain .le .le (.n 32) (.var 1) (.n 126)) (.bi .ne (.var 1) (.n 37)))))
def qAK:CE:=(.call 21 (.cons (.var 1) .nil))
def qAL:CS:=(.ret (.and (.un (.isi .str) (.var 0)) (.un .all (.comp qAK (.of (.var 0))))))
def qFr:CS:=(.ret (.chain .le .le (.var 1) (.var 0) (.var 2)))
def qAP:CS:=(.seq (.ite (.or (.val (.un (.isi .bool) (.var 0))) (.not (.val (.un (.isi .int) (.var 0))))) (.ret (.lit (.bl false))) .skip) qFr)
def fQ:CS:=(.set (.nm 1) (.bi .mod (.bi .sub (.bi .add (.bi .mul (.var 1) (.n 31)) (.un .ord (.var 2))) (.n 32)) (.n 9973)))
def qF6:CS:=(.ret (.var 1))
def qAn:CS:=(.seq (.set (.nm 1) (.n 7)) (.seq (.fori (.nm 2) (.of (.var 0)) fQ) qF6))
def qAi:CS:=(.ret (.un .str (.var 0)))
def qAT:CE:=(.bi .isin (.var 1) (.lit (.str [48,49,50,51,52,53,54,55,56,57])))
def qAS:CS:=(.ret (.un .all (.comp qAT (.of (.var 0)))))
def qFs:CS:=(.seq (.ite (.and (.val (.bi .eq (.bi .ix (.var 0) (.n 0)) (.lit (.str [48])))) (.val (.bi .gt (.un .len (.var 0)) (.n 1)))) (.ret (.lit (.bl false))) .skip) qAS)
def qAU:CS:=(.seq (.ite (.or (.not (.val (.un (.isi .str) (.var 0)))) (.not (.val (.chain .le .le (.n 1) (.un .len (.var 0)) (.n 13))))) (.ret (.lit (.bl false))) .skip) qFs)
def qFe:CS:=(.seq (.set (.nm 1) (.un .int (.var 0))) (.ret (.ite (.val (.bi .le (.var 1) (.n 1000000000000))) (.var 1) (.lit .non))))
def fH:CS:=(.seq (.ite (.not (.val (.call 26 (.cons (.var 0) .nil)))) (.ret (.lit .non)) .skip) qFe)
def qAQ:CS:=(.ret (.call 23 (.cons (.var 0) (.cons (.n 1) (.cons (.n 1000000000) .nil)))))
def qAN:CS:=(.ret (.call 23 (.cons (.var 0) (.cons (.n 0) (.cons (.n 1000000) .nil)))))
def tN:CS:=(.ret (.and (.call 28 (.cons (.bi .ix (.var 0) (.n 1)) .nil)) (.and (.call 28 (.cons (.bi .ix (.var 0) (.n 2)) .nil)) (.call 23 (.cons (.bi .ix (.var 0) (.n 3)) (.cons (.n 0) (.cons (.n 999) .nil)))))))
def qAR:CS:=(.ret (.and (.bi .eq (.un .len (.var 0)) (.n 3)) (.and (.call 28 (.cons (.bi .ix (.var 0) (.n 1)) .nil)) (.call 23 (.cons (.bi .ix (.var 0) (.n 2)) (.cons (.n 0) (.cons (.n 1000000000) .nil)))))))
def qFu:CS:=(.ret (.and (.bi .le (.un .len (.var 2)) (.n 40)) (.bi .le (.bi .add (.var 1) (.un .len (.var 2))) (.n 1000000))))
def qFt:CS:=(.seq (.set (.nm 1) (.bi .ix (.var 0) (.n 4))) (.seq (.set (.nm 2) (.bi .ix (.var 0) (.n 5))) (.seq (.ite (.or (.not (.val (.call 29 (.cons (.var 1) .nil)))) (.not (.val (.call 22 (.cons (.var 2) .nil))))) (.ret (.lit (.bl false))) .skip) qFu)))
def qAW:CS:=(.seq (.ite (.or (.val (.bi .ne (.un .len (.var 0)) (.n 6))) (.not (.val (.call 30 (.cons (.var 0) .nil))))) (.ret (.lit (.bl false))) .skip) qFt)
def qAV:CS:=(.ret (.and (.bi .eq (.un .len (.var 0)) (.n 5)) (.and (.call 30 (.cons (.var 0) .nil)) (.call 29 (.cons (.bi .ix (.var 0) (.n 4)) .nil)))))
def qFp:CS:=(.ret (.and (.call 29 (.cons (.bi .ix (.var 0) (.n 0)) .nil)) (.and (.call 29 (.cons (.bi .ix (.var 0) (.n 1)) .nil)) (.chain .lt .lt (.var 1) (.bi .ix (.var 0) (.n 0)) (.bi .ix (.var 0) (.n 1))))))
def qAJ:CS:=(.seq (.ite (.or (.not (.val (.un (.isi .tuple) (.var 0)))) (.val (.bi .ne (.un .len (.var 0)) (.n 2)))) (.ret (.lit (.bl false))) .skip) qFp)
def qGB:CS:=(.set (.nm 1) (.bi .ix (.var 2) (.n 1)))
def fS:CS:=(.seq (.ite (.not (.val (.call 34 (.cons (.var 2) (.cons (.var 1) .nil))))) (.ret (.lit (.bl false))) .skip) qGB)
def qGA:CS:=(.ret (.lit (.bl true)))
def qF9:CS:=(.seq (.fori (.nm 2) (.of (.var 0)) fS) qGA)
def qAr:CS:=(.seq (.ite (.or (.not (.val (.un (.isi .tuple) (.var 0)))) (.val (.bi .gt (.un .len (.var 0)) (.n 8)))) (.ret (.lit (.bl false))) .skip) qF9)
def qFw:CS:=(.ret (.call 35 (.cons (.bi .ix (.var 0) (.n 6)) (.cons (.bi .ix (.var 0) (.n 4)) .nil))))
def qFv:CS:=(.seq (.ite (.or (.not (.val (.call 23 (.cons (.bi .ix (.var 0) (.n 4)) (.cons (.n 0) (.cons (.n 1000001) .nil)))))) (.not (.val (.call 23 (.cons (.bi .ix (.var 0) (.n 5)) (.cons (.n 0) (.cons (.n 1000200) .nil))))))) (.ret (.lit (.bl false))) .skip) qFw)
def qAX:CS:=(.seq (.ite (.or (.val (.bi .ne (.un .len (.var 0)) (.n 7))) (.not (.val (.call 30 (.cons (.var 0) .nil))))) (.ret (.lit (.bl false))) .skip) qFv)
def qFq:CS:=(.ret (.and (.bi .eq (.var 1) (.lit (.str [97,110,115,119,101,114]))) (.call 36 (.cons (.var 0) .nil))))
def qAO:CS:=(.seq (.ite (.val (.bi .eq (.var 1) (.lit (.str [101,110,100])))) (.ret (.call 33 (.cons (.var 0) .nil))) .skip) qFq)
def fN:CS:=(.seq (.ite (.val (.bi .eq (.var 1) (.lit (.str [100,97,116,97])))) (.ret (.call 32 (.cons (.var 0) .nil))) .skip) qAO)
def bG:CS:=(.seq (.ite (.val (.bi .eq (.var 1) (.lit (.str [104,101,108,108,111])))) (.ret (.call 31 (.cons (.var 0) .nil))) .skip) fN)
def bF:CS:=(.seq (.set (.nm 1) (.bi .ix (.var 0) (.n 0))) (.seq (.ite (.not (.val (.un (.isi .str) (.var 1)))) (.ret (.lit (.bl false))) .skip) bG))
def vI:CS:=(.seq (.ite (.or (.not (.val (.un (.isi .tuple) (.var 0)))) (.val (.bi .eq (.un .len (.var 0)) (.n 0)))) (.ret (.lit (.bl false))) .skip) bF)
def fG:CE:=(.call 25 (.cons (.var 1) .nil))
def tM:CS:=(.ret (.comp fG (.of (.var 0))))
def tG:CS:=(.seq (.set (.nm 1) (.call 25 (.cons (.un .len (.var 0)) .nil))) (.ret (.bi .add (.bi .add (.var 1) (.lit (.str [58]))) (.var 0))))
def sY:CE:=(.me .join (.lit (.str [45])) (.call 38 (.cons (.var 1) .nil)))
def qFZ:CS:=(.ret (.me .join (.lit (.str [44])) (.comp sY (.of (.var 0)))))
def sZ:CS:=(.seq (.ite (.val (.bi .eq (.un .len (.var 0)) (.n 0))) (.ret (.lit (.str [45]))) .skip) qFZ)
def qF8:CS:=(.set (.nm 2) (.bi .add (.call 38 (.cons (.sl (.var 0) (.at (.n 1)) (.at (.n 5))) .nil)) (.lst (.cons (.call 39 (.cons (.bi .ix (.var 0) (.n 5)) .nil)) .nil))))
def qF7:CS:=(.set (.nm 2) (.bi .add (.call 38 (.cons (.sl (.var 0) (.at (.n 1)) (.at (.n 6))) .nil)) (.lst (.cons (.call 40 (.cons (.bi .ix (.var 0) (.n 6)) .nil)) .nil))))
def qAq:CS:=(.set (.nm 2) (.call 38 (.cons (.sl (.var 0) (.at (.n 1)) .no) .nil)))
def fR:CS:=(.ite (.val (.bi .eq (.var 1) (.lit (.str [97,110,115,119,101,114])))) qF7 qAq)
def qAp:CS:=(.ret (.me .join (.lit (.str [32])) (.bi .add (.lst (.cons (.var 1) .nil)) (.var 2))))
def vJ:CS:=(.seq (.set (.nm 1) (.bi .ix (.var 0) (.n 0))) (.seq (.ite (.val (.bi .eq (.var 1) (.lit (.str [100,97,116,97])))) qF8 fR) qAp))
def qFY:CS:=(.seq (.set (.nm 1) (.call 41 (.cons (.var 0) .nil))) (.seq (.set (.nm 2) (.me .zfill (.call 25 (.cons (.call 24 (.cons (.var 1) .nil)) .nil)) (.n 4))) (.ret (.bi .add (.bi .add (.var 1) (.lit (.str [32]))) (.var 2)))))
def sS:CS:=(.seq (.ite (.not (.val (.call 37 (.cons (.var 0) .nil)))) (.raise 22077439339750245) .skip) qFY)
def tJ:CE:=(.call 27 (.cons (.var 1) .nil))
def tK:CS:=(.ret (.un .tuple (.comp tJ (.of (.var 0)))))
def tE:CE:=(.call 43 (.cons (.me .split (.var 1) (.lit (.str [45]))) .nil))
def qFa:CS:=(.ret (.un .tuple (.comp tE (.of (.me .split (.var 0) (.lit (.str [44])))))))
def tF:CS:=(.seq (.ite (.val (.bi .eq (.var 0) (.lit (.str [45])))) (.ret (.tup .nil)) .skip) qFa)
def qTP:CS:=(.seq .opq .opq)
def qFd:CS:=(.ret (.bi .add (.tup (.cons (.var 2) .nil)) (.call 43 (.cons (.sl (.var 1) (.at (.n 1)) .no) .nil))))
def tI:CS:=(.seq (.ite (.val (.bi .eq (.var 2) (.lit (.str [97,110,115,119,101,114])))) (.ret (.bi .add (.bi .add (.tup (.cons (.var 2) .nil)) (.call 43 (.cons (.sl (.var 1) (.at (.n 1)) (.at (.un .neg (.n 1)))) .nil))) (.tup (.cons (.call 44 (.cons (.bi .ix (.var 1) (.un .neg (.n 1))) .nil)) .nil)))) .skip) qFd)
def fF:CS:=(.seq (.set (.nm 1) (.me .split (.var 0) (.lit (.str [32])))) (.seq (.set (.nm 2) (.bi .ix (.var 1) (.n 0))) (.seq (.ite (.val (.bi .eq (.var 2) (.lit (.str [100,97,116,97])))) qTP .skip) tI)))
def qFc:CS:=(.ret (.var 1))
def qFb:CS:=(.seq (.set (.nm 1) (.call 45 (.cons (.bi .ix (.me .rpart (.var 0) (.lit (.str [32]))) (.n 0)) .nil))) (.seq (.ite (.or (.not (.val (.call 37 (.cons (.var 1) .nil)))) (.val (.bi .ne (.call 42 (.cons (.var 1) .nil)) (.var 0)))) (.raise 91742370622580) .skip) qFc))
def tH:CS:=(.seq (.ite (.not (.val (.call 22 (.cons (.var 0) .nil)))) (.raise 91742370622580) .skip) qFb)
def qTi:CS:=(.seq (.setF (.var 0) 1952807028 [306712044914,358300611685,362411681138] (.lit (.str []))) (.seq (.setF (.var 0) 495806672499 [306712044914,358300611685] (.tup .nil)) (.setF (.var 0) 108187682958948 [358300611685] (.disp [] .nil))))
def qTg:CS:=.opq
def qTf:CS:=(.seq (.setF (.var 0) 495806672499 [306712044914,358300611685] (.call 4 (.cons (.un (.fld 495806672499) (.var 0)) (.cons (.var 3) (.cons (.var 4) .nil))))) (.exp (.meth 28273260611201390 [(358300611685,49)] (.var 0) .nil)))
def qTe:CS:=(.seq (.fori (.nm 5) (.rng2 (.var 3) (.var 4)) qTg) qTf)
def qTd:CS:=(.seq (.set (.nm 3) (.bi .max2 (.var 1) (.un .len (.un (.fld 1952807028) (.var 0))))) (.seq (.set (.nm 4) (.bi .add (.var 1) (.un .len (.var 2)))) (.seq (.ite (.val (.bi .ge (.var 3) (.var 4))) .retN .skip) qTe)))
def qTh:CS:=(.seq (.ite (.val (.bi .lt (.var 1) (.n 0))) (.raise 86240048210286) .skip) qTd)
def qTl:CS:=.opq
def qTk:CS:=(.seq (.setF (.var 0) 1952807028 [306712044914,358300611685,362411681138] (.me .join (.lit (.str [])) (.var 2))) (.setF (.var 0) 495806672499 [306712044914,358300611685] (.sl (.un (.fld 495806672499) (.var 0)) (.at (.n 1)) .no)))
def qTj:CS:=(.seq (.set (.nm 2) (.lst (.cons (.un (.fld 1952807028) (.var 0)) .nil))) (.seq (.fori (.nm 3) (.rng2 (.bi .ix (.var 1) (.n 0)) (.bi .ix (.var 1) (.n 1))) qTl) qTk))
def qTm:CS:=(.seq (.set (.nm 1) (.bi .ix (.un (.fld 495806672499) (.var 0)) (.n 0))) (.seq (.ite (.val (.bi .ne (.bi .ix (.var 1) (.n 0)) (.un .len (.un (.fld 1952807028) (.var 0))))) .retN .skip) qTj))
def qTb:CS:=(.ret (.me .get (.un (.fld 108187682958948) (.var 0)) (.var 1)))
def qTc:CS:=(.seq (.ite (.val (.chain .le .lt (.n 0) (.var 1) (.un .len (.un (.fld 1952807028) (.var 0))))) (.ret (.bi .ix (.un (.fld 1952807028) (.var 0)) (.var 1))) .skip) qTb)
def qTV:CS:=(.seq (.setF (.var 0) 1919905645 [362411681138,1215263604] (.var 1)) (.seq (.setF (.var 0) 495739565157 [362411681138] (.make 358300611685 47 .nil)) (.seq (.setF (.var 0) 8390043809167535716 [362411681138] (.lit .non)) (.seq (.setF (.var 0) 1952807028 [306712044914,358300611685,362411681138] (.lit (.str []))) (.seq (.setF (.var 0) 1919246692 [362411681138] (.n 0)) (.seq (.setF (.var 0) 465625246068 [306712044914,362411681138] (.var 1)) (.setF (.var 0) 29681726098730597 [306712044914,362411681138] (.lit (.bl false)))))))))
def qTU:CS:=(.seq (.set (.nm 3) (.ite (.val (.un .isN (.un (.fld 8390043809167535716) (.var 0)))) (.un (.fld 465625246068) (.var 0)) (.bi .min2 (.un (.fld 465625246068) (.var 0)) (.un (.fld 8390043809167535716) (.var 0))))) (.seq (.exp (.meth 7370100 [(358300611685,48),(362411681138,52)] (.un (.fld 495739565157) (.var 0)) (.cons (.var 1) (.cons (.sl (.var 2) .no (.at (.bi .max2 (.bi .sub (.var 3) (.var 1)) (.n 0)))) .nil)))) (.setF (.var 0) 1952807028 [306712044914,358300611685,362411681138] (.un (.fld 1952807028) (.un (.fld 495739565157) (.var 0))))))
def qTW:CS:=(.seq (.setF (.var 0) 8390043809167535716 [362411681138] (.var 1)) (.exp (.meth 8315163747390811749 [(362411681138,56)] (.var 0) .nil)))
def qTX:CS:=(.seq (.ite (.or (.val (.un .notN (.un (.fld 8390043809167535716) (.var 0)))) (.val (.bi .lt (.var 1) (.meth 491327153000 [(362411681138,54)] (.var 0) .nil)))) .retN .skip) qTW)
def qTT:CS:=(.seq (.set (.nm 1) (.un (.fld 495806672499) (.un (.fld 495739565157) (.var 0)))) (.ret (.ite (.val (.bi .gt (.un .len (.var 1)) (.n 0))) (.bi .ix (.bi .ix (.var 1) (.un .neg (.n 1))) (.n 1)) (.un .len (.un (.fld 1952807028) (.var 0))))))
def qTR:CS:=(.exp (.call 0 (.cons (.n 0) .nil)))
def qTS:CS:=(.setF (.var 0) 29681726098730597 [306712044914,362411681138] (.bi .eq (.un (.fld 1919246692) (.var 0)) (.un (.fld 8390043809167535716) (.var 0))))
def qTZ:CS:=(.set (.nm 1) (.bi .add (.var 1) (.n 1)))
def qTY:CS:=(.ret (.tup (.cons (.var 1) (.cons (.un (.fld 465625246068) (.var 0)) (.cons (.sl (.un (.fld 495806672499) (.un (.fld 495739565157) (.var 0))) .no (.at (.n 8))) .nil)))))
def qTa:CS:=(.seq (.set (.nm 1) (.un .len (.un (.fld 1952807028) (.var 0)))) (.seq (.ite (.val (.bi .eq (.var 1) (.un (.fld 8390043809167535716) (.var 0)))) qTZ .skip) qTY))
def qAb:CE:=(.var 3)
def qAa:CT:=(.val (.bi .gt (.var 3) (.var 1)))
def qAZ:CE:=(.var 3)
def qAY:CT:=(.val (.bi .le (.var 3) (.var 1)))
def qFx:CS:=(.seq (.set (.nm 2) (.compIf qAb qAa (.of (.var 0)))) (.ret (.bi .add (.var 2) (.compIf qAZ qAY (.of (.var 0))))))
def fO:CS:=(.seq (.ite (.val (.un .isN (.var 1))) (.ret (.un .list (.var 0))) .skip) qFx)
def qF2:CS:=(.ret (.bi .ix (.var 0) (.var 1)))
def qF1:CS:=(.seq (.ite (.val (.un .isN (.bi .ix (.var 0) (.var 1)))) (.raise 73059263014254) .skip) qF2)
def qAh:CS:=(.seq (.ite (.val (.bi .notin (.var 1) (.var 0))) (.raise 5651827816973820269) .skip) qF1)
def sV:CE:=(.var 1)
def sU:CT:=(.val (.un .notN (.bi .ix (.var 0) (.var 1))))
def sW:CS:=(.ret (.un .sorted (.compD sV sU (.var 0))))
def qTQ:CS:=(.setIx (.var 1) (.var 2) (.lit .non))
def qGC:CS:=(.ret (.var 1))
def qAs:CS:=(.seq (.set (.nm 1) (.disp [] .nil)) (.seq (.forD 2 (.var 0) qTQ) qGC))
def qA8:CS:=(.seq (.setF (.var 0) 1919905645 [362411681138,1215263604] (.var 1)) (.seq (.setF (.var 0) 1836020596 [306712044914,1215263604] (.bi .min2 (.var 2) (.n 40))) (.seq (.setF (.var 0) 108256335193460 [1215263604] (.var 3)) (.seq (.setF (.var 0) 1818846821 [1215263604] (.n 1)) (.exp (.meth 464662488081084476647013 [(1215263604,63)] (.var 0) .nil))))))
def qBJ:CS:=(.seq (.setF (.var 0) 30792258880630375 [1215263604] (.make 21785059625889383 17 (.cons (.un (.fld 1818846821) (.var 0)) .nil))) (.seq (.setF (.var 0) 113702655586931 [1215263604] (.disp [] .nil)) (.seq (.setF (.var 0) 127961762460275 [1215263604] (.disp [] .nil)) (.setF (.var 0) 2128684475675056370548 [1215263604] (.lit .non)))))
def qGI:CS:=(.seq (.setIx (.un (.fld 113702655586931) (.var 0)) (.var 1) (.make 306712044914 7 (.cons (.un (.fld 1836020596) (.var 0)) .nil))) (.ret (.var 1)))
def qGH:CS:=(.seq (.set (.nm 1) (.un .len (.un (.fld 113702655586931) (.var 0)))) (.seq (.ite (.val (.bi .eq (.var 1) (.n 50))) (.raise 23766421875286888) .skip) qGI))
def qA3:CS:=(.seq (.ite (.val (.bi .eq (.un (.fld 521561010803) (.un (.fld 30792258880630375) (.var 0))) (.n 0))) (.raise 86240599565684) .skip) qGH)
def qBH:CS:=(.ret (.call 59 (.cons (.un (.fld 113702655586931) (.var 0)) (.cons (.var 1) .nil))))
def qTs:CS:=(.ret (.call 59 (.cons (.un (.fld 127961762460275) (.var 0)) (.cons (.var 1) .nil))))
def bJ:CS:=(.exp (.meth 513020621925 [(306712044914,8),(1215263604,67)] (.meth 444150998386 [(1215263604,65)] (.var 0) (.cons (.var 1) .nil)) (.cons (.var 2) .nil)))
def hZ:CS:=(.exp (.meth 112603010003816 [(306712044914,9),(1215263604,68)] (.meth 444150998386 [(1215263604,65)] (.var 0) (.cons (.var 1) .nil)) .nil))
def qTt:CS:=(.exp (.call 0 (.cons (.n 1) .nil)))
def qA2:CS:=(.ret (.call 60 (.cons (.un (.fld 113702655586931) (.var 0)) .nil)))
def qTz:CS:=(.exp (.call 0 (.cons (.n 2) .nil)))
def qT3:CE:=(.var 1)
def qT2:CT:=(.val (.un .isN (.bi .ix (.un (.fld 113702655586931) (.var 0)) (.var 1))))
def qT4:CS:=(.ret (.un .sorted (.compD qT3 qT2 (.un (.fld 113702655586931) (.var 0)))))
def qT1:CS:=(.exp (.call 0 (.cons (.n 3) .nil)))
def qTo:CS:=(.exp (.me .append (.var 1) (.meth 448378203247 [(21785059625889383,19)] (.un (.fld 30792258880630375) (.var 0)) .nil)))
def qAy:CE:=(.call 42 (.cons (.var 2) .nil))
def qGF:CS:=(.seq (.exp (.me .extend (.var 1) (.meth 583674933970360372264291001892499059 [(1215263604,75)] (.var 0) .nil))) (.ret (.comp qAy (.of (.var 1)))))
def qAz:CS:=(.seq (.set (.nm 1) (.lst .nil)) (.seq (.ite (.not (.val (.un (.fld 115944243160436) (.un (.fld 30792258880630375) (.var 0))))) qTo .skip) qGF))
def fZ:CE:=(.var 5)
def fY:CT:=(.not (.val (.un (.fld 29681726098730597) (.bi .ix (.un (.fld 113702655586931) (.var 0)) (.var 5)))))
def qGK:CS:=(.seq (.exp (.me .append (.var 1) (.meth 8100116882379468646 [(1215263604,77)] (.var 0) (.cons (.var 3) (.cons (.var 4) .nil))))) (.setF (.var 0) 2128684475675056370548 [1215263604] (.var 3)))
def qA4:CS:=(.seq (.set (.nm 4) (.meth 34780127400972871403634519652 [(1215263604,76)] (.var 0) (.cons (.var 3) .nil))) (.ite (.val (.un .notN (.var 4))) qGK .skip))
def bK:CS:=(.seq (.ite (.val (.bi .ge (.un .len (.var 1)) (.un (.fld 108256335193460) (.var 0)))) .brk .skip) qA4)
def qGJ:CS:=(.ret (.var 1))
def qA5:CS:=(.seq (.set (.nm 1) (.lst .nil)) (.seq (.set (.nm 2) (.compIf fZ fY (.of (.meth 32497656997703027 [(1215263604,70)] (.var 0) .nil)))) (.seq (.fori (.nm 3) (.of (.call 58 (.cons (.var 2) (.cons (.un (.fld 2128684475675056370548) (.var 0)) .nil)))) bK) qGJ)))
def qA7:CS:=(.set (.nm 3) (.meth 418346264942 [(306712044914,14)] (.var 2) (.cons (.n 1) .nil)))
def hU:CS:=(.ret (.ite (.val (.bi .gt (.un .len (.var 3)) (.n 0))) (.bi .ix (.var 3) (.n 0)) (.lit .non)))
def bL:CS:=(.seq (.set (.nm 2) (.bi .ix (.un (.fld 113702655586931) (.var 0)) (.var 1))) (.seq (.set (.nm 3) (.meth 521332113934423763874931 [(306712044914,12)] (.var 2) (.cons (.n 1) .nil))) (.seq (.ite (.val (.bi .eq (.un .len (.var 3)) (.n 0))) qA7 .skip) hU)))
def qA6:CS:=(.ret (.bi .add (.bi .add (.sl (.var 2) .no (.at (.n 1))) (.tup (.cons (.un (.fld 1835626085) (.un (.fld 30792258880630375) (.var 0))) (.cons (.un (.fld 521561010803) (.un (.fld 30792258880630375) (.var 0))) (.cons (.var 1) .nil))))) (.sl (.var 2) (.at (.n 1)) .no)))
def qBG:CS:=(.set (.nm 2) (.call 46 (.cons (.var 1) .nil)))
def qT0:CS:=(.ret (.lst .nil))
def qGM:CS:=(.exp (.meth 7799763779075547922881686105459 [(1215263604,79)] (.var 0) .nil))
def qGL:CS:=(.exp (.me .append (.var 6) (.meth 491328138361 [(21785059625889383,20)] (.un (.fld 30792258880630375) (.var 0)) .nil)))
def qBD:CS:=(.exp (.me .extend (.var 6) (.meth 8386102064528189806 [(1215263604,80)] (.var 0) (.cons (.var 2) .nil))))
def qBC:CE:=(.call 42 (.cons (.var 7) .nil))
def qBB:CS:=(.ret (.comp qBC (.of (.var 6))))
def qBA:CS:=(.seq (.ite (.val (.var 5)) qBD .skip) qBB)
def qA9:CS:=(.seq (.set (.nm 6) (.lst .nil)) (.seq (.ite (.or (.val (.var 4)) (.not (.val (.var 5)))) qGL .skip) qBA))
def qBF:CS:=(.seq (.set (.nm 4) (.bi .ix (.var 3) (.n 0))) (.seq (.set (.nm 5) (.bi .ix (.var 3) (.n 1))) (.seq (.ite (.val (.var 4)) qGM .skip) qA9)))
def qBE:CS:=(.seq (.set (.nm 3) (.meth 448377483876 [(21785059625889383,18)] (.un (.fld 30792258880630375) (.var 0)) (.cons (.var 2) .nil))) (.seq (.ite (.val (.un .isN (.var 3))) (.ret (.lst .nil)) .skip) qBF))
def hV:CS:=(.seq (.tryx qBG (.cons [91742370622580] qT0 .nil)) qBE)
def qBI:CS:=(.seq (.setF (.var 0) 113702655586931 [1215263604] (.call 61 (.cons (.un (.fld 113702655586931) (.var 0)) .nil))) (.setF (.var 0) 127961762460275 [1215263604] (.call 61 (.cons (.un (.fld 127961762460275) (.var 0)) .nil))))
def qGG:CS:=(.exp (.meth 117787394794711584694431077 [(1215263604,83)] (.var 0) (.cons (.var 1) .nil)))
def qA1:CS:=(.ret (.lst .nil))
def qA0:CS:=(.seq (.ite (.val (.bi .eq (.var 2) (.lit (.str [97,110,115,119,101,114])))) qGG .skip) qA1)
def fX:CS:=(.seq (.set (.nm 2) (.bi .ix (.var 1) (.n 0))) (.seq (.ite (.or (.val (.bi .eq (.var 2) (.lit (.str [100,97,116,97])))) (.val (.bi .eq (.var 2) (.lit (.str [101,110,100]))))) (.ret (.meth 2073057138977531850085 [(1215263604,81)] (.var 0) (.cons (.var 1) .nil))) .skip) qA0))
def qTx:CS:=(.exp (.meth 7370100 [(358300611685,48),(362411681138,52)] (.var 3) (.cons (.bi .ix (.var 1) (.n 4)) (.cons (.bi .ix (.var 1) (.n 5)) .nil))))
def qTw:CS:=(.exp (.meth 1701733491 [(362411681138,53)] (.var 3) (.cons (.bi .ix (.var 1) (.n 4)) .nil)))
def qTv:CS:=(.ret (.lst (.cons (.meth 8100116882379468646 [(1215263604,77)] (.var 0) (.cons (.var 2) (.cons (.bi .add (.tup (.cons (.lit (.str [97,110,115,119,101,114])) .nil)) (.meth 107127011501426 [(362411681138,57)] (.var 3) .nil)) .nil))) .nil)))
def qTu:CS:=(.seq (.set (.nm 3) (.meth 549591584905317559919717 [(1215263604,82)] (.var 0) (.cons (.var 2) .nil))) (.seq (.ite (.val (.bi .eq (.bi .ix (.var 1) (.n 0)) (.lit (.str [100,97,116,97])))) qTx qTw) qTv))
def qTy:CS:=(.seq (.set (.nm 2) (.bi .ix (.var 1) (.n 3))) (.seq (.ite (.val (.bi .ge (.var 2) (.n 50))) (.ret (.lst .nil)) .skip) qTu))
def qTq:CS:=(.setIx (.un (.fld 127961762460275) (.var 0)) (.var 1) (.make 362411681138 51 (.cons (.un (.fld 1919905645) (.var 0)) .nil)))
def qTp:CS:=(.ret (.bi .ix (.un (.fld 127961762460275) (.var 0)) (.var 1)))
def qTr:CS:=(.seq (.ite (.val (.un .isN (.me .get (.un (.fld 127961762460275) (.var 0)) (.var 1)))) qTq .skip) qTp)
def qGN:CS:=(.exp (.meth 7020675825757480292 [(306712044914,10)] (.var 2) (.cons (.bi .ix (.var 1) (.n 4)) (.cons (.bi .ix (.var 1) (.n 5)) (.cons (.bi .ix (.var 1) (.n 6)) .nil)))))
def qBK:CS:=(.seq (.set (.nm 2) (.me .get (.un (.fld 113702655586931) (.var 0)) (.bi .ix (.var 1) (.n 3)))) (.ite (.val (.un .notN (.var 2))) qGN .skip))
def qFh:CS:=(.ret (.n 0))
def tZ:CS:=(.seq (.ite (.val (.bi .lt (.var 1) (.un .len (.var 0)))) (.ret (.bi .ix (.var 0) (.var 1))) .skip) qFh)
def tO:CE:=(.bi .ix (.var 2) (.bi .mod (.bi .add (.bi .add (.var 0) (.bi .mul (.n 7) (.var 3))) (.bi .fdiv (.bi .mul (.var 3) (.var 3)) (.n 3))) (.n 94)))
def tP:CS:=(.seq (.set (.nm 2) (.lit (.str [32,33,34,35,36,38,39,40,41,42,43,44,45,46,47,48,49,50,51,52,53,54,55,56,57,58,59,60,61,62,63,64,65,66,67,68,69,70,71,72,73,74,75,76,77,78,79,80,81,82,83,84,85,86,87,88,89,90,91,92,93,94,95,96]))) (.seq (.set (.nm 2) (.bi .add (.var 2) (.lit (.str [97,98,99,100,101,102,103,104,105,106,107,108,109,110,111,112,113,114,115,116,117,118,119,120,121,122,123,124,125,126])))) (.ret (.me .join (.lit (.str [])) (.comp tO (.rng1 (.var 1)))))))
def qFf:CS:=(.set (.nm 1) (.meth 418346264942 [(306712044914,14)] (.var 0) (.cons (.n 1) .nil)))
def tQ:CS:=(.ret (.var 1))
def fI:CS:=(.seq (.set (.nm 1) (.meth 521332113934423763874931 [(306712044914,12)] (.var 0) (.cons (.n 1) .nil))) (.seq (.ite (.val (.bi .eq (.var 1) (.lst .nil))) qFf .skip) tQ))
def tX:CS:=(.seq (.exp (.me .append (.var 3) (.call 42 (.cons (.bi .add (.tup (.cons (.bi .ix (.var 7) (.n 0)) (.cons (.n 1) (.cons (.n 3) (.cons (.var 6) .nil))))) (.sl (.var 7) (.at (.n 1)) .no)) .nil)))) (.set (.nm 4) (.var 6)))
def tW:CS:=(.fori (.nm 7) (.of (.call 86 (.cons (.bi .ix (.var 0) (.var 6)) .nil))) tX)
def wT:CS:=(.seq (.set (.nm 6) (.bi .mod (.bi .add (.bi .add (.var 1) (.n 1)) (.var 5)) (.n 3))) (.ite (.and (.val (.bi .lt (.un .len (.var 3)) (.var 2))) (.not (.val (.un (.fld 29681726098730597) (.bi .ix (.var 0) (.var 6)))))) tW .skip))
def qFg:CS:=(.ret (.tup (.cons (.var 3) (.cons (.var 4) .nil))))
def tY:CS:=(.seq (.set (.nm 3) (.lst .nil)) (.seq (.set (.nm 4) (.var 1)) (.seq (.fori (.nm 5) (.rng1 (.n 3)) wT) qFg)))
def qFj:CS:=(.seq (.set (.nm 5) (.bi .add (.var 5) (.tup (.cons (.tup (.cons (.var 8) (.cons (.var 9) .nil))) .nil)))) (.set (.nm 6) (.var 9)))
def gJ:CS:=(.seq (.set (.nm 8) (.bi .add (.bi .add (.var 6) (.n 1)) (.bi .mod (.bi .fdiv (.var 0) (.bi .ix (.lst (.cons (.n 5628) (.cons (.n 39396) (.cons (.n 275772) .nil)))) (.var 7))) (.n 7)))) (.seq (.set (.nm 9) (.bi .min2 (.un (.fld 1936027252) (.var 1)) (.bi .add (.bi .add (.var 8) (.n 1)) (.bi .mod (.bi .fdiv (.var 0) (.bi .ix (.lst (.cons (.n 11) (.cons (.n 130) (.cons (.n 1690) .nil)))) (.var 7))) (.n 13))))) (.ite (.val (.bi .lt (.var 8) (.var 9))) qFj .skip)))
def qFi:CS:=(.ret (.tup (.cons (.var 3) (.cons (.var 4) (.cons (.var 5) .nil)))))
def qAA:CS:=(.seq (.set (.nm 3) (.bi .mod (.var 0) (.bi .add (.bi .add (.un (.fld 1936027252) (.var 1)) (.n 1)) (.un .int (.var 2))))) (.seq (.set (.nm 4) (.bi .max2 (.bi .sub (.var 3) (.n 1)) (.bi .mod (.bi .fdiv (.var 0) (.n 7)) (.n 201)))) (.seq (.set (.nm 5) (.tup .nil)) (.seq (.set (.nm 6) (.var 3)) (.seq (.fori (.nm 7) (.rng1 (.bi .mod (.bi .fdiv (.var 0) (.n 1407)) (.n 4))) gJ) qFi)))))
def tT:CS:=(.exp (.meth 112603010003816 [(306712044914,9),(1215263604,68)] (.var 0) (.cons (.var 1) .nil)))
def fK:CS:=(.exp (.meth 513020621925 [(306712044914,8),(1215263604,67)] (.var 0) (.cons (.var 1) (.cons (.call 85 (.cons (.bi .fdiv (.var 2) (.n 5)) (.cons (.bi .add (.n 1) (.bi .mod (.bi .fdiv (.var 2) (.n 5)) (.n 40))) .nil))) .nil))))
def gH:CS:=(.ite (.val (.bi .eq (.bi .mod (.var 2) (.n 5)) (.n 0))) tT fK)
def fJ:CS:=(.ret (.lit (.bl false)))
def tR:CS:=(.ret (.lit (.bl true)))
def yR:CS:=(.seq (.tryx gH (.cons FE fJ .nil)) tR)
def tV:CS:=(.exp (.meth 112603010003816 [(306712044914,9),(1215263604,68)] (.var 0) .nil))
def fM:CS:=(.exp (.meth 513020621925 [(306712044914,8),(1215263604,67)] (.var 0) (.cons (.call 85 (.cons (.bi .fdiv (.var 1) (.n 5)) (.cons (.bi .add (.n 1) (.bi .mod (.bi .fdiv (.var 1) (.n 5)) (.n 40))) .nil))) .nil)))
def gI:CS:=(.ite (.val (.bi .eq (.bi .mod (.var 1) (.n 5)) (.n 0))) tV fM)
def fL:CS:=(.ret (.lit (.bl false)))
def tU:CS:=(.ret (.lit (.bl true)))
def yS:CS:=(.seq (.tryx gI (.cons FE fL .nil)) tU)
def bB:CS:=(.seq (.set (.nm 3) (.meth 444150998386 [(1215263604,65)] (.var 0) (.cons (.var 2) .nil))) (.seq (.set (.nm 4) (.bi .ix (.var 1) (.var 2))) (.ite (.val (.bi .ne (.tup (.cons (.un (.fld 1952807028) (.var 3)) (.cons (.un (.fld 1668246885) (.var 3)) (.cons (.un (.fld 465625246068) (.var 3)) (.cons (.un (.fld 495806672499) (.var 3)) .nil))))) (.tup (.cons (.un (.fld 1952807028) (.var 4)) (.cons (.un (.fld 1668246885) (.var 4)) (.cons (.un (.fld 465625246068) (.var 4)) (.cons (.un (.fld 495806672499) (.var 4)) .nil))))))) (.ret (.lit (.bl false))) .skip)))
def qFk:CS:=(.ret (.lit (.bl true)))
def qAB:CS:=(.seq (.fori (.nm 2) (.rng1 (.n 3)) bB) qFk)
def bE:CS:=(.seq (.exp (.meth 495873782388 [(1215263604,64)] (.var 2) .nil)) (.exp (.me .append (.var 3) (.make 306712044914 7 (.cons (.bi .add (.n 1) (.bi .mod (.var 1) (.n 40))) .nil)))))
def qAE:CS:=(.ite (.val (.bi .ne (.call 89 (.cons (.var 2) (.cons (.var 4) (.cons (.var 7) .nil)))) (.call 90 (.cons (.bi .ix (.var 3) (.var 4)) (.cons (.var 7) .nil))))) (.ret (.lit (.bl false))) .skip)
def qAD:CS:=(.seq (.set (.nm 8) (.call 88 (.cons (.var 7) (.cons (.bi .ix (.var 3) (.var 4)) (.cons (.bi .isin (.var 4) (.var 5)) .nil))))) (.seq (.exp (.meth 7020675825757480292 [(306712044914,10)] (.bi .ix (.var 3) (.var 4)) (.cons (.bi .ix (.var 8) (.n 0)) (.cons (.bi .ix (.var 8) (.n 1)) (.cons (.bi .ix (.var 8) (.n 2)) .nil))))) (.ite (.val (.bi .ne (.meth 1751474546 [(1215263604,78)] (.var 2) (.cons (.call 42 (.cons (.bi .add (.tup (.cons (.lit (.str [97,110,115,119,101,114])) (.cons (.n 3) (.cons (.n 1) (.cons (.var 4) .nil))))) (.var 8)) .nil)) .nil)) (.lst .nil))) (.ret (.lit (.bl false))) .skip)))
def bD:CE:=(.var 11)
def bC:CT:=(.and (.val (.bi .eq (.sl (.var 11) .no (.at (.n 3))) (.lit (.str [101,110,100])))) (.val (.bi .eq (.bi .ix (.me .split (.var 11) (.lit (.str [32]))) (.n 3)) (.un .str (.var 10)))))
def qAC:CS:=(.setIx (.var 5) (.var 10) (.lit (.bl true)))
def qFm:CS:=(.ite (.val (.bi .gt (.un .len (.compIf bD bC (.of (.bi .ix (.var 9) (.n 0))))) (.n 0))) qAC .skip)
def vH:CS:=(.ite (.and (.val (.un (.fld 7598521885552567652) (.bi .ix (.var 3) (.var 10)))) (.and (.val (.bi .eq (.un (.fld 1936027252) (.bi .ix (.var 3) (.var 10))) (.un .len (.un (.fld 1952807028) (.bi .ix (.var 3) (.var 10)))))) (.val (.bi .notin (.var 10) (.var 5))))) qFm .skip)
def qFl:CS:=(.seq (.set (.nm 6) (.bi .ix (.var 9) (.n 1))) (.fori (.nm 10) (.rng1 (.n 3)) vH))
def qAH:CS:=(.seq (.set (.nm 9) (.call 87 (.cons (.var 3) (.cons (.var 6) (.cons (.bi .add (.n 1) (.bi .mod (.bi .fdiv (.call 84 (.cons (.var 0) (.cons (.n 0) .nil))) (.n 40)) (.n 5))) .nil))))) (.seq (.ite (.val (.bi .ne (.meth 1953063787 [(1215263604,74)] (.var 2) .nil) (.bi .ix (.var 9) (.n 0)))) (.ret (.lit (.bl false))) .skip) qFl))
def qAG:CS:=(.ite (.val (.bi .lt (.bi .mod (.var 1) (.n 8)) (.n 4))) qAD qAH)
def qAF:CS:=(.ite (.not (.val (.call 91 (.cons (.var 2) (.cons (.var 3) .nil))))) (.ret (.lit (.bl false))) .skip)
def yT:CS:=(.seq (.set (.nm 4) (.bi .mod (.bi .fdiv (.var 1) (.n 8)) (.n 3))) (.seq (.set (.nm 7) (.bi .fdiv (.var 1) (.n 24))) (.seq (.ite (.val (.bi .lt (.bi .mod (.var 1) (.n 8)) (.n 2))) qAE qAG) qAF)))
def qFo:CS:=(.ret (.lit (.bl true)))
def qFn:CS:=(.seq (.set (.nm 5) (.disp [] .nil)) (.seq (.set (.nm 6) (.n 2)) (.seq (.fori (.nm 1) (.of (.sl (.var 0) (.at (.n 1)) (.at (.n 51)))) yT) qFo)))
def qAI:CS:=(.seq (.set (.nm 1) (.call 84 (.cons (.var 0) (.cons (.n 0) .nil)))) (.seq (.set (.nm 2) (.make 1215263604 62 (.cons (.n 9) (.cons (.bi .add (.n 1) (.bi .mod (.var 1) (.n 40))) (.cons (.bi .add (.n 1) (.bi .mod (.bi .fdiv (.var 1) (.n 40)) (.n 5))) .nil))))) (.seq (.exp (.meth 1751474546 [(1215263604,78)] (.var 2) (.cons (.call 42 (.cons (.tup (.cons (.lit (.str [104,101,108,108,111])) (.cons (.n 3) (.cons (.n 1) .nil)))) .nil)) .nil))) (.seq (.set (.nm 3) (.lst .nil)) (.seq (.fori (.nm 4) (.rng1 (.n 3)) bE) qFn)))))
def fns:List Fn:=[⟨1,1,qTO⟩,
 ⟨3,6,qAm⟩,
 ⟨1,1,qAo⟩,
 ⟨2,2,bH⟩,
 ⟨3,5,fT⟩,
 ⟨2,3,fP⟩,
 ⟨3,6,qAg⟩,
 ⟨2,2,qBU⟩,
 ⟨2,2,qBL⟩,
 ⟨1,1,qBV⟩,
 ⟨4,5,wU⟩,
 ⟨2,6,qBT⟩,
 ⟨2,4,qBS⟩,
 ⟨1,3,iB⟩,
 ⟨2,2,qBX⟩,
 ⟨1,2,qBQ⟩,
 ⟨1,4,qBO⟩,
 ⟨2,2,qAv⟩,
 ⟨2,6,bI⟩,
 ⟨1,1,qTn⟩,
 ⟨1,1,qAu⟩,
 ⟨1,2,qAM⟩,
 ⟨1,1,qAL⟩,
 ⟨3,3,qAP⟩,
 ⟨1,3,qAn⟩,
 ⟨1,1,qAi⟩,
 ⟨1,1,qAU⟩,
 ⟨1,2,fH⟩,
 ⟨1,1,qAQ⟩,
 ⟨1,1,qAN⟩,
 ⟨1,1,tN⟩,
 ⟨1,1,qAR⟩,
 ⟨1,3,qAW⟩,
 ⟨1,1,qAV⟩,
 ⟨2,2,qAJ⟩,
 ⟨2,3,qAr⟩,
 ⟨1,1,qAX⟩,
 ⟨1,2,vI⟩,
 ⟨1,1,tM⟩,
 ⟨1,2,tG⟩,
 ⟨1,1,sZ⟩,
 ⟨1,3,vJ⟩,
 ⟨1,3,sS⟩,
 ⟨1,1,tK⟩,
 ⟨1,1,tF⟩,
 ⟨1,3,fF⟩,
 ⟨1,2,tH⟩,
 ⟨1,1,qTi⟩,
 ⟨3,6,qTh⟩,
 ⟨1,4,qTm⟩,
 ⟨2,2,qTc⟩,
 ⟨2,2,qTV⟩,
 ⟨3,4,qTU⟩,
 ⟨2,2,qTX⟩,
 ⟨1,2,qTT⟩,
 ⟨2,2,qTR⟩,
 ⟨1,1,qTS⟩,
 ⟨1,2,qTa⟩,
 ⟨2,3,fO⟩,
 ⟨2,2,qAh⟩,
 ⟨1,1,sW⟩,
 ⟨1,3,qAs⟩,
 ⟨4,4,qA8⟩,
 ⟨1,1,qBJ⟩,
 ⟨1,2,qA3⟩,
 ⟨2,2,qBH⟩,
 ⟨2,2,qTs⟩,
 ⟨3,3,bJ⟩,
 ⟨2,2,hZ⟩,
 ⟨3,3,qTt⟩,
 ⟨1,1,qA2⟩,
 ⟨1,1,qTz⟩,
 ⟨1,1,qT4⟩,
 ⟨1,1,qT1⟩,
 ⟨1,2,qAz⟩,
 ⟨1,5,qA5⟩,
 ⟨2,4,bL⟩,
 ⟨3,3,qA6⟩,
 ⟨2,7,hV⟩,
 ⟨1,1,qBI⟩,
 ⟨2,3,fX⟩,
 ⟨2,4,qTy⟩,
 ⟨2,2,qTr⟩,
 ⟨2,3,qBK⟩,
 ⟨2,2,tZ⟩,
 ⟨2,3,tP⟩,
 ⟨1,2,fI⟩,
 ⟨3,8,tY⟩,
 ⟨3,10,qAA⟩,
 ⟨3,3,yR⟩,
 ⟨2,2,yS⟩,
 ⟨2,5,qAB⟩,
 ⟨1,11,qAI⟩]
section
variable (B n:Nat)(a0 a1 a2 a3:D)(h:AH)
abbrev qNp:Nat:=1
theorem qRN:qA fns B (n+1) 1 [a0,a1,a2] h=fin (qB (qA fns B n) B qAm [some a0,some a1,some a2,none,none,none] h):=rfl
abbrev qNs:Nat:=2
theorem qRQ:qA fns B (n+1) 2 [a0] h=fin (qB (qA fns B n) B qAo [some a0] h):=rfl
abbrev qNq:Nat:=3
theorem qRO:qA fns B (n+1) 3 [a0,a1] h=fin (qB (qA fns B n) B bH [some a0,some a1] h):=rfl
abbrev qNw:Nat:=4
theorem qRU:qA fns B (n+1) 4 [a0,a1,a2] h=fin (qB (qA fns B n) B fT [some a0,some a1,some a2,none,none] h):=rfl
abbrev qNo:Nat:=5
theorem qRM:qA fns B (n+1) 5 [a0,a1] h=fin (qB (qA fns B n) B fP [some a0,some a1,none] h):=rfl
abbrev qNn:Nat:=6
theorem qRJ:qA fns B (n+1) 6 [a0,a1,a2] h=fin (qB (qA fns B n) B qAg [some a0,some a1,some a2,none,none,none] h):=rfl
abbrev qOD:Nat:=7
theorem qRn:qA fns B (n+1) 7 [a0,a1] h=fin (qB (qA fns B n) B qBU [some a0,some a1] h):=rfl
abbrev qN9:Nat:=8
theorem qRi:qA fns B (n+1) 8 [a0,a1] h=fin (qB (qA fns B n) B qBL [some a0,some a1] h):=rfl
abbrev qOE:Nat:=9
theorem qRo:qA fns B (n+1) 9 [a0] h=fin (qB (qA fns B n) B qBV [some a0] h):=rfl
abbrev eB:Nat:=10
theorem qFJ:qA fns B (n+1) 10 [a0,a1,a2,a3] h=fin (qB (qA fns B n) B wU [some a0,some a1,some a2,some a3,none] h):=rfl
abbrev qOC:Nat:=11
theorem qRm:qA fns B (n+1) 11 [a0,a1] h=fin (qB (qA fns B n) B qBT [some a0,some a1,none,none,none,none] h):=rfl
abbrev qEC:Nat:=12
theorem qRl:qA fns B (n+1) 12 [a0,a1] h=fin (qB (qA fns B n) B qBS [some a0,some a1,none,none] h):=rfl
abbrev qED:Nat:=13
theorem qFI:qA fns B (n+1) 13 [a0] h=fin (qB (qA fns B n) B iB [some a0,none,none] h):=rfl
abbrev qEE:Nat:=14
theorem qRp:qA fns B (n+1) 14 [a0,a1] h=fin (qB (qA fns B n) B qBX [some a0,some a1] h):=rfl
abbrev qOB:Nat:=15
theorem qRk:qA fns B (n+1) 15 [a0] h=fin (qB (qA fns B n) B qBQ [some a0,none] h):=rfl
abbrev qOA:Nat:=16
theorem qRj:qA fns B (n+1) 16 [a0] h=fin (qB (qA fns B n) B qBO [some a0,none,none,none] h):=rfl
abbrev qNy:Nat:=17
theorem qRW:qA fns B (n+1) 17 [a0,a1] h=fin (qB (qA fns B n) B qAv [some a0,some a1] h):=rfl
abbrev nA:Nat:=18
theorem qFE:qA fns B (n+1) 18 [a0,a1] h=fin (qB (qA fns B n) B bI [some a0,some a1,none,none,none,none] h):=rfl
abbrev qNx:Nat:=20
theorem qRV:qA fns B (n+1) 20 [a0] h=fin (qB (qA fns B n) B qAu [some a0] h):=rfl
abbrev qNg:Nat:=21
theorem qQ8:qA fns B (n+1) 21 [a0] h=fin (qB (qA fns B n) B qAM [some a0,none] h):=rfl
abbrev qNf:Nat:=22
theorem qQ7:qA fns B (n+1) 22 [a0] h=fin (qB (qA fns B n) B qAL [some a0] h):=rfl
abbrev qNj:Nat:=23
theorem qRB:qA fns B (n+1) 23 [a0,a1,a2] h=fin (qB (qA fns B n) B qAP [some a0,some a1,some a2] h):=rfl
abbrev qNr:Nat:=24
theorem qRP:qA fns B (n+1) 24 [a0] h=fin (qB (qA fns B n) B qAn [some a0,none,none] h):=rfl
abbrev qEA:Nat:=25
theorem qRL:qA fns B (n+1) 25 [a0] h=fin (qB (qA fns B n) B qAi [some a0] h):=rfl
abbrev qNl:Nat:=26
theorem qRE:qA fns B (n+1) 26 [a0] h=fin (qB (qA fns B n) B qAU [some a0] h):=rfl
abbrev qNU:Nat:=27
theorem qQx:qA fns B (n+1) 27 [a0] h=fin (qB (qA fns B n) B fH [some a0,none] h):=rfl
abbrev qNk:Nat:=28
theorem qRC:qA fns B (n+1) 28 [a0] h=fin (qB (qA fns B n) B qAQ [some a0] h):=rfl
abbrev qNh:Nat:=29
theorem qQ9:qA fns B (n+1) 29 [a0] h=fin (qB (qA fns B n) B qAN [some a0] h):=rfl
abbrev qNV:Nat:=30
theorem qQy:qA fns B (n+1) 30 [a0] h=fin (qB (qA fns B n) B tN [some a0] h):=rfl
theorem qRD:qA fns B (n+1) 31 [a0] h=fin (qB (qA fns B n) B qAR [some a0] h):=rfl
theorem qRG:qA fns B (n+1) 32 [a0] h=fin (qB (qA fns B n) B qAW [some a0,none,none] h):=rfl
theorem qRF:qA fns B (n+1) 33 [a0] h=fin (qB (qA fns B n) B qAV [some a0] h):=rfl
abbrev qNe:Nat:=34
theorem qQ6:qA fns B (n+1) 34 [a0,a1] h=fin (qB (qA fns B n) B qAJ [some a0,some a1] h):=rfl
abbrev qNu:Nat:=35
theorem qRS:qA fns B (n+1) 35 [a0,a1] h=fin (qB (qA fns B n) B qAr [some a0,some a1,none] h):=rfl
theorem qRH:qA fns B (n+1) 36 [a0] h=fin (qB (qA fns B n) B qAX [some a0] h):=rfl
abbrev qNi:Nat:=37
theorem qRA:qA fns B (n+1) 37 [a0] h=fin (qB (qA fns B n) B vI [some a0,none] h):=rfl
abbrev qNT:Nat:=38
theorem qQw:qA fns B (n+1) 38 [a0] h=fin (qB (qA fns B n) B tM [some a0] h):=rfl
abbrev qNQ:Nat:=39
theorem qQs:qA fns B (n+1) 39 [a0] h=fin (qB (qA fns B n) B tG [some a0,none] h):=rfl
abbrev qNO:Nat:=40
theorem qQq:qA fns B (n+1) 40 [a0] h=fin (qB (qA fns B n) B sZ [some a0] h):=rfl
abbrev qNt:Nat:=41
theorem qRR:qA fns B (n+1) 41 [a0] h=fin (qB (qA fns B n) B vJ [some a0,none,none] h):=rfl
abbrev qD7:Nat:=42
theorem qQo:qA fns B (n+1) 42 [a0] h=fin (qB (qA fns B n) B sS [some a0,none,none] h):=rfl
abbrev qNS:Nat:=43
theorem qQv:qA fns B (n+1) 43 [a0] h=fin (qB (qA fns B n) B tK [some a0] h):=rfl
abbrev qNP:Nat:=44
theorem qQr:qA fns B (n+1) 44 [a0] h=fin (qB (qA fns B n) B tF [some a0] h):=rfl
abbrev qNR:Nat:=45
theorem qQu:qA fns B (n+1) 45 [a0] h=fin (qB (qA fns B n) B fF [some a0,none,none] h):=rfl
abbrev qD8:Nat:=46
theorem qQt:qA fns B (n+1) 46 [a0] h=fin (qB (qA fns B n) B tH [some a0,none] h):=rfl
abbrev qNm:Nat:=58
theorem qRI:qA fns B (n+1) 58 [a0,a1] h=fin (qB (qA fns B n) B fO [some a0,some a1,none] h):=rfl
theorem qRK:qA fns B (n+1) 59 [a0,a1] h=fin (qB (qA fns B n) B qAh [some a0,some a1] h):=rfl
theorem qQp:qA fns B (n+1) 60 [a0] h=fin (qB (qA fns B n) B sW [some a0] h):=rfl
abbrev qNv:Nat:=61
theorem qRT:qA fns B (n+1) 61 [a0] h=fin (qB (qA fns B n) B qAs [some a0,none,none] h):=rfl
abbrev qN5:Nat:=62
theorem qRd:qA fns B (n+1) 62 [a0,a1,a2,a3] h=fin (qB (qA fns B n) B qA8 [some a0,some a1,some a2,some a3] h):=rfl
abbrev qN8:Nat:=63
theorem qRg:qA fns B (n+1) 63 [a0] h=fin (qB (qA fns B n) B qBJ [some a0] h):=rfl
abbrev qN2:Nat:=64
theorem qRZ:qA fns B (n+1) 64 [a0] h=fin (qB (qA fns B n) B qA3 [some a0,none] h):=rfl
abbrev qN6:Nat:=65
theorem qRe:qA fns B (n+1) 65 [a0,a1] h=fin (qB (qA fns B n) B qBH [some a0,some a1] h):=rfl
theorem sP:qA fns B (n+1) 67 [a0,a1,a2] h=fin (qB (qA fns B n) B bJ [some a0,some a1,some a2] h):=rfl
theorem qFH:qA fns B (n+1) 68 [a0,a1] h=fin (qB (qA fns B n) B hZ [some a0,some a1] h):=rfl
abbrev qN1:Nat:=70
theorem qRY:qA fns B (n+1) 70 [a0] h=fin (qB (qA fns B n) B qA2 [some a0] h):=rfl
abbrev qNz:Nat:=74
theorem qRX:qA fns B (n+1) 74 [a0] h=fin (qB (qA fns B n) B qAz [some a0,none] h):=rfl
abbrev qN3:Nat:=75
theorem qRa:qA fns B (n+1) 75 [a0] h=fin (qB (qA fns B n) B qA5 [some a0,none,none,none,none] h):=rfl
abbrev nB:Nat:=76
theorem qRc:qA fns B (n+1) 76 [a0,a1] h=fin (qB (qA fns B n) B bL [some a0,some a1,none,none] h):=rfl
abbrev qN4:Nat:=77
theorem qRb:qA fns B (n+1) 77 [a0,a1,a2] h=fin (qB (qA fns B n) B qA6 [some a0,some a1,some a2] h):=rfl
abbrev qEB:Nat:=78
theorem qFG:qA fns B (n+1) 78 [a0,a1] h=fin (qB (qA fns B n) B hV [some a0,some a1,none,none,none,none,none] h):=rfl
abbrev qN7:Nat:=79
theorem qRf:qA fns B (n+1) 79 [a0] h=fin (qB (qA fns B n) B qBI [some a0] h):=rfl
abbrev qN0:Nat:=80
theorem qFF:qA fns B (n+1) 80 [a0,a1] h=fin (qB (qA fns B n) B fX [some a0,some a1,none] h):=rfl
theorem qRh:qA fns B (n+1) 83 [a0,a1] h=fin (qB (qA fns B n) B qBK [some a0,some a1,none] h):=rfl
abbrev qNa:Nat:=84
theorem qQ2:qA fns B (n+1) 84 [a0,a1] h=fin (qB (qA fns B n) B tZ [some a0,some a1] h):=rfl
abbrev qNW:Nat:=85
theorem qQz:qA fns B (n+1) 85 [a0,a1] h=fin (qB (qA fns B n) B tP [some a0,some a1,none] h):=rfl
abbrev qNX:Nat:=86
theorem qQ0:qA fns B (n+1) 86 [a0] h=fin (qB (qA fns B n) B fI [some a0,none] h):=rfl
abbrev qD9:Nat:=87
theorem qQ1:qA fns B (n+1) 87 [a0,a1,a2] h=fin (qB (qA fns B n) B tY [some a0,some a1,some a2,none,none,none,none,none] h):=rfl
abbrev qNb:Nat:=88
theorem qQ3:qA fns B (n+1) 88 [a0,a1,a2] h=fin (qB (qA fns B n) B qAA [some a0,some a1,some a2,none,none,none,none,none,none,none] h):=rfl
abbrev qNY:Nat:=89
theorem aZ:qA fns B (n+1) 89 [a0,a1,a2] h=fin (qB (qA fns B n) B yR [some a0,some a1,some a2] h):=rfl
abbrev qNZ:Nat:=90
theorem bA:qA fns B (n+1) 90 [a0,a1] h=fin (qB (qA fns B n) B yS [some a0,some a1] h):=rfl
abbrev qNc:Nat:=91
theorem qQ4:qA fns B (n+1) 91 [a0,a1] h=fin (qB (qA fns B n) B qAB [some a0,some a1,none,none,none] h):=rfl
abbrev qNd:Nat:=92
theorem qQ5:qA fns B (n+1) 92 [a0] h=fin (qB (qA fns B n) B qAI [some a0,none,none,none,none,none,none,none,none,none,none] h):=rfl
end
local macro_rules | `(tactic| simp! only [$ts,*] $[$l]?) => do
  let e := ts.getElems
  let i := (e.findIdx? (·.raw.isOfKind ``Lean.Parser.Tactic.simpStar)).elim 0 (· + 1)
  let a : Array (Lean.TSyntax ``Lean.Parser.Tactic.simpLemma) := (e.extract 0 (i - 1)).map (⟨·.raw⟩)
  let c := e.extract i e.size
  let d ← ("Int.reduceLT Int.reduceLE Int.reduceNeg Int.reduceAdd Int.reduceSub Int.reduceEq Int.reduceBEq Nat.reduceLeDiff Nat.reduceLT Nat.reduceBEq and_self and_true true_and qOv qOu qOw qNM qT9 qT8 qUB qUA qJc qJd qBq qHQ qIT qQU qQV qQW qQX M.ret_eq M.bind_eq R.bind_ok wY newL wV yF qLZ qIR qIQ qI zI tbN Option.isNone_none Option.isNone_some qLd dB gP qEd kA b2i List.getElem?_cons_zero List.getElem?_cons_succ List.length_cons List.length_nil List.map_cons List.map_nil List.cons_append List.nil_append List.set_cons_zero List.set_cons_succ if_true reduceIte Nat.zero_add Nat.reduceAdd Bool.false_eq_true if_false Bool.not_true Bool.not_false Bool.or_true Bool.or_false Bool.true_or Bool.false_or decide_true decide_false reduceCtorEq beq_self_eq_true qG4 qG8 qG7 qG6 qG0 qHC qHB qG2 qGz qG5 qHE qG1 qHD qHA qG3 qG9 qJ8 qJ7 qJ6 qJ5 qJh qJm qJi qJj qJz qJ2 qJ1 qJn qJ3 qJl qJq qJr qJy qJ0 qJx qJw qJk qJv qJu qJt qJo qJp qJg qJs qJ4 qHb qM8 qM7 qM9 qIY qIW qIe qLX qLR qLU qLV qLW qGp qHY qOt qHX qLS qLT isi_int isi_str isi_tup qPA qO9 qO8 qO7".splitOn " ").toArray.mapM fun x => `(Lean.Parser.Tactic.simpLemma| $(Lean.mkIdent x.toName):term)
  `(tactic| ((try dsimp only [qB, den, qM, zB, jF, kY, gC, $a,*] $[$l]?); simp only [$d,*, $c,*] $[$l]?))
theorem eD(h l:AH)(k:Nat):qC (h++l) (h.length+k)=qC l k:=by
 unfold qC;rw[List.getElem?_append_right (by lia),Nat.add_sub_cancel_left]
theorem qY(h l:AH):qC (h++l) h.length=qC l 0:=eD h l 0
theorem wO(h l:AH)(k:Nat):(h++l)[h.length+k]?=l[k]?:=by
 rw[List.getElem?_append_right (by lia),Nat.add_sub_cancel_left]
theorem qW(h l:AH):(h++l)[h.length]?=l[0]?:=wO h l 0
theorem qCI(h l:AH)(k:Nat)(o:O):(h++l).set (h.length+k) o=h++l.set k o:=by
 rw[List.set_append_right _ _ (by lia),Nat.add_sub_cancel_left]
theorem kP(h l:AH)(o:O):(h++l).set h.length o=h++l.set 0 o:=qCI h l 0 o
theorem zV(xs:List D)(l:AH):qC (.lst xs::l) 0=some xs:=rfl
theorem mP{ds:List D}{k:Nat}(h:ds[k]?=some d):((ixN ds.length (k:Int)).bind fun j=>ds[j]?)=some d:=by
 rw[mR (List.getElem?_eq_some_iff.mp h).1,Option.bind_some,h]
theorem eW{α:Type}(x:List α)(k:Nat):qO x none (some (k:Int))=x.take k:=by
 unfold qO qZ;simp only[if_neg (show ¬ (k:Int)<0 by lia),Int.toNat_natCast,List.drop_zero,Nat.sub_zero];rw[Nat.min_comm,<- List.take_take];exact List.take_of_length_le (by rw[List.length_take];lia)
theorem yN{α:Type}(x:List α)(k:Nat):qO x (some (k:Int)) none=x.drop k:=by
 unfold qO qZ;simp only[if_neg (show ¬ (k:Int)<0 by lia),Int.toNat_natCast]
 by_cases hk:k<=x.length
 ·rw[Nat.min_eq_left hk];exact List.take_of_length_le (by simp)
 ·rw[Nat.min_eq_right (by lia),List.drop_length,List.drop_eq_nil_of_le (by lia),List.take_nil]
theorem qDT(B n:Nat)(h:AH)(i:Nat)(xs:List Int)(k:Nat)(hx:qC h i=some (xs.map .int)):qA fns B (n+1) qNa [.ref i,.int k] h=.ok (.int (xs.getD k 0)) h:=by
 rw[qQ2];simp! only [tZ, *,hx,List.length_map]
 by_cases hk:k<xs.length
 ·have e:decide ((k:Int)<(xs.length:Int))=true:=by simpa using hk
  have e2:xs[k]?=some xs[k]:=by simp[hk]
  simp! only [e,Option.bind_some,ixN,List.length_map,if_pos (show (0:Int)<=k by lia),if_pos (show (k:Int)<xs.length by lia),Int.toNat_natCast,e2,List.getElem?_map,Option.map_some,List.getD_eq_getElem?_getD,Option.getD_some]
 ·have e:decide ((k:Int)<(xs.length:Int))=false:=by simpa using hk
  have e2:xs[k]?=none:=by simp;lia
  simp! only [qFh, *,e,List.getD_eq_getElem?_getD,e2,Option.getD_none]
def okC(c:Nat):Bool:=decide (32<=c)&&decide (c<=126)&&!decide (c=37)
theorem qL8(B n:Nat)(c:Nat)(h:AH):qA fns B (n+1) qNg [.str [c]] h=.ok (.bl (okC c)) h:=by
 rw[qQ8];have e1:decide ((32:Int)<=(c:Int))=decide (32<=c):=wN 32 c;have e2:decide ((c:Int)<=(126:Int))=decide (c<=126):=wN c 126;have e3:((c:Int) == 37)=decide (c=37):=qD2 c 37;simp! only [qAM, *,e1];unfold okC
 by_cases h1:32<=c
 ·by_cases h2:c<=126
  ·simp! only [e2,e3,h1,h2,Bool.true_and]
  ·simp! only [e2,h1,h2,Bool.and_false,Bool.false_and]
 ·simp! only [h1,Bool.false_and]
theorem qDN(B n:Nat)(x:Tx)(h:AH)(hz:x.length<=1000):qA fns B (n+2) qNf [.str x] h=.ok (.bl (x.all okC)) (h++[.lst (x.map fun c=>.bl (okC c))]):=by
 rw[qQ7]
 have e:zL (jI (den (qA fns B (n+1)) qAK) [some (D.str x)]) (x.map fun c=>D.str [c]) h=.ok (x.map fun c=>.bl (okC c)) h:=by
  rw[dA _ (fun d=>match d with | .str [c]=>.bl (okC c) | _=>.non)]
  ·rw[List.map_map];rfl
  ·intro y hy;obtain ⟨c,_,rfl⟩:=List.mem_map.mp hy;simp! only [qAK, *,wB,qL8]
 have hz':x.length<=16777216:=by lia
 have hz2:x.length<16777216:=by lia
 simp! only [qAL, *,e,List.length_map,hz',hz2,nG,Option.bind_some,qBb]
def chk(v:Int)(x:Tx):Int:=x.foldl (fun (v:Int) (c:Nat)=>(v*31+(c:Int)-32) % 9973) v
theorem qMJ(B n:Nat)(x:Tx)(h:AH):qA fns B (n+1) qNr [.str x] h=.ok (.int (chk 7 x)) h:=by
 have step:∀ (c:Nat) (v:Int) (l:Option D),qV (TG.nm 2) (qB (qA fns B n) B fQ) (.str [c]) [some (.str x),some (.int v),l] h=.nx [some (.str x),some (.int ((v*31+(c:Int)-32) % 9973)),some (.str [c])] h:=by
  intro c v l;simp! only [fQ, *,if_pos (qLK (i:=v) (j:=31) (by lia)),show (0:Int)<9973 by lia]
 have L:∀ (z:Tx) (v:Int) (l:Option D),∃ l',zJ (qV (TG.nm 2) (qB (qA fns B n) B fQ)) (z.map fun c=>D.str [c]) [some (.str x),some (.int v),l] h=.nx [some (.str x),some (.int (chk v z)),l'] h:=by
  intro z
  induction z with
  |nil=>intro v l;exact⟨l,rfl⟩
  |cons c z ih=>intro v l;rw[List.map_cons,zJ,step,qBq];exact ih _ _
 rw[qRP];simp! only [qAn, *,and_self];obtain ⟨l',L⟩:=L x 7 none;rw[L];simp! only [qF6, *,and_self]
def txN(m:Nat):Tx:=(Nat.toDigits 10 m).map Char.toNat
theorem qHI(m:Nat):txI (m:Int)=txN m:=by
 unfold txI txN;have e:(toString (m:Int):String)=String.ofList (Nat.toDigits 10 m):=rfl;rw[e,String.toList_ofList]
theorem dch:∀ d:Nat,d<10->(Nat.digitChar d).toNat=48+d:=by decide
theorem wZ(h:m<10):txN m=[48+m]:=by
 unfold txN;rw[Nat.toDigits_of_lt_base h,List.map_cons,List.map_nil,dch m h]
theorem gN(h:10<=m):txN m=txN (m / 10)++[48+m % 10]:=by
 unfold txN;rw[Nat.toDigits_of_base_le (by lia) h,List.map_append,List.map_cons,List.map_nil,dch _ (Nat.mod_lt _ (by lia))]
theorem iN(m:Nat):jV (txN m)=true:=by
 induction m using Nat.strongRecOn with
 |_ m ih=>
  by_cases h:m<10
  ·rw[wZ h];unfold jV;simp;lia
  ·rw[gN (by lia)];unfold jV;rw[List.all_append]
   have:=ih (m / 10) (by lia)
   unfold jV at this;rw[this]
   have:=Nat.mod_lt m (show 10 > 0 by lia)
   simp
   lia
theorem qPZ(x:Tx)(c:Nat):kN (x++[c])=kN x*10+(c-48):=by
 unfold kN;rw[List.foldl_append];rfl
theorem qHG(m:Nat):kN (txN m)=m:=by
 induction m using Nat.strongRecOn with
 |_ m ih=>
  by_cases h:m<10
  ·rw[wZ h];unfold kN;simp
  ·rw[gN (by lia),qPZ,ih (m / 10) (by lia)]
   lia
theorem iL(m:Nat):txN m≠[]:=by
 by_cases h:m<10
 ·rw[wZ h];simp
 ·rw[gN (by lia)];simp
theorem qHH(h:0<m):(txN m)[0]?≠some 48:=by
 induction m using Nat.strongRecOn with
 |_ m ih=>
  by_cases h1:m<10
  ·rw[wZ h1];simp;lia
  ·rw[gN (by lia)]
   have:=ih (m / 10) (by lia) (by lia)
   rw[List.getElem?_append_left (List.length_pos_iff.mpr (iL _))];exact this
theorem iM:∀ k:Nat,m<10 ^ (k+1)->(txN m).length<=k+1:=by
 intro k
 induction k generalizing m with
 |zero=>intro h;rw[wZ (by simpa using h)];simp
 |succ k ih=>
  intro h
  by_cases h1:m<10
  ·rw[wZ h1];simp
  ·rw[gN (by lia),List.length_append]
   have:=ih (m:=m / 10) (by rw[Nat.pow_succ] at h;lia)
   simp only[List.length_cons,List.length_nil]
   lia
def FIG:Tx:=[48,49,50,51,52,53,54,55,56,57]
def dgC(c:Nat):Bool:=decide (48<=c/\c<=57)
theorem qOx(c:Nat):FIG.contains c=dgC c:=by
 by_cases h:c<58
 ·exact (by decide:∀ c,c<58->FIG.contains c=dgC c) c h
 ·have e:FIG.contains c=false:=by
   cases q:FIG.contains c with
   |false=>rfl
   |true=>exact absurd ((by decide:∀ x∈FIG,x<58) c (List.contains_iff_mem.mp q)) h
  rw[e];unfold dgC;exact (decide_eq_false (by omega)).symm
theorem log2_lt{i:Int}(h0:0<=i)(h:i<10000000000000):i.natAbs.log2<1920:=by
 by_cases h1:i.natAbs=0
 ·rw[h1];decide
 ·refine Nat.lt_of_lt_of_le ((Nat.log2_lt h1).mpr (show i.natAbs<2 ^ 44 from ?_)) (by decide)
  have:(2:Nat) ^ 44=17592186044416:=by decide
  lia
theorem qMH(B n:Nat)(i:Int)(h0:0<=i)(h1:i<10000000000000)(h:AH):qA fns B (n+1) qEA [.int i] h=.ok (.str (txI i)) h:=by
 rw[qRL];simp! only [qAi, *,if_pos (log2_lt h0 h1)]
def yL(x:Tx):Bool:=decide (1<=x.length/\x.length<=13)&&!(decide (x[0]?=some 48)&&decide (1<x.length))&&x.all dgC
theorem qL9(B n:Nat)(x:Tx)(h:AH)(hz:x.length<=1000):∃ g,qA fns B (n+1) qNl [.str x] h=.ok (.bl (yL x)) (h++g):=by
 rw[qRE];have hz':x.length<=16777216:=by lia
 have hz2:x.length<16777216:=by lia
 have e1:decide ((1:Int)<=(x.length:Int))=decide (1<=x.length):=wN 1 x.length;have e2:decide ((x.length:Int)<=13)=decide (x.length<=13):=wN x.length 13;have e3:decide ((1:Int)<(x.length:Int))=decide (1<x.length):=yK 1 x.length;unfold yL
 match x,hz,hz',hz2,e1,e2,e3 with
 | [],_,_,_,_,_,_=>exact⟨[],by rw[List.append_nil];rfl⟩
 |c::r,hz,hz',hz2,e1,e2,e3=>
  have f1:decide (1<=(c::r).length)=true:=by simp
  have ix0:(ixN (c::r).length 0).bind ((c::r)[·]?)=some c:=by
   rw[show (0:Int)=((0:Nat):Int) from rfl,mR (by simp)];rfl
  generalize hy:c::r=x at *;have hx0:x[0]?=some c:=by rw[<- hy];rfl
  simp! only [qAU, *,hz',e1,f1,e2]
  by_cases h13:x.length<=13
  ·have q1:decide (1<=x.length/\x.length<=13)=true:=decide_eq_true ⟨of_decide_eq_true f1,h13⟩;rw[q1,hx0];simp! only [qFs, *,h13,hz',ix0,e3,Bool.true_and,Option.some.injEq]
   have e:zL (jI (den (qA fns B n) qAT) [some (D.str x)]) (x.map fun c=>D.str [c]) h=.ok (x.map fun c=>.bl (dgC c)) h:=by
    rw[dA _ (fun d=>match d with | .str [c]=>.bl (dgC c) | _=>.non)]
    ·rw[List.map_map];rfl
    ·intro y hy;obtain ⟨c,_,rfl⟩:=List.mem_map.mp hy;have q:=qOx c;unfold FIG at q;simp! only [qAT, *,wB,q]
   by_cases h48:c=48
   ·subst h48;simp! only [BEq.rfl,Bool.true_and,hz',e3]
    by_cases hl:1<x.length
    ·simp! only [hl,Bool.false_and]
     exact⟨[],by rw[List.append_nil]⟩
    ·simp! only [qAS, *,hl,Bool.true_and,List.length_map,hz',hz2,e,nG,Option.bind_some,qBb]
     exact⟨_,rfl⟩
   ·have q:(([c]:Tx) == [48])=false:=by simp[h48]
    simp! only [qAS, *,q,h48,Bool.false_and,Bool.true_and,List.length_map,hz',hz2,e,nG,Option.bind_some,qBb]
    exact⟨_,rfl⟩
  ·have q1:decide (1<=x.length/\x.length<=13)=false:=decide_eq_false fun q=>h13 q.2;rw[q1];simp! only [h13,Bool.false_and]
   exact⟨[],by rw[List.append_nil]⟩
def zK(x:Tx):D:=if yL x=true then (if kN x<=1000000000000 then .int (kN x) else .non) else .non
theorem qUC:x.all dgC=jV x:=rfl
theorem qL2(B n:Nat)(x:Tx)(h:AH)(hz:x.length<=1000):∃ g,qA fns B (n+2) qNU [.str x] h=.ok (zK x) (h++g):=by
 rw[qQx];obtain ⟨g,e⟩:=qL9 B n x h hz;refine⟨g,?_⟩;unfold zK;cases q:yL x with
 |false=>simp! only [fH, *,e,q]
 |true=>
  have q':=q;unfold yL at q';simp only[Bool.and_eq_true,decide_eq_true_eq] at q';obtain ⟨⟨⟨l1,l2⟩,_⟩,l3⟩:=q';have hc:x≠[]/\x.length<=640/\jV x=true:=⟨List.length_pos_iff.mp l1,by lia,l3⟩;have ed:decide ((kN x:Int)<=1000000000000)=decide (kN x<=1000000000000):=wN _ _;simp! only [fH,qFe, *,e,q,if_pos hc,ed]
  by_cases hd:kN x<=1000000000000 <;> simp! only [hd]
theorem lN(m:Nat)(h:m<=1000000000000):zK (txN m)=.int m:=by
 unfold zK;have hl:(txN m).length<=13:=iM 12 (by have:(10:Nat) ^ (12+1)=10000000000000:=(by decide);lia)
 have:yL (txN m)=true:=by
  unfold yL;rw[qUC,iN,decide_eq_true (show 1<=(txN m).length/\(txN m).length<=13 from ⟨List.length_pos_iff.mpr (iL m),hl⟩)]
  by_cases h0:0<m
  ·rw[decide_eq_false (qHH h0)];rfl
  ·have:m=0:=by lia
   subst this;rw[wZ (by lia)];rfl
 rw[this,if_pos rfl,qHG,if_pos h]
theorem isi_int(h:AH)(t:Ty)(i:Int):kS h t (.int i)=some (t == .int):=rfl
theorem isi_str(h:AH)(t:Ty)(x:Tx):kS h t (.str x)=some (t == .str):=rfl
theorem isi_tup(h:AH)(t:Ty)(x:List D):kS h t (.tup x)=some (t == .tuple):=rfl
section
variable (B n:Nat)(h:AH)
theorem uI{i lo hi:Int}(h1:lo<=i)(h2:i<=hi):qA fns B (n+1) qNj [.int i,.int lo,.int hi] h=.ok (.bl true) h:=by
 rw[qRB];simp! only [qAP,qFr, *,isi_int,show (Ty.bool == Ty.int)=false from rfl,show (Ty.int == Ty.int)=true from rfl,decide_eq_true h1,decide_eq_true h2]
theorem mC{i:Int}(h1:1<=i)(h2:i<=1000000000):qA fns B (n+2) qNk [.int i] h=.ok (.bl true) h:=by
 rw[qRC];simp! only [qAQ, *,uI B n h h1 h2]
theorem dD{i:Int}(h1:0<=i)(h2:i<=1000000):qA fns B (n+2) qNh [.int i] h=.ok (.bl true) h:=by
 rw[qQ9];simp! only [qAN, *,uI B n h h1 h2]
theorem mB(k:D)(a b c:Int)(r:List D)(ha:1<=a)(ha2:a<=1000000000)(hb:1<=b)(hb2:b<=1000000000)(hc:0<=c)(hc2:c<=999):qA fns B (n+3) qNV [.tup (k::.int a::.int b::.int c::r)] h=.ok (.bl true) h:=by
 rw[qQy]
 have i1:((ixN (r.length+4) 1).bind fun j=>(k::D.int a::.int b::.int c::r)[j]?)=some (.int a):=by
  rw[show ixN (r.length+4) 1=some 1 by unfold ixN;rw[if_pos (by lia),if_pos (by lia)];rfl];rfl
 have i2:((ixN (r.length+4) 2).bind fun j=>(k::D.int a::.int b::.int c::r)[j]?)=some (.int b):=by
  rw[show ixN (r.length+4) 2=some 2 by unfold ixN;rw[if_pos (by lia),if_pos (by lia)];rfl];rfl
 have i3:((ixN (r.length+4) 3).bind fun j=>(k::D.int a::.int b::.int c::r)[j]?)=some (.int c):=by
  rw[show ixN (r.length+4) 3=some 3 by unfold ixN;rw[if_pos (by lia),if_pos (by lia)];rfl];rfl
 simp! only [tN, *,List.length_cons,i1,i2,i3,mC B n h ha ha2,mC B n h hb hb2,uI B (n+1) h hc hc2]
end
def HELLO:Tx:=[104,101,108,108,111]
def DATA:Tx:=[100,97,116,97]
def ENDW:Tx:=[101,110,100]
def ANS:Tx:=[97,110,115,119,101,114]
inductive La where
 |no | sg (y:Tx) | sp (l:List (Nat × Nat))
structure Pce where
 k:Tx
 ns:List Nat
 la:La
def nsD(ns:List Nat):List D:=ns.map fun n:Nat=>D.int n
def qJ(p:Nat × Nat):D:=.tup [.int p.1,.int p.2]
def laD:La->List D
 | .no=>[]
 | .sg y=>[.str y]
 | .sp l=>[.tup (l.map qJ)]
def toD(p:Pce):D:=.tup (.str p.k::(nsD p.ns++laD p.la))
def Abv:Nat->List (Nat × Nat)->Prop
 |_,[]=>True
 |u,p::r=>u<p.1/\p.1<p.2/\p.2<=3000/\Abv p.2 r
inductive Shp:Pce->Prop where
 |hello (a b:Nat):1<=a->Shp ⟨HELLO,[a,b],.no⟩
 |data (a b c d:Nat) (y:Tx):y.all okC=true->y.length<=40->1<=a->1<=b->c<=999->d<=3000->Shp ⟨DATA,[a,b,c,d],.sg y⟩
 |fin (a b c d:Nat):1<=a->1<=b->c<=999->d<=3000->Shp ⟨ENDW,[a,b,c,d],.no⟩
 |ans (a b c d e:Nat) (l:List (Nat × Nat)):l.length<=8->(∀ q∈l,q.1<=1000000/\q.2<=1000000)->1<=a->1<=b->c<=999->d<=3000->e<=3000->Abv d l->Shp ⟨ANS,[a,b,c,d,e],.sp l⟩
def okP(p:Pce):Prop:=Shp p/\∀ n∈p.ns,n<=1000000000
section
variable (B n:Nat)(h:AH)
theorem w1:(HELLO == [104,101,108,108,111])=true:=rfl
theorem w2:(DATA == [104,101,108,108,111])=false:=rfl
theorem w3:(DATA == [100,97,116,97])=true:=rfl
theorem w4:(ENDW == [104,101,108,108,111])=false:=rfl
theorem w5:(ENDW == [100,97,116,97])=false:=rfl
theorem w6:(ENDW == [101,110,100])=true:=rfl
theorem w7:(ANS == [104,101,108,108,111])=false:=rfl
theorem w8:(ANS == [100,97,116,97])=false:=rfl
theorem w9:(ANS == [101,110,100])=false:=rfl
theorem w10:(ANS == [97,110,115,119,101,114])=true:=rfl
theorem tyt:(Ty.tuple == Ty.tuple)=true:=rfl
theorem tys:(Ty.str == Ty.str)=true:=rfl
theorem qLr{p:Nat × Nat}{fl:Int}(h1:fl<p.1)(h2:p.1<p.2)(h3:p.2<=3000):qA fns B (n+3) qNe [qJ p,.int fl] h=.ok (.bl true) h:=by
 rw[qQ6];have i0:((ixN 2 0).bind fun j=>[D.int p.1,.int p.2][j]?)=some (.int p.1):=rfl;have i1:((ixN 2 1).bind fun j=>[D.int p.1,.int p.2][j]?)=some (.int p.2):=rfl;have d1:decide (fl<(p.1:Int))=true:=decide_eq_true h1;have d2:decide ((p.1:Int)<(p.2:Int))=true:=decide_eq_true (by lia);simp! only [qAJ,qFp, *,qJ,isi_tup,tyt,List.length_cons,List.length_nil,show ((((0+1+1:Nat)):Int) == 2)=true from rfl,i0,i1,dD B n h (show (0:Int)<=p.1 by lia) (show (p.1:Int)<=1000000 by lia),dD B n h (show (0:Int)<=p.2 by lia) (show (p.2:Int)<=1000000 by lia),d1,d2]
theorem qB2(x0:Option D):∀ (l:List (Nat × Nat)) (u:Nat) (s2:Option D),Abv u l->∃ s1 s2',zJ (qV (.nm 2) (qB (qA fns B (n+3)) B fS)) (l.map qJ) [x0,some (.int u),s2] h=.nx [x0,s1,s2'] h
 | [],u,s2,_=>⟨_,s2,rfl⟩
 |p::r,u,s2,⟨h1,h2,h3,h4⟩=>by
  obtain ⟨s1,s2',e⟩:=qB2 x0 r p.2 (some (qJ p)) h4;refine⟨s1,s2',?_⟩;show SR.turn (qV (.nm 2) (qB (qA fns B (n+3)) B fS) (qJ p) _ h) _=_;rw[kA,<- e];have e1:qA fns B (n+3) 34 [.tup [.int p.1,.int p.2],.int u] h=.ok (.bl true) h:=qLr B n h (p:=p) (fl:=u) (by lia) h2 h3;have i1:((ixN 2 1).bind fun j=>[D.int p.1,.int p.2][j]?)=some (.int p.2):=rfl;simp! only [fS,qGB, *,e1,qJ,i1,List.length_cons,List.length_nil]
theorem qLp{l:List (Nat × Nat)}{u:Nat}(hl:l.length<=8)(ha:Abv u l):qA fns B (n+4) qNu [.tup (l.map qJ),.int u] h=.ok (.bl true) h:=by
 rw[qRS];obtain ⟨s1,s2,e⟩:=qB2 B n h (some (.tup (l.map qJ))) l u none ha;have d1:decide ((8:Int)<(l.length:Int))=false:=decide_eq_false (by lia);simp! only [qAr,qF9,qGA, *,isi_tup,tyt,List.length_map,d1,e]
theorem qDO{p:Pce}(hp:okP p):∃ f,qA fns B (n+6) qNi [toD p] h=.ok (.bl true) (h++f):=by
 rw[qRA];obtain ⟨sh,bd⟩:=hp;cases sh with
 |hello a b ha=>
  have b1:=bd a (by simp);have b2:=bd b (by simp);show ∃ gg,Fy.fin (qB (qA fns B (n+5)) B vI [some (.tup [D.str HELLO,.int a,.int b]),none] h)=.ok (.bl true) (h++gg);have i0:((ixN [D.str HELLO,.int a,.int b].length 0).bind fun j=>[D.str HELLO,.int a,.int b][j]?)=some (.str HELLO):=rfl;have i1:((ixN [D.str HELLO,.int a,.int b].length 1).bind fun j=>[D.str HELLO,.int a,.int b][j]?)=some (.int a):=rfl;have i2:((ixN [D.str HELLO,.int a,.int b].length 2).bind fun j=>[D.str HELLO,.int a,.int b][j]?)=some (.int b):=rfl;have z0:((([D.str HELLO,.int a,.int b].length:Nat):Int) == 0)=false:=rfl;have z1:((([D.str HELLO,.int a,.int b].length:Nat):Int) == 3)=true:=rfl;generalize [D.str HELLO,.int a,.int b]=ds at *
  have s:qA fns B (n+5) 31 [.tup ds] h=.ok (.bl true) h:=by
   rw[qRD];simp! only [qAR, *,z1,i1,i2,mC B (n+2) h (show (1:Int)<=a by lia) (show (a:Int)<=1000000000 by lia),uI B (n+3) h (show (0:Int)<=b by lia) (show (b:Int)<=1000000000 by lia)]
  exact⟨[],by rw[List.append_nil];simp! only [vI,bF,bG, *,isi_tup,tyt,z0,i0,isi_str,tys,w1,s]⟩
 |data a b c d y hy hl ha hb hc hd=>
  have b1:=bd a (by simp);have b2:=bd b (by simp);show ∃ gg,Fy.fin (qB (qA fns B (n+5)) B vI [some (.tup [D.str DATA,.int a,.int b,.int c,.int d,.str y]),none] h)=.ok (.bl true) (h++gg);have i0:((ixN [D.str DATA,.int a,.int b,.int c,.int d,.str y].length 0).bind fun j=>[D.str DATA,.int a,.int b,.int c,.int d,.str y][j]?)=some (.str DATA):=rfl;have i4:((ixN [D.str DATA,.int a,.int b,.int c,.int d,.str y].length 4).bind fun j=>[D.str DATA,.int a,.int b,.int c,.int d,.str y][j]?)=some (.int d):=rfl;have i5:((ixN [D.str DATA,.int a,.int b,.int c,.int d,.str y].length 5).bind fun j=>[D.str DATA,.int a,.int b,.int c,.int d,.str y][j]?)=some (.str y):=rfl;have z0:((([D.str DATA,.int a,.int b,.int c,.int d,.str y].length:Nat):Int) == 0)=false:=rfl;have z1:((([D.str DATA,.int a,.int b,.int c,.int d,.str y].length:Nat):Int) == 6)=true:=rfl;have nm:qA fns B (n+4) 30 [.tup [D.str DATA,.int a,.int b,.int c,.int d,.str y]] h=.ok (.bl true) h:=mB B (n+1) h (.str DATA) a b c [.int d,.str y] (by lia) (by lia) (by lia) (by lia) (by lia) (by lia);have s0:=qDN B (n+2) y h (by lia);rw[hy] at s0;have d1:decide ((y.length:Int)<=40)=true:=decide_eq_true (by lia);have d2:decide ((d:Int)+(y.length:Int)<=1000000)=true:=decide_eq_true (by lia);have s0:qA fns B (n+4) 22 [.str y] h=.ok (.bl true) (h++[.lst (y.map fun c=>.bl (okC c))]):=s0;generalize [D.str DATA,.int a,.int b,.int c,.int d,.str y]=ds at *;generalize hh1:h++[.lst (y.map fun c=>.bl (okC c))]=h1 at s0
  have s:qA fns B (n+5) 32 [.tup ds] h=.ok (.bl true) h1:=by
   rw[qRG];simp! only [qAW,qFt,qFu, *,z1,nm,i4,i5,dD B (n+2) h (show (0:Int)<=d by lia) (show (d:Int)<=1000000 by lia),s0,if_pos (show y.length<=16777216 by lia),d1,d2]
  exact⟨_,by rw[hh1];simp! only [vI,bF,bG,fN, *,isi_tup,tyt,z0,i0,isi_str,tys,w2,w3,s]⟩
 |fin a b c d ha hb hc hd=>
  have b1:=bd a (by simp);have b2:=bd b (by simp);show ∃ gg,Fy.fin (qB (qA fns B (n+5)) B vI [some (.tup [D.str ENDW,.int a,.int b,.int c,.int d]),none] h)=.ok (.bl true) (h++gg);have i0:((ixN [D.str ENDW,.int a,.int b,.int c,.int d].length 0).bind fun j=>[D.str ENDW,.int a,.int b,.int c,.int d][j]?)=some (.str ENDW):=rfl;have i4:((ixN [D.str ENDW,.int a,.int b,.int c,.int d].length 4).bind fun j=>[D.str ENDW,.int a,.int b,.int c,.int d][j]?)=some (.int d):=rfl;have z0:((([D.str ENDW,.int a,.int b,.int c,.int d].length:Nat):Int) == 0)=false:=rfl;have z1:((([D.str ENDW,.int a,.int b,.int c,.int d].length:Nat):Int) == 5)=true:=rfl;have nm:qA fns B (n+4) 30 [.tup [D.str ENDW,.int a,.int b,.int c,.int d]] h=.ok (.bl true) h:=mB B (n+1) h (.str ENDW) a b c [.int d] (by lia) (by lia) (by lia) (by lia) (by lia) (by lia);generalize [D.str ENDW,.int a,.int b,.int c,.int d]=ds at *
  have s:qA fns B (n+5) 33 [.tup ds] h=.ok (.bl true) h:=by
   rw[qRF];simp! only [qAV, *,z1,nm,i4,dD B (n+2) h (show (0:Int)<=d by lia) (show (d:Int)<=1000000 by lia)]
  exact⟨[],by rw[List.append_nil];simp! only [vI,bF,bG,fN,qAO, *,isi_tup,tyt,z0,i0,isi_str,tys,w4,w5,w6,s]⟩
 |ans a b c d f l hl h2 ha hb hc hd hf hab=>
  have b1:=bd a (by simp);have b2:=bd b (by simp);show ∃ gg,Fy.fin (qB (qA fns B (n+5)) B vI [some (.tup [D.str ANS,.int a,.int b,.int c,.int d,.int f,.tup (l.map qJ)]),none] h)=.ok (.bl true) (h++gg);have i0:((ixN [D.str ANS,.int a,.int b,.int c,.int d,.int f,.tup (l.map qJ)].length 0).bind fun j=>[D.str ANS,.int a,.int b,.int c,.int d,.int f,.tup (l.map qJ)][j]?)=some (.str ANS):=rfl;have i4:((ixN [D.str ANS,.int a,.int b,.int c,.int d,.int f,.tup (l.map qJ)].length 4).bind fun j=>[D.str ANS,.int a,.int b,.int c,.int d,.int f,.tup (l.map qJ)][j]?)=some (.int d):=rfl;have i5:((ixN [D.str ANS,.int a,.int b,.int c,.int d,.int f,.tup (l.map qJ)].length 5).bind fun j=>[D.str ANS,.int a,.int b,.int c,.int d,.int f,.tup (l.map qJ)][j]?)=some (.int f):=rfl;have i6:((ixN [D.str ANS,.int a,.int b,.int c,.int d,.int f,.tup (l.map qJ)].length 6).bind fun j=>[D.str ANS,.int a,.int b,.int c,.int d,.int f,.tup (l.map qJ)][j]?)=some (.tup (l.map qJ)):=rfl;have z0:((([D.str ANS,.int a,.int b,.int c,.int d,.int f,.tup (l.map qJ)].length:Nat):Int) == 0)=false:=rfl;have z1:((([D.str ANS,.int a,.int b,.int c,.int d,.int f,.tup (l.map qJ)].length:Nat):Int) == 7)=true:=rfl;have nm:qA fns B (n+4) 30 [.tup [D.str ANS,.int a,.int b,.int c,.int d,.int f,.tup (l.map qJ)]] h=.ok (.bl true) h:=mB B (n+1) h (.str ANS) a b c [.int d,.int f,.tup (l.map qJ)] (by lia) (by lia) (by lia) (by lia) (by lia) (by lia);have s0:=qLp B n h hl hab;have s0:qA fns B (n+4) 35 [.tup (l.map qJ),.int d] h=.ok (.bl true) h:=s0;generalize [D.str ANS,.int a,.int b,.int c,.int d,.int f,.tup (l.map qJ)]=ds at *;generalize l.map qJ=w at *
  have s:qA fns B (n+5) 36 [.tup ds] h=.ok (.bl true) h:=by
   rw[qRH];simp! only [qAX,qFv,qFw, *,z1,nm,i4,i5,i6,uI B (n+3) h (show (0:Int)<=d by lia) (show (d:Int)<=1000001 by lia),uI B (n+3) h (show (0:Int)<=f by lia) (show (f:Int)<=1000200 by lia),s0]
  exact⟨[],by rw[List.append_nil];simp! only [vI,bF,bG,fN,qAO,qFq, *,isi_tup,tyt,z0,i0,isi_str,tys,w7,w8,w9,w10,s]⟩
end
def zM(p:Nat × Nat):Tx:=qX [45] [txN p.1,txN p.2]
def spW:List (Nat × Nat)->Tx
 | []=>[45]
 |q::r=>qX [44] ((q::r).map zM)
def laW:La->List Tx
 | .no=>[]
 | .sg y=>[txN y.length++[58]++y]
 | .sp l=>[spW l]
def wds(p:Pce):List Tx:=p.k::(p.ns.map txN++laW p.la)
def bod(p:Pce):Tx:=qX [32] (wds p)
def kU(v:Int):Tx:=List.replicate (4-(txN v.toNat).length) 48++txN v.toNat
def wr(p:Pce):Tx:=bod p++[32]++kU (chk 7 (bod p))
theorem qE8(x:Tx):∀ v:Int,0<=v->v<9973->0<=chk v x/\chk v x<9973:=by
 induction x with
 |nil=>intro v h1 h2;exact⟨h1,h2⟩
 |cons c x ih=>intro v _ _;exact ih _ (Int.emod_nonneg _ (by lia)) (Int.emod_lt_of_pos _ (by lia))
theorem dS(c:Nat):∀ ws:List Tx,(qX [c] ws).length<=(ws.map fun w=>w.length+1).sum
 | []=>Nat.le_refl _
 | [x]=>by show x.length<=x.length+1+0;lia
 |x::y::r=>by
  have:=dS c (y::r)
  show (x++[c]++qX [c] (y::r)).length<=x.length+1+((y::r).map fun w=>w.length+1).sum;rw[List.length_append,List.length_append];simp only[List.length_cons,List.length_nil] at *
  lia
theorem wF(h:m<=1000000000):(txN m).length<=10:=iM 9 (by have:(10:Nat) ^ (9+1)=10000000000:=(by decide);lia)
theorem gS{α:Type}(f:α->Nat)(b:Nat):∀ l:List α,(∀ x∈l,f x<=b)->(l.map f).sum<=b*l.length
 | [],_=>by simp
 |x::l,h=>by
  have h1:=h x (List.mem_cons_self ..);have h2:=gS f b l fun y hy=>h y (List.mem_cons_of_mem _ hy);rw[List.map_cons,List.sum_cons,List.length_cons,Nat.mul_succ]
  lia
theorem qB9(h:q.1<=1000000/\q.2<=1000000):(zM q).length<=22:=by
 have a:=wF (m:=q.1) (by lia);have b:=wF (m:=q.2) (by lia)
 have:=dS 45 [txN q.1,txN q.2]
 simp only[List.map_cons,List.map_nil,List.sum_cons,List.sum_nil] at this;unfold zM
 lia
theorem qDe(h:okP p):∀ w∈laW p.la,w.length<=200:=by
 intro w hw;cases h.1 with
 |hello a b=>cases hw
 |fin a b c d=>cases hw
 |data a b c d y h1 h2=>
  have hw:w∈[txN y.length++[58]++y]:=hw;rw[List.mem_singleton.mp hw,List.length_append,List.length_append]
  have:=wF (m:=y.length) (by lia)
  simp only[List.length_cons,List.length_nil]
  lia
 |ans a b c d e l h1 h2=>
  have hw:w∈[spW l]:=hw;rw[List.mem_singleton.mp hw];cases l with
  |nil=>show 1<=200;lia
  |cons q r=>
   have h3:=dS 44 ((q::r).map zM);rw[List.map_map] at h3;have h4:=gS ((fun w:Tx=>w.length+1) ∘ zM) 23 (q::r) (fun x hx=>by have:=qB9 (h2 x hx);show (zM x).length+1<=23;lia);show (qX [44] ((q::r).map zM)).length<=200
   lia
theorem kl(h:Shp p):p.k.length<=6:=by
 cases h with
 |hello=>exact (by decide:HELLO.length<=6)
 |data=>exact (by decide:DATA.length<=6)
 |fin=>exact (by decide:ENDW.length<=6)
 |ans=>exact (by decide:ANS.length<=6)
theorem qFN(h:okP p):(bod p).length<=400:=by
 have h1:=dS 32 (wds p);have h2:=qDe h;unfold bod
 have h3:((wds p).map fun w=>w.length+1).sum=p.k.length+1+(((p.ns.map txN).map fun w=>w.length+1).sum+((laW p.la).map fun w=>w.length+1).sum):=by
  unfold wds;rw[List.map_cons,List.sum_cons,List.map_append,List.sum_append]
 have h4:((p.ns.map txN).map fun w=>w.length+1).sum<=11*p.ns.length:=by
  rw[List.map_map];exact gS _ 11 p.ns fun x hx=>by have:=wF (h.2 x hx);show (txN x).length+1<=11;lia
 have h5:((laW p.la).map fun w=>w.length+1).sum<=201*(laW p.la).length:=gS _ 201 _ fun x hx=>by have:=h2 x hx;lia
 have h6:p.k.length<=6/\p.ns.length<=5/\(laW p.la).length<=1:=by
  refine⟨kl h.1,?_⟩;cases h.1 <;> exact⟨by simp,by simp[laW]⟩
 lia
theorem qDF(f:D->M (Option D))(r:D->D):∀ (xs:List D) (h:AH),(∀ x∈xs,∀ h,∃ g,f x h=.ok (some (r x)) (h++g))->∃ g,zL f xs h=.ok (xs.map r) (h++g)
 | [],h,_=>⟨[],by rw[List.append_nil];rfl⟩
 |x::xs,h,H=>by
  obtain ⟨g1,e1⟩:=H x (List.mem_cons_self ..) h;obtain ⟨g2,e2⟩:=qDF f r xs (h++g1) fun y hy=>H y (List.mem_cons_of_mem _ hy);refine⟨g1++g2,?_⟩;show ((f x).bind fun y=>(zL f xs).bind fun ys=>M.ret (match y with | some y=>y::ys | none=>ys)) h=_;simp only[M.bind_eq,e1,R.bind_ok,e2,M.ret_eq,List.append_assoc];rfl
theorem qDH(f:D->M (Option D))(r:D->D)(i:Nat)(xs:List D)(H:∀ x∈xs,∀ h,qC h i=some xs->∃ g,f x h=.ok (some (r x)) (h++g)):∀ (n k:Nat) (h:AH),qC h i=some xs->n+k=xs.length+1->k<=xs.length->∃ g,zR f i n k h=.ok ((xs.drop k).map r) (h++g)
 |0,k,h,hg,hn,hk=>by lia
 |n+1,k,h,hg,hn,hkl=>by
  unfold zR;rw[hg];simp only
  by_cases hk:k<xs.length
  ·have e:xs[k]?=some xs[k]:=by simp[hk]
   rw[e];obtain ⟨g1,e1⟩:=H _ (List.getElem_mem hk) h hg;obtain ⟨g2,e2⟩:=qDH f r i xs H n (k+1) (h++g1) (eC g1 hg) (by lia) hk;refine⟨g1++g2,?_⟩;simp only[M.bind_eq,e1,R.bind_ok,e2,M.ret_eq];rw[List.drop_eq_getElem_cons hk,List.append_assoc];rfl
  ·have e:xs[k]?=none:=by simp;lia
   rw[e,List.drop_eq_nil_of_le (by lia)]
   exact⟨[],by rw[List.append_nil];rfl⟩
theorem cZ(f:D->M (Option D))(r:D->D)(i:Nat)(xs:List D)(h:AH)(hg:qC h i=some xs)(hl:xs.length<=1000000)(H:∀ x∈xs,∀ h,qC h i=some xs->∃ g,f x h=.ok (some (r x)) (h++g)):∃ g,zR f i (zN h i) 0 h=.ok (xs.map r) (h++g)/\zN h i<16777216:=by
 have e:zN h i=xs.length+1:=by unfold zN;rw[hg];rfl
 obtain ⟨g,q⟩:=qDH f r i xs H (xs.length+1) 0 h hg rfl (Nat.zero_le _);rw[List.drop_zero] at q
 exact⟨g,by rw[e];exact q,by lia⟩
theorem bX:∀ ws:List Tx,jO (ws.map D.str)=some ws
 | []=>rfl
 |w::ws=>by
  show (jO (ws.map D.str)).map (w::·)=_;rw[bX ws];rfl
theorem mO(c b:Nat)(ws:List Tx)(h:∀ w∈ws,w.length<=b):jY [c] ws<=(b+1)*ws.length:=by
 unfold jY
 have:=gS List.length b ws h
 rw[Nat.add_mul];simp only[List.length_cons,List.length_nil]
 lia
theorem nK(B n m:Nat)(hm:m<=1000000000000)(h:AH):qA fns B (n+1) qEA [.int (m:Int)] h=.ok (.str (txN m)) h:=by
 have:=qMH B n (m:Int) (by lia) (by lia) h
 rw[qHI] at this;exact this
theorem aI(B n:Nat)(ns:List Nat)(hn:∀ x∈ns,x<=1000000000)(hl:ns.length<=10)(h:AH):qA fns B (n+2) qNT [.tup (nsD ns)] h=.ok (.ref h.length) (h++[.lst ((ns.map txN).map D.str)]):=by
 rw[qQw]
 have hm:zL (jI (den (qA fns B (n+1)) fG) [some (.tup (nsD ns))]) (nsD ns) h=.ok ((ns.map txN).map D.str) h:=by
  have:=dA (jI (den (qA fns B (n+1)) fG) [some (.tup (nsD ns))]) (fun d=>match d with | .int i=>.str (txN i.toNat) | _=>.non) h (nsD ns) (fun x hx=>by
   obtain ⟨m,hm,rfl⟩:=List.mem_map.mp hx
   have:=nK B n m (by have:=hn m hm;lia) h
   simp! only [fG, *,wB,this]
   rfl)
  rw[this];unfold nsD;rw[List.map_map,List.map_map];rfl
 have l1:(nsD ns).length<16777216:=by unfold nsD;rw[List.length_map];lia
 have l2:((ns.map txN).map D.str).length<=16777216:=by rw[List.length_map,List.length_map];lia
 simp! only [tM, *,if_pos l1,hm,if_pos l2]
theorem qLl(B n:Nat)(y:Tx)(hy:y.length<=40)(h:AH):qA fns B (n+2) qNQ [.str y] h=.ok (.str (txN y.length++[58]++y)) h:=by
 rw[qQs];have e:=nK B n y.length (by lia) h;have a:=wF (m:=y.length) (by lia);have e:qA fns B (n+1) 25 [.int (y.length:Int)] h=.ok (.str (txN y.length)) h:=e;simp! only [tG, *,if_pos (show y.length<=16777216 by lia),e,if_pos (show (txN y.length).length+1<=16777216 by lia),List.length_append,if_pos (show (txN y.length).length+1+y.length<=16777216 by lia),show (txN y.length).length<=16777215 by lia]
theorem qLo(B n:Nat)(l:List (Nat × Nat))(h1:l.length<=8)(h2:∀ q∈l,q.1<=1000000/\q.2<=1000000)(h:AH):∃ g,qA fns B (n+3) qNO [.tup (l.map qJ)] h=.ok (.str (spW l)) (h++g):=by
 rw[qQq];cases l with
 |nil=>exact⟨[],by rw[List.append_nil];rfl⟩
 |cons q r=>
  obtain ⟨g,hm⟩:=qDF (jI (den (qA fns B (n+2)) sY) [some (.tup ((q::r).map qJ))]) (fun d=>match d with | .tup [.int i,.int j]=>.str (zM (i.toNat,j.toNat)) | _=>.non) ((q::r).map qJ) h (fun x hx h=>by
   obtain ⟨m,hm,rfl⟩:=List.mem_map.mp hx;have b:=h2 m hm
   have e:=aI B n [m.1,m.2] (fun x hx=>by
    simp only[List.mem_cons,List.not_mem_nil,or_false] at hx
    rcases hx with rfl | rfl <;> lia) (by simp) h
   have e:qA fns B (n+2) 38 [qJ m] h=.ok (.ref h.length) (h++[.lst (([m.1,m.2].map txN).map D.str)]):=e
   have j1:jY [45] ([m.1,m.2].map txN)<=16777216:=by
    have:=mO 45 20 ([m.1,m.2].map txN) (fun w hw=>by
     obtain ⟨z,hz,rfl⟩:=List.mem_map.mp hw;simp only[List.mem_cons,List.not_mem_nil,or_false] at hz
     have:=wF (m:=z) (by rcases hz with rfl | rfl <;> lia)
     lia)
    simp only[List.length_map,List.length_cons,List.length_nil] at this
    lia
   have gl:qC (h++[O.lst (([m.1,m.2].map txN).map D.str)]) h.length=some (([m.1,m.2].map txN).map D.str):=by rw[qY];rfl
   refine⟨[.lst (([m.1,m.2].map txN).map D.str)],?_⟩;generalize hws:([m.1,m.2].map txN)=ws at *;simp! only [sY, *,wB,e,gl,Option.bind_some,bX,if_pos j1];rw[<- hws]
   rfl)
  have e2:((q::r).map qJ).map (fun d=>match d with | .tup [.int i,.int j]=>D.str (zM (i.toNat,j.toNat)) | _=>.non)=((q::r).map zM).map D.str:=by
   rw[List.map_map,List.map_map];rfl
  rw[e2] at hm
  have j2:jY [44] ((q::r).map zM)<=16777216:=by
   have:=mO 44 30 ((q::r).map zM) (fun w hw=>by
    obtain ⟨z,hz,rfl⟩:=List.mem_map.mp hw
    have:=qB9 (h2 z hz)
    lia)
   rw[List.length_map] at this
   lia
  have l0:((((q::r).map qJ).length:Int) == 0)=false:=by
   rw[List.map_cons,List.length_cons];simp
   lia
  have l1:((q::r).map qJ).length<16777216:=by rw[List.length_map];lia
  have l2:(((q::r).map zM).map D.str).length<=16777216:=by rw[List.length_map,List.length_map];lia
  have sw:spW (q::r)=qX [44] ((q::r).map zM):=rfl;rw[sw];generalize hws:(q::r).map zM=ws at *;generalize hxs:(q::r).map qJ=xs at *;have gl:qC (h++g++[O.lst (ws.map D.str)]) (h++g).length=some (ws.map D.str):=by rw[qY];rfl
  refine⟨g++[.lst (ws.map D.str)],?_⟩;rw[<- List.append_assoc];simp! only [sZ,qFZ, *,l0,if_pos l1,hm,if_pos l2,gl,Option.bind_some,bX,if_pos j2]
theorem fE(B n:Nat)(k:Tx)(ws:List Tx)(x0:D)(h:AH)(g:AH)(i:Nat)(hg:(h++g)[i]?=some (.lst (ws.map D.str)))(hk:k.length<=10)(hl:ws.length<=20)(hb:∀ w∈ws,w.length<=300):∃ g',qB (qA fns B n) B qAp [some x0,some (.str k),some (.ref i)] (h++g)=.rt (.str (qX [32] (k::ws))) (h++g'):=by
 have hg1:=List.getElem?_append_left (l₂:=[O.lst [D.str k]]) (List.getElem?_eq_some_iff.mp hg).1;rw[hg] at hg1;have lb:(h++g++[O.lst [D.str k]])[(h++g).length]?=some (O.lst [D.str k]):=by rw[qW];rfl
 have gl:qC (h++g++[O.lst [D.str k]]++[O.lst (D.str k::ws.map D.str)]) (h++g++[O.lst [D.str k]]).length=some (D.str k::ws.map D.str):=by rw[qY];rfl
 have st:jO (D.str k::ws.map D.str)=some (k::ws):=bX (k::ws)
 have j1:jY [32] (k::ws)<=16777216:=by
  have:=mO 32 300 (k::ws) (fun w hw=>by
   rcases List.mem_cons.mp hw with rfl | hw
   ·lia
   ·exact hb w hw)
  rw[List.length_cons] at this
  lia
 refine⟨g++[O.lst [D.str k]]++[O.lst (D.str k::ws.map D.str)],?_⟩;rw[<- List.append_assoc,<- List.append_assoc];generalize h++g=G at *;simp! only [qAp, *,if_pos (show 1<=16777216 by lia),lb,hg1,List.length_map,if_pos (show ws.length+1<=16777216 by lia),show ws.length<=16777215 by lia,gl,Option.bind_some,st,if_pos j1]
theorem qMM(B n:Nat)(hp:okP p)(h:AH):∃ g,qA fns B (n+4) qNt [toD p] h=.ok (.str (bod p)) (h++g):=by
 rw[qRR];obtain ⟨sh,bd⟩:=hp;have hp:okP p:=⟨sh,bd⟩
 have tx:∀ w∈p.ns.map txN,w.length<=300:=fun w hw=>by
  obtain ⟨z,hz,rfl⟩:=List.mem_map.mp hw
  have:=wF (bd z hz)
  lia
 have lw:=qDe hp;cases sh with
 |hello a b=>have e:=aI B (n+1) [a,b] bd (by simp) h;have e:qA fns B (n+3) 38 [.tup [.int a,.int b]] h=.ok (.ref h.length) (h++[.lst (([a,b].map txN).map D.str)]):=e;have cx:qO [D.str HELLO,.int a,.int b] (some 1) none=[.int a,.int b]:=rfl;have ix:((ixN 3 0).bind fun j=>[D.str HELLO,.int a,.int b][j]?)=some (.str HELLO):=rfl;obtain ⟨g',e2⟩:=fE B (n+3) HELLO ([a,b].map txN) (.tup [.str HELLO,.int a,.int b]) h [.lst (([a,b].map txN).map D.str)] h.length (by rw[qW];rfl) (by decide) (by simp) tx;refine⟨g',?_⟩;show _=R.ok (D.str (qX [32] (HELLO::[a,b].map txN))) _;show Fy.fin (qB (qA fns B (n+3)) B vJ [some (.tup [.str HELLO,.int a,.int b]),none,none] h)=_;generalize [a,b].map txN=ws at *;simp! only [vJ,fR,qAq, *,ix,show (HELLO == [100,97,116,97])=false from rfl,show (HELLO == [97,110,115,119,101,114])=false from rfl,cx,e,e2]
 |fin a b c d=>have e:=aI B (n+1) [a,b,c,d] bd (by simp) h;have e:qA fns B (n+3) 38 [.tup [.int a,.int b,.int c,.int d]] h=.ok (.ref h.length) (h++[.lst (([a,b,c,d].map txN).map D.str)]):=e;have cx:qO [D.str ENDW,.int a,.int b,.int c,.int d] (some 1) none=[.int a,.int b,.int c,.int d]:=rfl;have ix:((ixN 5 0).bind fun j=>[D.str ENDW,.int a,.int b,.int c,.int d][j]?)=some (.str ENDW):=rfl;obtain ⟨g',e2⟩:=fE B (n+3) ENDW ([a,b,c,d].map txN) (.tup [.str ENDW,.int a,.int b,.int c,.int d]) h [.lst (([a,b,c,d].map txN).map D.str)] h.length (by rw[qW];rfl) (by decide) (by simp) tx;refine⟨g',?_⟩;show _=R.ok (D.str (qX [32] (ENDW::[a,b,c,d].map txN))) _;show Fy.fin (qB (qA fns B (n+3)) B vJ [some (.tup [.str ENDW,.int a,.int b,.int c,.int d]),none,none] h)=_;generalize [a,b,c,d].map txN=ws at *;simp! only [vJ,fR,qAq, *,ix,show (ENDW == [100,97,116,97])=false from rfl,show (ENDW == [97,110,115,119,101,114])=false from rfl,cx,e,e2]
 |data a b c d y h1 h2=>
  have e:=aI B (n+1) [a,b,c,d] bd (by simp) h;have e:qA fns B (n+3) 38 [.tup [.int a,.int b,.int c,.int d]] h=.ok (.ref h.length) (h++[.lst (([a,b,c,d].map txN).map D.str)]):=e;have e3:=qLl B (n+1) y h2 (h++[.lst (([a,b,c,d].map txN).map D.str)]);have e3:qA fns B (n+3) 39 [.str y] (h++[.lst (([a,b,c,d].map txN).map D.str)])=.ok (.str (txN y.length++[58]++y)) (h++[.lst (([a,b,c,d].map txN).map D.str)]):=e3;have cx:qO [D.str DATA,.int a,.int b,.int c,.int d,.str y] (some 1) (some 5)=[.int a,.int b,.int c,.int d]:=rfl;have ix:((ixN 6 0).bind fun j=>[D.str DATA,.int a,.int b,.int c,.int d,.str y][j]?)=some (.str DATA):=rfl;have ix5:((ixN 6 5).bind fun j=>[D.str DATA,.int a,.int b,.int c,.int d,.str y][j]?)=some (.str y):=rfl;have g1:∀ l:AH,(h++O.lst (([a,b,c,d].map txN).map D.str)::l)[h.length]?=some (O.lst (([a,b,c,d].map txN).map D.str)):=fun l=>by rw[qW];rfl
  have g2:(h++[O.lst (([a,b,c,d].map txN).map D.str),O.lst [D.str (txN y.length++[58]++y)]])[h.length+1]?=some (O.lst [D.str (txN y.length++[58]++y)]):=by rw[wO];rfl
  have ws:([a,b,c,d].map txN).map D.str++[D.str (txN y.length++[58]++y)]=([a,b,c,d].map txN++[txN y.length++[58]++y]).map D.str:=rfl;have lw':=lw (txN y.length++[58]++y) (List.mem_singleton.mpr rfl)
  obtain ⟨g',e2⟩:=fE B (n+3) DATA ([a,b,c,d].map txN++[txN y.length++[58]++y]) (.tup [.str DATA,.int a,.int b,.int c,.int d,.str y]) h [O.lst (([a,b,c,d].map txN).map D.str),O.lst [D.str (txN y.length++[58]++y)],O.lst (([a,b,c,d].map txN++[txN y.length++[58]++y]).map D.str)] (h.length+2) (by rw[wO];rfl) (by decide) (by simp) (fun w hw=>by
   rcases List.mem_append.mp hw with hw | hw
   ·exact tx w hw
   ·rw[List.mem_singleton.mp hw];lia)
  refine⟨g',?_⟩;show Fy.fin (qB (qA fns B (n+3)) B vJ [some (.tup [.str DATA,.int a,.int b,.int c,.int d,.str y]),none,none] h)=_
  have l2:(([a,b,c,d].map txN++[txN y.length++[58]++y]).map D.str).length<=16777216:=by
   have:(([a,b,c,d].map txN++[txN y.length++[58]++y]).map D.str).length=5:=rfl
   lia
  show _=R.ok (D.str (qX [32] (DATA::([a,b,c,d].map txN++[txN y.length++[58]++y])))) _;generalize [a,b,c,d].map txN++[txN y.length++[58]++y]=vs at *;generalize ([a,b,c,d].map txN).map D.str=us at *;generalize txN y.length++[58]++y=w at *;simp! only [vJ,qF8, *,ix,show (DATA == [100,97,116,97])=true from rfl,cx,e,ix5,e3,if_pos (show 1<=16777216 by lia),List.append_assoc,List.length_append,g1,g2,ws,if_pos l2,e2]
 |ans a b c d f l h1 h2=>
  have e:=aI B (n+1) [a,b,c,d,f] bd (by simp) h;have e:qA fns B (n+3) 38 [.tup [.int a,.int b,.int c,.int d,.int f]] h=.ok (.ref h.length) (h++[.lst (([a,b,c,d,f].map txN).map D.str)]):=e;obtain ⟨g3,e3⟩:=qLo B n l h1 h2 (h++[.lst (([a,b,c,d,f].map txN).map D.str)]);have e3:qA fns B (n+3) 40 [.tup (l.map qJ)] (h++[.lst (([a,b,c,d,f].map txN).map D.str)])=.ok (.str (spW l)) (h++[.lst (([a,b,c,d,f].map txN).map D.str)]++g3):=e3;have cx:qO [D.str ANS,.int a,.int b,.int c,.int d,.int f,.tup (l.map qJ)] (some 1) (some 6)=[.int a,.int b,.int c,.int d,.int f]:=rfl;have ix:((ixN 7 0).bind fun j=>[D.str ANS,.int a,.int b,.int c,.int d,.int f,.tup (l.map qJ)][j]?)=some (.str ANS):=rfl;have ix5:((ixN 7 6).bind fun j=>[D.str ANS,.int a,.int b,.int c,.int d,.int f,.tup (l.map qJ)][j]?)=some (.tup (l.map qJ)):=rfl;have ws:([a,b,c,d,f].map txN).map D.str++[D.str (spW l)]=([a,b,c,d,f].map txN++[spW l]).map D.str:=rfl;have lw':=lw (spW l) (List.mem_singleton.mpr rfl)
  have l2:(([a,b,c,d,f].map txN++[spW l]).map D.str).length<=16777216:=by
   have:(([a,b,c,d,f].map txN++[spW l]).map D.str).length=6:=rfl
   lia
  have tx':∀ w∈[a,b,c,d,f].map txN++[spW l],w.length<=300:=fun w hw=>by
   rcases List.mem_append.mp hw with hw | hw
   ·exact tx w hw
   ·rw[List.mem_singleton.mp hw];lia
  have hl5:([a,b,c,d,f].map txN++[spW l]).length<=20:=by simp
  show ∃ g,Fy.fin (qB (qA fns B (n+3)) B vJ [some (.tup [.str ANS,.int a,.int b,.int c,.int d,.int f,.tup (l.map qJ)]),none,none] h)=R.ok (D.str (qX [32] (ANS::([a,b,c,d,f].map txN++[spW l])))) (h++g);generalize [a,b,c,d,f].map txN++[spW l]=vs at *;generalize ([a,b,c,d,f].map txN).map D.str=us at *;generalize spW l=w at *;generalize l.map qJ=xs at *;generalize hG:h++[O.lst us]++g3=G at *
  have g1:∀ m:AH,(G++m)[h.length]?=some (O.lst us):=fun m=>by
   rw[<- hG,List.append_assoc,List.append_assoc,qW];rfl
  have g2:(G++[O.lst [D.str w]])[G.length]?=some (O.lst [D.str w]):=by rw[qW];rfl
  obtain ⟨g',e2⟩:=fE B (n+3) ANS vs (.tup [.str ANS,.int a,.int b,.int c,.int d,.int f,.tup xs]) G [O.lst [D.str w],O.lst (vs.map D.str)] (G.length+1) (by rw[wO];rfl) (by decide) hl5 tx';refine⟨[O.lst us]++g3++g',?_⟩;rw[<- List.append_assoc,<- List.append_assoc,hG];simp! only [vJ,fR,qF7, *,ix,show (ANS == [100,97,116,97])=false from rfl,show (ANS == [97,110,115,119,101,114])=true from rfl,cx,e,ix5,e3,if_pos (show 1<=16777216 by lia),List.append_assoc,List.length_append,g1,g2,ws,if_pos l2,e2]
theorem qEc(v:Int)(h0:0<=v)(h1:v<9973):(kU v).length=4:=by
 have:=iM (m:=v.toNat) 3 (by have:(10:Nat) ^ (3+1)=10000:=(by decide);lia)
 unfold kU;rw[List.length_append,List.length_replicate]
 lia
theorem qDL(B n:Nat)(hp:okP p)(h:AH):∃ g,qA fns B (n+7) qD7 [toD p] h=.ok (.str (wr p)) (h++g):=by
 rw[qQo];obtain ⟨g1,e1⟩:=qDO B n h hp;have e1:qA fns B (n+6) 37 [toD p] h=.ok (.bl true) (h++g1):=e1;obtain ⟨g2,e2⟩:=qMM B (n+2) hp (h++g1);have e2:qA fns B (n+6) 41 [toD p] (h++g1)=.ok (.str (bod p)) (h++g1++g2):=e2;have e3:=qMJ B (n+5) (bod p) (h++g1++g2);have e3:qA fns B (n+6) 24 [.str (bod p)] (h++g1++g2)=.ok (.int (chk 7 (bod p))) (h++g1++g2):=e3;obtain ⟨c0,c1⟩:=qE8 (bod p) 7 (by lia) (by lia);have e4:=nK B (n+5) (chk 7 (bod p)).toNat (by lia) (h++g1++g2);rw[show (((chk 7 (bod p)).toNat:Nat):Int)=chk 7 (bod p) by lia] at e4;have e4:qA fns B (n+6) 25 [.int (chk 7 (bod p))] (h++g1++g2)=.ok (.str (txN (chk 7 (bod p)).toNat)) (h++g1++g2):=e4;have tl:(txN (chk 7 (bod p)).toNat).length<=10:=wF (by lia);have z:(0:Int)<=4/\(4:Int)<=1000/\jV (txN (chk 7 (bod p)).toNat)=true/\(txN (chk 7 (bod p)).toNat).length<=1000:=⟨by lia,by lia,iN _,by lia⟩;have bl:=qFN hp;have f4:List.replicate ((4:Int).toNat-(txN (chk 7 (bod p)).toNat).length) 48++txN (chk 7 (bod p)).toNat=kU (chk 7 (bod p)):=rfl;have fl:=qEc (chk 7 (bod p)) c0 c1;refine⟨g1++g2,?_⟩;rw[<- List.append_assoc];unfold wr;generalize kU (chk 7 (bod p))=q at *;generalize chk 7 (bod p)=v at *;generalize txN v.toNat=t at *;simp! only [sS,qFY, *,e1,e2,e3,e4,if_pos z.2.2,f4,if_pos (show (bod p).length+1<=16777216 by lia),List.length_append,fl,if_pos (show (bod p).length+1+4<=16777216 by lia),show (bod p).length<=16777215 by lia,show (bod p).length<=16777211 by lia]
def spl(c:Nat):Tx->Nat->Tx->List Tx
 | [],_,cur=>[cur]
 |x::r,0,cur=>[cur++x::r]
 |x::r,n+1,cur=>if x=c then cur::spl c r n [] else spl c r (n+1) (cur++[x])
def qCr(a:Tx)(s:Nat)(cuts:List Nat):List Tx:=((s::cuts.map (·+1)).zip (cuts++[a.length])).map fun p=>(a.drop p.1).take (p.2-p.1)
theorem lK(a:Tx)(c:Nat):∀ (r:Tx) (k s n:Nat),a.drop k=r->s<=k->k<=a.length->qCr a s ((zZ c k r).take n)=spl c r n ((a.drop s).take (k-s))
 | [],k,s,n,hr,hs,hk=>by
  have e:k=a.length:=by
   have:=congrArg List.length hr
   rw[List.length_drop] at this;simp at this
   lia
  subst e;show qCr a s (List.take n [])=_;rw[List.take_nil];rfl
 |x::r,k,s,0,hr,hs,hk=>by
  show [(a.drop s).take (a.length-s)]=[(a.drop s).take (k-s)++x::r];rw[<- hr,List.take_of_length_le (show (a.drop s).length<=a.length-s by rw[List.length_drop];lia)];congr 1
  have:=List.take_append_drop (k-s) (a.drop s)
  rw[List.drop_drop,show s+(k-s)=k by lia] at this;exact this.symm
 |x::r,k,s,n+1,hr,hs,hk=>by
  have hkl:k<a.length:=by
   have:=congrArg List.length hr
   rw[List.length_drop,List.length_cons] at this
   lia
  have hr':a.drop (k+1)=r:=by rw[<- List.drop_drop,hr];rfl
  unfold zZ spl
  by_cases e:x=c
  ·rw[if_pos e,if_pos e,List.take_succ_cons];have ih:=lK a c r (k+1) (k+1) n hr' (Nat.le_refl _) hkl;rw[Nat.sub_self,List.take_zero] at ih;rw[<- ih];rfl
  ·rw[if_neg e,if_neg e,lK a c r (k+1) s (n+1) hr' (by lia) hkl];congr 1
   have hx:a[k]?=some x:=by
    have:=List.getElem?_drop (xs:=a) (i:=k) (j:=0)
    rw[hr] at this;simpa using this.symm
   rw[show k+1-s=(k-s)+1 by lia,List.take_succ,List.getElem?_drop,show s+(k-s)=k by lia,hx];rfl
theorem qJK(a:Tx)(c n:Nat):kJ a ((zZ c 0 a).take n)=spl c a n []:=by
 have:=lK a c a 0 0 n rfl (Nat.le_refl _) (Nat.zero_le _)
 rw[Nat.sub_zero,List.take_zero] at this;exact this
theorem qCl(c:Nat):∀ (k:Nat) (a:Tx),(zZ c k a).length<=a.length
 |_,[]=>Nat.le_refl _
 |k,x::r=>by
  have:=qCl c (k+1) r
  unfold zZ;split
  ·simp only[List.length_cons];lia
  ·simp only[List.length_cons];lia
def qR(c:Nat)(a:Tx):List Tx:=spl c a a.length []
theorem cJ(a:Tx)(c:Nat):kJ a (zZ c 0 a)=qR c a:=by
 have:=qJK a c a.length
 rw[List.take_of_length_le (qCl c 0 a)] at this;exact this
theorem qB4(c:Nat):∀ (r:Tx) (n:Nat) (cur:Tx),spl c r n cur≠[]
 | [],_,_=>by simp[spl]
 |x::r,0,cur=>by simp[spl]
 |x::r,n+1,cur=>by
  unfold spl;split
  ·simp
  ·exact qB4 c r _ _
theorem gU(c:Nat):∀ (r:Tx) (n:Nat) (cur:Tx),∀ w∈spl c r n cur,w.length<=cur.length+r.length
 | [],_,cur,w,hw=>by
  have hw:w∈[cur]:=hw;rw[List.mem_singleton.mp hw];simp
 |x::r,0,cur,w,hw=>by
  have hw:w∈[cur++x::r]:=hw;rw[List.mem_singleton.mp hw,List.length_append];exact Nat.le_refl _
 |x::r,n+1,cur,w,hw=>by
  unfold spl at hw;rw[List.length_cons];split at hw
  ·rcases List.mem_cons.mp hw with rfl | hw
   ·lia
   ·have:=gU c r n [] w hw
    simp only[List.length_nil] at this
    lia
  ·have:=gU c r (n+1) (cur++[x]) w hw
   rw[List.length_append] at this;simp only[List.length_cons,List.length_nil] at this
   lia
theorem uD(c:Nat):∀ (r:Tx) (n:Nat) (cur:Tx),(spl c r n cur).length<=r.length+1
 | [],_,_=>by simp[spl]
 |x::r,0,cur=>by simp[spl]
 |x::r,n+1,cur=>by
  unfold spl;split
  ·have:=uD c r n []
   simp only[List.length_cons]
   lia
  ·have:=uD c r (n+1) (cur++[x])
   simp only[List.length_cons]
   lia
theorem lZ(B n:Nat)(ws:List Tx)(i:Nat)(h:AH)(hg:qC h i=some (ws.map D.str))(hw:∀ w∈ws,w.length<=1000)(hl:ws.length<=2000):∃ g,qA fns B (n+3) qNS [.ref i] h=.ok (.tup (ws.map zK)) (h++g):=by
 rw[qQv]
 obtain ⟨g,e1,e2⟩:=cZ (jI (den (qA fns B (n+2)) tJ) [some (.ref i)]) (fun d=>match d with | .str w=>zK w | _=>.non) i (ws.map D.str) h hg (by rw[List.length_map];lia) (fun x hx h hg=>by
  obtain ⟨w,hw',rfl⟩:=List.mem_map.mp hx;obtain ⟨g,e⟩:=qL2 B n w h (hw w hw');have e:qA fns B (n+2) 27 [.str w] h=.ok (zK w) (h++g):=e
  exact⟨g,by simp! only [tJ, *,wB,e]⟩)
 have e3:(ws.map D.str).map (fun d=>match d with | .str w=>zK w | _=>.non)=ws.map zK:=by rw[List.map_map];rfl
 rw[e3] at e1;have l2:(ws.map zK).length<=16777216:=by rw[List.length_map];lia
 have gl:qC (h++g++[O.lst (ws.map zK)]) (h++g).length=some (ws.map zK):=by rw[qY];rfl
 refine⟨g++[.lst (ws.map zK)],?_⟩;rw[<- List.append_assoc];simp! only [tK, *,hg,if_pos e2,e1,if_pos l2,gl]
def kO(s:Tx):D:=.tup ((qR 45 s).map zK)
def vN(w:Tx):D:=if w=[45] then .tup [] else .tup ((qR 44 w).map kO)
theorem qLq(B n:Nat)(w:Tx)(hw:w.length<=900)(h:AH):∃ g,qA fns B (n+4) qNP [.str w] h=.ok (vN w) (h++g):=by
 rw[qQr];unfold vN
 by_cases e:w=[45]
 ·rw[if_pos e,e]
  exact⟨[],by rw[List.append_nil];rfl⟩
 ·rw[if_neg e];have eb:(w == ([45]:Tx))=false:=beq_eq_false_iff_ne.mpr e;have hl:=uD 44 w w.length [];have hm:=gU 44 w w.length [];have pa:=cJ w 44;have l0:((qR 44 w).map D.str).length<=16777216:=by unfold qR;rw[List.length_map];lia
  have gl0:qC (h++[O.lst ((qR 44 w).map D.str)]) h.length=some ((qR 44 w).map D.str):=by rw[qY];rfl
  obtain ⟨g,e1,e2⟩:=cZ (jI (den (qA fns B (n+3)) tE) [some (.str w)]) (fun d=>match d with | .str w=>kO w | _=>.non) h.length ((qR 44 w).map D.str) (h++[O.lst ((qR 44 w).map D.str)]) gl0 (by unfold qR;rw[List.length_map];lia) (fun x hx h hg=>by
   obtain ⟨s,hs,rfl⟩:=List.mem_map.mp hx
   have sl:s.length<=900:=by
    have:=hm s hs
    simp only[List.length_nil] at this
    lia
   have pb:=cJ s 45;have kl:=uD 45 s s.length [];have km:=gU 45 s s.length [];have l1:((qR 45 s).map D.str).length<=16777216:=by unfold qR;rw[List.length_map];lia
   obtain ⟨g,e⟩:=lZ B n (qR 45 s) h.length (h++[O.lst ((qR 45 s).map D.str)]) (by rw[qY];rfl) (fun w hw=>by have:=km w hw;simp only[List.length_nil] at this;lia) (by unfold qR;lia);have e:qA fns B (n+3) 43 [.ref h.length] (h++[O.lst ((qR 45 s).map D.str)])=.ok (kO s) (h++[O.lst ((qR 45 s).map D.str)]++g):=e;refine⟨[O.lst ((qR 45 s).map D.str)]++g,?_⟩;rw[<- List.append_assoc]
   simp! only [tE, *,wB,if_pos (show 45<256/\s.length<=1000000 by lia),pb,if_pos l1,e,show s.length<=1000000 by lia])
  have e3:((qR 44 w).map D.str).map (fun d=>match d with | .str w=>kO w | _=>.non)=(qR 44 w).map kO:=by rw[List.map_map];rfl
  rw[e3] at e1;have l2:((qR 44 w).map kO).length<=16777216:=by unfold qR;rw[List.length_map];lia
  generalize hG:h++[O.lst ((qR 44 w).map D.str)]++g=G at *;have gl:qC (G++[O.lst ((qR 44 w).map kO)]) G.length=some ((qR 44 w).map kO):=by rw[qY];rfl
  refine⟨[O.lst ((qR 44 w).map D.str)]++g++[.lst ((qR 44 w).map kO)],?_⟩;rw[<- List.append_assoc,<- List.append_assoc,hG];simp! only [tF,qFa, *,eb,if_pos (show 44<256/\w.length<=1000000 by lia),pa,if_pos l0,gl0,if_pos e2,e1,if_pos l2,gl,show w.length<=1000000 by lia]
def jT(ws:List Tx):Tx:=ws.getLastD []
theorem qQH{α:Type}(k:α)(r:List α):qO (k::r) (some 1) (some (-1))=r.dropLast:=by
 unfold qO qZ;simp only[show ¬ (1:Int)<0 by lia,if_false,show (-1:Int)<0 by lia,if_true,List.length_cons];rw[List.dropLast_eq_take];have h1:min (1:Int).toNat (r.length+1)=1:=by show min 1 (r.length+1)=1;lia
 have h2:(-1+((r.length+1:Nat):Int)).toNat=r.length:=by lia
 rw[h1,h2];rfl
theorem qQF{α:Type}(k:α)(r:List α):qO (k::r) (some 1) none=r:=by
 have:=yN (k::r) 1
 exact this
theorem qM3(k:Tx)(r:List Tx):((ixN ((k::r).map D.str).length (-1)).bind fun j=>((k::r).map D.str)[j]?)=some (.str (jT (k::r))):=by
 have e:ixN ((k::r).map D.str).length (-1)=some r.length:=by
  rw[List.length_map,List.length_cons];unfold ixN;rw[if_neg (by lia),if_pos (by lia)];congr 1
  lia
 rw[e,Option.bind_some,List.getElem?_map]
 have:(k::r)[r.length]?=some (jT (k::r)):=by
  unfold jT;rw[List.getLastD_eq_getLast?,List.getLast?_eq_getElem?,List.length_cons,Nat.add_sub_cancel,List.getElem?_eq_getElem (by simp),Option.getD_some]
 rw[this];rfl
theorem qMe(k:Tx)(r:List Tx):jT (k::r)∈k::r:=by
 unfold jT;rw[List.getLastD_eq_getLast?,List.getLast?_eq_some_getLast (by simp),Option.getD_some];exact List.getLast_mem _
def lM:List Tx->D
 | []=>.non
 |k::r=>if k=ANS then .tup (.str k::(r.dropLast.map zK++[vN (jT (k::r))])) else .tup (.str k::r.map zK)
theorem qLy(B n:Nat)(b:Tx)(hb:b.length<=900)(h:AH)(hk:∀ k r,qR 32 b=k::r->k≠DATA):∃ g,qA fns B (n+5) qNR [.str b] h=.ok (lM (qR 32 b)) (h++g):=by
 rw[qQu];have pa:=cJ b 32;have hl:=uD 32 b b.length [];have hm:=gU 32 b b.length [];unfold lM;cases q:qR 32 b with
 |nil=>exact absurd q (qB4 32 b b.length [])
 |cons k r=>
  have hl:(k::r).length<=901:=by rw[<- q];unfold qR;lia
  have hm:∀ w∈k::r,w.length<=900:=fun w hw=>by
   have:=hm w (by unfold qR at q;rw[q];exact hw)
   simp only[List.length_nil] at this
   lia
  rw[q] at pa;have pa:(kJ b (zZ 32 0 b)).map D.str=(k::r).map D.str:=by rw[pa]
  have l0:((k::r).map D.str).length<=16777216:=by rw[List.length_map];lia
  have gl0:∀ m:AH,qC (h++O.lst ((k::r).map D.str)::m) h.length=some ((k::r).map D.str):=fun m=>by rw[qY];rfl
  have ix0:((ixN ((k::r).map D.str).length 0).bind fun j=>((k::r).map D.str)[j]?)=some (.str k):=by
   have:=mP (ds:=(k::r).map D.str) (k:=0) (d:=.str k) rfl
   exact this
  have ixl:=qM3 k r;have s256:32<256/\b.length<=1000000:=by lia
  have cm:qO ((k::r).map D.str) (some 1) (some (-1))=r.dropLast.map D.str:=by
   rw[List.map_cons,qQH,List.map_dropLast]
  have ct:qO ((k::r).map D.str) (some 1) none=r.map D.str:=by rw[List.map_cons,qQF]
  have dl:r.dropLast.length<=900:=by rw[List.length_dropLast];simp only[List.length_cons] at hl;lia
  have rl:r.length<=900:=by simp only[List.length_cons] at hl;lia
  have e1:=hk k r q;have eb:(k == ([100,97,116,97]:Tx))=false:=beq_eq_false_iff_ne.mpr e1
  by_cases e2:k=ANS
  ·simp only[if_pos e2];have eb2:(k == ([97,110,115,119,101,114]:Tx))=true:=by rw[e2];rfl
   have l6:(r.dropLast.map D.str).length<=16777216:=by rw[List.length_map];lia
   generalize hG:h++[O.lst ((k::r).map D.str),O.lst (r.dropLast.map D.str)]=G;have gG:qC G (h.length+1)=some (r.dropLast.map D.str):=by rw[<- hG,eD];rfl
   obtain ⟨g,e⟩:=lZ B (n+1) r.dropLast (h.length+1) G gG (fun w hw=>by
    have:=hm w (List.mem_cons_of_mem _ (List.dropLast_subset _ hw))
    lia) (by lia)
   have e:qA fns B (n+4) 43 [.ref (h.length+1)] G=.ok (.tup (r.dropLast.map zK)) (G++g):=e;have la:(jT (k::r)).length<=900:=hm _ (qMe k r);obtain ⟨g3,e3⟩:=qLq B n (jT (k::r)) la (G++g);have e3:qA fns B (n+4) 44 [.str (jT (k::r))] (G++g)=.ok (vN (jT (k::r))) (G++g++g3):=e3;have g5:qC (G++g) h.length=some ((k::r).map D.str):=eC g (by rw[<- hG,qY];rfl);refine⟨[O.lst ((k::r).map D.str),O.lst (r.dropLast.map D.str)]++g++g3,?_⟩;rw[<- List.append_assoc,<- List.append_assoc,hG];have n1:(r.dropLast.map zK).length<=900:=by rw[List.length_map];exact dl
   generalize r.dropLast.map zK=ds at *;generalize vN (jT (k::r))=sw at *;generalize jT (k::r)=lw at *;generalize (k::r).map D.str=W at *;generalize r.dropLast.map D.str=W6 at *;simp! only [fF,tI, *,if_pos s256,s256.2,pa,if_pos l0,gl0,Option.bind_some,ix0,eb,eb2,List.append_assoc,List.length_append,if_pos (show 1<=16777216 by lia),cm,if_pos l6,hG,e,g5,ixl,e3,if_pos (show 1+ds.length<=16777216 by lia),if_pos (show ds.length+1+1<=16777216 by lia),show ds.length<=16777214 by lia]
  ·simp only[if_neg e2];have eb2:(k == ([97,110,115,119,101,114]:Tx))=false:=beq_eq_false_iff_ne.mpr e2;have l6:(r.map D.str).length<=16777216:=by rw[List.length_map];lia
   generalize hG:h++[O.lst ((k::r).map D.str),O.lst (r.map D.str)]=G;have gG:qC G (h.length+1)=some (r.map D.str):=by rw[<- hG,eD];rfl
   obtain ⟨g,e⟩:=lZ B (n+1) r (h.length+1) G gG (fun w hw=>by
    have:=hm w (List.mem_cons_of_mem _ hw)
    lia) (by lia)
   have e:qA fns B (n+4) 43 [.ref (h.length+1)] G=.ok (.tup (r.map zK)) (G++g):=e;refine⟨[O.lst ((k::r).map D.str),O.lst (r.map D.str)]++g,?_⟩;rw[<- List.append_assoc,hG];have n1:(r.map zK).length<=900:=by rw[List.length_map];exact rl
   generalize r.map zK=ds at *;generalize (k::r).map D.str=W at *;generalize r.map D.str=W6 at *;simp! only [fF,tI,qFd, *,if_pos s256,s256.2,pa,if_pos l0,gl0,Option.bind_some,ix0,eb,eb2,List.append_assoc,List.length_append,if_pos (show 1<=16777216 by lia),ct,if_pos l6,hG,e,if_pos (show 1+ds.length<=16777216 by lia),show ds.length<=16777215 by lia]
def rb(x:Tx):Tx:=match jH 32 0 x with
 |some i=>x.take i
 |none=>[]
theorem qM1(x:Tx):((ixN ((kB x 32).map D.str).length 0).bind fun j=>((kB x 32).map D.str)[j]?)=some (.str (rb x)):=by
 unfold kB rb;cases jH 32 0 x <;> rfl
theorem qIx(x:Tx):(rb x).length<=x.length:=by
 unfold rb;split
 ·rw[List.length_take];lia
 ·simp
theorem qB3:∀ (w cur:Tx),c∉w->spl c (w++c::r) (n+1) cur=(cur++w)::spl c r n []
 | [],cur,_=>by
  show spl c (c::r) (n+1) cur=_;rw[spl,if_pos rfl,List.append_nil]
 |x::w,cur,h=>by
  have h1:x≠c:=fun e=>h (by rw[e];exact List.mem_cons_self ..);have ih:=qB3 (r:=r) (n:=n) w (cur++[x]) (fun z=>h (List.mem_cons_of_mem _ z));show spl c (x::(w++c::r)) (n+1) cur=_;rw[spl,if_neg h1,ih];simp
theorem qB6:∀ (w:Tx) (n:Nat) (cur:Tx),c∉w->spl c w n cur=[cur++w]
 | [],n,cur,_=>by show [cur]=_;rw[List.append_nil]
 |x::w,0,cur,_=>rfl
 |x::w,n+1,cur,h=>by
  have h1:x≠c:=fun e=>h (by rw[e];exact List.mem_cons_self ..);rw[spl,if_neg h1,qB6 w (n+1) (cur++[x]) (fun z=>h (List.mem_cons_of_mem _ z))];simp
theorem uP(c:Nat)(w:Tx):∀ ws:List Tx,ws≠[]->qX [c] (w::ws)=w++c::qX [c] ws
 | [],h=>absurd rfl h
 |v::r,_=>by
  show w++[c]++qX [c] (v::r)=_;rw[List.append_assoc];rfl
theorem qB5:∀ (ws:List Tx) (w:Tx) (n:Nat),(∀ v∈w::ws,c∉v)->ws.length<=n->spl c (qX [c] (w::ws)) n []=w::ws
 | [],w,n,h,_=>by
  show spl c w n []=_;rw[qB6 w n [] (h w (List.mem_cons_self ..))];rfl
 |v::r,w,0,h,hn=>by simp at hn
 |v::r,w,n+1,h,hn=>by
  rw[uP c w (v::r) (by simp),qB3 w [] (h w (List.mem_cons_self ..)),qB5 r v n (fun u hu=>h u (List.mem_cons_of_mem _ hu)) (by simpa using hn)];rfl
theorem dR(c:Nat):∀ (ws:List Tx) (w:Tx),ws.length+w.length<=(qX [c] (w::ws)).length
 | [],w=>by show 0+w.length<=w.length;lia
 |v::r,w=>by
  have:=dR c r v
  rw[uP c w (v::r) (by simp),List.length_append,List.length_cons,List.length_cons]
  lia
theorem gX(w:Tx)(ws:List Tx)(h:∀ v∈w::ws,c∉v):qR c (qX [c] (w::ws))=w::ws:=qB5 ws w _ h (by have:=dR c ws w;lia)
theorem cW:∀ ws:List Tx,x∈qX [c] ws->x=c\/∃ w∈ws,x∈w
 | [],h=>by cases h
 | [w],h=>.inr ⟨w,List.mem_cons_self ..,h⟩
 |w::v::r,h=>by
  rw[uP c w (v::r) (by simp),List.mem_append,List.mem_cons] at h;rcases h with h | h | h
  ·exact .inr ⟨w,List.mem_cons_self ..,h⟩
  ·exact .inl h
  ·rcases cW (v::r) h with h | ⟨u,hu,h⟩
   ·exact .inl h
   ·exact .inr ⟨u,List.mem_cons_of_mem _ hu,h⟩
theorem wE(h:x∈txN m):48<=x/\x<=57:=by
 have:=iN m
 unfold jV at this;rw[List.all_eq_true] at this;exact of_decide_eq_true (this x h)
theorem qDc:∀ (r:Tx) (k:Nat),c∉r->jH c k r=none
 | [],_,_=>rfl
 |x::r,k,h=>by
  have h1:x≠c:=fun e=>h (by rw[e];exact List.mem_cons_self ..);rw[jH,qDc r (k+1) (fun z=>h (List.mem_cons_of_mem _ z))];simp only;rw[if_neg h1]
theorem qDd(hr:c∉r):∀ (w:Tx) (k:Nat),jH c k (w++c::r)=some (k+w.length)
 | [],k=>by
  show jH c k (c::r)=_;rw[jH,qDc r (k+1) hr];simp
 |x::w,k=>by
  show jH c k (x::(w++c::r))=_;rw[jH,qDd hr w (k+1)];simp only[List.length_cons];congr 1
  lia
theorem nJ(h:x∈kU v):48<=x/\x<=57:=by
 unfold kU at h;rcases List.mem_append.mp h with h | h
 ·rw[(List.mem_replicate.mp h).2];lia
 ·exact wE h
theorem lG(p:Pce):rb (wr p)=bod p:=by
 unfold rb wr;rw[List.append_assoc];show (match jH 32 0 (bod p++32::kU (chk 7 (bod p))) with | some i=>(bod p++32::kU (chk 7 (bod p))).take i | none=>[])=bod p;rw[qDd (fun z=>by have:=nJ z;lia)];simp only;rw[Nat.zero_add,List.take_left]
theorem lO(ns:List Nat):∀ w∈ns.map txN,(32:Nat)∉w:=fun w hw=>by
 obtain ⟨z,_,rfl⟩:=List.mem_map.mp hw;exact fun z=>by have:=wE z;lia
theorem cM(h:48<=x/\x<=57):okC x=true:=by
 unfold okC;simp only[Bool.and_eq_true,decide_eq_true_eq,Bool.not_eq_true',decide_eq_false_iff_not]
 lia
theorem qBi(hp:okP p):(wr p).length=(bod p).length+5/\(wr p).length<=405:=by
 obtain ⟨c0,c1⟩:=qE8 (bod p) 7 (by lia) (by lia)
 have:=qEc _ c0 c1
 have:=qFN hp
 unfold wr;rw[List.length_append,List.length_append];simp only[List.length_cons,List.length_nil]
 lia
theorem qB8(h:x∈zM q):x=45\/(48<=x/\x<=57):=by
 rcases cW _ h with h | ⟨w,hw,h⟩
 ·exact .inl h
 ·simp only[List.mem_cons,List.not_mem_nil,or_false] at hw;rcases hw with rfl | rfl
  ·exact .inr (wE h)
  ·exact .inr (wE h)
theorem qB7(h:x∈spW l):x=44\/x=45\/(48<=x/\x<=57):=by
 cases l with
 |nil=>have h:x∈[45]:=h;rw[List.mem_singleton.mp h];lia
 |cons q r=>
  rcases cW _ h with h | ⟨w,hw,h⟩
  ·exact .inl h
  ·obtain ⟨z,_,rfl⟩:=List.mem_map.mp hw;exact .inr (qB8 h)
theorem qIB(h:q.1<=1000000/\q.2<=1000000):kO (zM q)=qJ q:=by
 have e:qR 45 (zM q)=[txN q.1,txN q.2]:=gX (txN q.1) [txN q.2] fun v hv=>by
  simp only[List.mem_cons,List.not_mem_nil,or_false] at hv;rcases hv with rfl | rfl
  ·exact fun z=>by have:=wE z;lia
  ·exact fun z=>by have:=wE z;lia
 unfold kO qJ;rw[e,List.map_cons,List.map_cons,List.map_nil,lN q.1 (by lia),lN q.2 (by lia)]
theorem qIA(l:List (Nat × Nat))(h:∀ q∈l,q.1<=1000000/\q.2<=1000000):vN (spW l)=.tup (l.map qJ):=by
 cases l with
 |nil=>rfl
 |cons q r=>
  have e:qR 44 (spW (q::r))=(q::r).map zM:=gX (zM q) (r.map zM) fun v hv=>by
   have hv:v∈(q::r).map zM:=hv;obtain ⟨z,_,rfl⟩:=List.mem_map.mp hv;exact fun z=>by have:=qB8 z;lia
  have ne:spW (q::r)≠[45]:=fun z=>by
   have h1:=dR 44 (r.map zM) (zM q);have h2:=dR 45 [txN q.2] (txN q.1);have h3:=List.length_pos_iff.mpr (iL q.1);have h4:(spW (q::r)).length=1:=by rw[z];rfl
   have h5:(spW (q::r)).length=(qX [44] (zM q::r.map zM)).length:=rfl;have h6:(zM q).length=(qX [45] [txN q.1,txN q.2]).length:=rfl;simp only[List.length_cons,List.length_nil] at h2
   lia
  unfold vN;rw[if_neg ne,e,List.map_map];congr 1;apply List.map_congr_left;intro z hz;exact qIB (h z hz)
inductive Hrd:Pce->Prop where
 |hello (a b:Nat):Hrd ⟨HELLO,[a,b],.no⟩
 |ans (a b c d e:Nat) (l:List (Nat × Nat)):(∀ q∈l,q.1<=1000000/\q.2<=1000000)->Hrd ⟨ANS,[a,b,c,d,e],.sp l⟩
theorem qOV(hp:okP p)(hh:Hrd p):∃ r,qR 32 (bod p)=p.k::r/\p.k≠DATA/\lM (p.k::r)=toD p:=by
 obtain ⟨_,bd⟩:=hp
 have nsm:(p.ns.map txN).map zK=nsD p.ns:=by
  unfold nsD;rw[List.map_map];apply List.map_congr_left;intro n hn;exact lN n (by have:=bd n hn;lia)
 cases hh with
 |hello a b=>
  have e:qR 32 (bod ⟨HELLO,[a,b],.no⟩)=HELLO::[a,b].map txN:=gX HELLO ([a,b].map txN) fun v hv=>by
   rcases List.mem_cons.mp hv with rfl | hv
   ·decide
   ·exact lO _ v hv
  refine⟨_,e,(by decide:HELLO≠DATA),?_⟩;show (if HELLO=ANS then D.tup (D.str HELLO::(([a,b].map txN).dropLast.map zK++[vN (jT (HELLO::[a,b].map txN))])) else D.tup (D.str HELLO::([a,b].map txN).map zK))=_;rw[if_neg (by decide)];show D.tup (D.str HELLO::([a,b].map txN).map zK)=D.tup (D.str HELLO::(nsD [a,b]++[]));rw[List.append_nil,<- nsm]
 |ans a b c d e l hq=>
  have e0:qR 32 (bod ⟨ANS,[a,b,c,d,e],.sp l⟩)=ANS::([a,b,c,d,e].map txN++[spW l]):=gX ANS ([a,b,c,d,e].map txN++[spW l]) fun v hv=>by
   rcases List.mem_cons.mp hv with rfl | hv
   ·decide
   ·rcases List.mem_append.mp hv with hv | hv
    ·exact lO _ v hv
    ·rw[List.mem_singleton.mp hv];exact fun z=>by have:=qB7 z;lia
  refine⟨_,e0,(by decide:ANS≠DATA),?_⟩;have d1:([a,b,c,d,e].map txN++[spW l]).dropLast=[a,b,c,d,e].map txN:=List.dropLast_concat;have d2:jT (ANS::([a,b,c,d,e].map txN++[spW l]))=spW l:=rfl;show (if ANS=ANS then D.tup (D.str ANS::(([a,b,c,d,e].map txN++[spW l]).dropLast.map zK++[vN (jT (ANS::([a,b,c,d,e].map txN++[spW l])))])) else D.tup (D.str ANS::([a,b,c,d,e].map txN++[spW l]).map zK))=D.tup (D.str ANS::(nsD [a,b,c,d,e]++[.tup (l.map qJ)]));rw[if_pos rfl,d1,<- nsm,d2,qIA l hq]
theorem qRs(hh:Hrd p):∀ x∈bod p,okC x=true:=by
 intro x hx;rcases cW _ hx with rfl | ⟨w,hw,hx2⟩
 ·decide
 ·unfold wds at hw;cases hh with
  |hello a b=>
   rcases List.mem_cons.mp hw with rfl | hw
   ·exact (by decide:∀ z∈HELLO,okC z=true) x hx2
   ·rcases List.mem_append.mp hw with hw | hw
    ·obtain ⟨z,_,rfl⟩:=List.mem_map.mp hw;exact cM (wE hx2)
    ·cases hw
  |ans a b c d e l hq=>
   rcases List.mem_cons.mp hw with rfl | hw
   ·exact (by decide:∀ z∈ANS,okC z=true) x hx2
   ·rcases List.mem_append.mp hw with hw | hw
    ·obtain ⟨z,_,rfl⟩:=List.mem_map.mp hw;exact cM (wE hx2)
    ·have hw:w∈[spW l]:=hw;rw[List.mem_singleton.mp hw] at hx2;rcases qB7 hx2 with z | z | z
     ·rw[z];decide
     ·rw[z];decide
     ·exact cM z
theorem qGn(hh:Hrd p):(wr p).all okC=true:=by
 rw[List.all_eq_true];intro x hx;unfold wr at hx;rw[List.mem_append,List.mem_append] at hx;rcases hx with (hx | hx) | hx
 ·exact qRs hh x hx
 ·rw[List.mem_singleton.mp hx];decide
 ·exact cM (nJ hx)
theorem qLu(B n:Nat)(hp:okP p)(hh:Hrd p)(h:AH):∃ g,qA fns B (n+8) qD8 [.str (wr p)] h=.ok (toD p) (h++g):=by
 rw[qQt];have hl:=(qBi hp).2;have e1:=qDN B (n+5) (wr p) h (by lia);rw[qGn hh] at e1;generalize hH:h++[.lst ((wr p).map fun c=>.bl (okC c))]=H at e1;have e1:qA fns B (n+7) 22 [.str (wr p)] h=.ok (.bl true) H:=e1;have ir:=qM1 (wr p);have rl:=qIx (wr p);obtain ⟨r,q1,q2,q4⟩:=qOV hp hh
 obtain ⟨g2,e2⟩:=qLy B (n+2) (rb (wr p)) (by lia) H (fun k r' z=>by
  rw[lG,q1] at z;cases z
  exact q2)
 rw[lG,q1,q4,<- lG] at e2;have e2:qA fns B (n+7) 45 [.str (rb (wr p))] H=.ok (toD p) (H++g2):=e2;obtain ⟨g3,e3⟩:=qDO B (n+1) (H++g2) hp;have e3:qA fns B (n+7) 37 [toD p] (H++g2)=.ok (.bl true) (H++g2++g3):=e3;obtain ⟨g4,e4⟩:=qDL B n hp (H++g2++g3);have e4:qA fns B (n+7) 42 [toD p] (H++g2++g3)=.ok (.str (wr p)) (H++g2++g3++g4):=e4;refine⟨[.lst ((wr p).map fun c=>.bl (okC c))]++g2++g3++g4,?_⟩;rw[<- List.append_assoc,<- List.append_assoc,<- List.append_assoc,hH];generalize wr p=wp at *;generalize toD p=d at *;generalize rb wp=r at *;simp! only [tH,qFb,qFc, *,e1,if_pos (show wp.length<=1000000 by lia),ir,e2,e3,e4]
abbrev SP:=List (Int × Int)
def spD(p:Int × Int):D:=.tup [.int p.1,.int p.2]
def spL(l:SP):List D:=l.map spD
theorem vO(l:SP):(spL l).length=l.length:=by unfold spL;simp
theorem qIC{k:Nat}(h:l[k]?=some p):(spL l)[k]?=some (spD p):=by unfold spL;rw[List.getElem?_map,h];rfl
def GoodR:Int->SP->Prop
 |_,[]=>True
 |lo,p::r=>lo<p.1/\p.1<p.2/\GoodR p.2 r
theorem GoodR.weak(hl:lo'<=lo):∀ {l:SP},GoodR lo l->GoodR lo' l
 | [],_=>trivial
 |p::r,⟨h1,h2,h3⟩=>⟨by lia,h2,h3⟩
def qMf(lo:Int):SP->Int
 | []=>lo
 |p::r=>qMf p.2 r
def inB(x:Int)(p:Int × Int):Bool:=decide (p.1<=x)&&decide (x<p.2)
def inS(l:SP)(x:Int):Bool:=l.any (inB x)
theorem qD6:∀ {lo:Int} {l:SP},GoodR lo l->x<=lo->inS l x=false
 |_,[],_,_=>rfl
 |lo,p::r,⟨h1,h2,h3⟩,hx=>by
  show (inB x p || inS r x)=false;rw[qD6 h3 (by lia),show inB x p=false by unfold inB;rw[decide_eq_false (show ¬ p.1<=x by lia)];rfl];rfl
theorem GoodR.at:∀ {l:SP} {k:Nat} {p:Int × Int},GoodR lo l->l[k]?=some p->lo<p.1/\p.1<p.2
 | [],_,_,_,e=>by simp at e
 |q::r,0,p,⟨h1,h2,_⟩,e=>by simp at e;subst e;exact⟨h1,h2⟩
 |q::r,k+1,p,⟨h1,h2,h3⟩,e=>by
  have:=GoodR.at h3 (by simpa using e:r[k]?=some p)
  exact⟨by lia,this.2⟩
theorem dU{k:Nat}(h:l[k]?=some p):((ixN l.length (k:Int)).bind fun j=>(spL l)[j]?)=some (spD p):=by
 rw[mR (List.getElem?_eq_some_iff.mp h).1,Option.bind_some,qIC h]
def side(s:Nat)(p:Int × Int):Int:=if s=0 then p.1 else p.2
theorem qM0(s:Nat)(hs:s=0\/s=1)(p:Int × Int):((ixN 2 (s:Int)).bind fun j=>[D.int p.1,D.int p.2][j]?)=some (.int (side s p)):=by
 rcases hs with rfl | rfl <;> rfl
def cnt(s:Nat)(x:Int)(l:SP):Nat:=(l.takeWhile fun p=>decide (side s p<x)).length
theorem qCH:∀ {l:SP} {j k:Nat} {p q:Int × Int},GoodR lo l->l[j]?=some p->l[k]?=some q->j<=k->side s p<=side s q:=by
 intro l
 induction l generalizing lo with
 |nil=>intro j k p q _ e;simp at e
 |cons a r ih=>
  intro j k p q ⟨h1,h2,h3⟩ e e' hjk;cases k with
  |zero=>
   have:j=0:=by lia
   subst this;rw[e] at e';cases e';exact Int.le_refl _
  |succ k=>
   have g:=h3.at (by simpa using e':r[k]?=some q);cases j with
   |zero=>
    simp at e;subst e;unfold side
    split <;> lia
   |succ j=>exact ih h3 (by simpa using e) (by simpa using e') (by lia)
theorem qE0(s:Nat)(x:Int)(l:SP):cnt s x l<=l.length:=by
 unfold cnt;exact (List.takeWhile_sublist _).length_le
theorem qEz:∀ {l:SP} {k:Nat},k<=l.length->(∀ j p,j<k->l[j]?=some p->side s p<x)->(∀ p,l[k]?=some p->x<=side s p)->cnt s x l=k
 | [],k,h,_,_=>by simp at h;subst h;rfl
 |a::r,0,_,_,h2=>by
  have:=h2 a rfl
  unfold cnt;rw[List.takeWhile_cons,if_neg (by simp;lia)];rfl
 |a::r,k+1,h,h1,h2=>by
  have:=h1 0 a (by lia) rfl
  have ih:=qEz (s:=s) (x:=x) (l:=r) (k:=k) (by simpa using h) (fun j p hj e=>h1 (j+1) p (by lia) (by simpa using e)) (fun p e=>h2 p (by simpa using e));unfold cnt at ih ⊢;rw[List.takeWhile_cons,if_pos (by simpa using this),List.length_cons,ih]
theorem sM(F:Nat->List D->M D)(s:Nat)(hs:s=0\/s=1)(x lo:Int)(l:SP)(hg:GoodR lo l)(h:AH)(B:Nat):∀ (m low high:Nat) (s5:Option D),high-low<m->low<=high->high<=l.length->(∀ j p,j<low->l[j]?=some p->side s p<x)->(∀ j p,high<=j->l[j]?=some p->x<=side s p) ->
  ∃ s5',kH (qM F qAk) (qB F B qAl) m [some (.tup (spL l)),some (.int s),some (.int x),some (.int low),some (.int high),s5] h=.nx [some (.tup (spL l)),some (.int s),some (.int x),some (.int (cnt s x l)),some (.int (cnt s x l)),s5'] h
 |0,low,high,s5,hm,_,_,_,_=>by lia
 |m+1,low,high,s5,hm,hle,hh,h1,h2=>by
  unfold kH;have e0:decide ((low:Int)<(high:Int))=decide (low<high):=yK _ _;simp! only [qAk, *,e0]
  by_cases q:low<high
  ·obtain ⟨mid,hmid,hm1,hm2⟩:∃ mid:Nat,((low:Int)+(high:Int)) / 2=(mid:Int)/\low<=mid/\mid<high:=⟨(low+high) / 2,by lia,by lia,by lia⟩;have em:l[mid]?=some l[mid]:=by simp[show mid<l.length by lia]
   have ix:=dU em;unfold spD at ix;have isd:=qM0 s hs l[mid];simp! only [qAl, *,q,hmid,vO,ix,isd,show (0:Int)<2 by lia,show (2:Int)<1073741824 by lia]
   by_cases c:side s l[mid]<x
   ·simp! only [qF5, *,c];have e1:D.int ((mid:Int)+1)=.int ((mid+1:Nat):Int):=rfl;rw[e1];refine sM F s hs x lo l hg h B m (mid+1) high _ (by lia) (by lia) hh (fun j p hj e=>?_) h2;exact Int.lt_of_le_of_lt (qCH hg e em (by lia)) c
   ·simp! only [qF4, *,c];refine sM F s hs x lo l hg h B m low mid _ (by lia) (by lia) (by lia) h1 (fun j p hj e=>?_)
    have:=qCH (s:=s) hg em e hj
    lia
  ·have e:low=high:=by lia
   subst e
   have:cnt s x l=low:=qEz hh h1 (fun p e=>h2 low p (Nat.le_refl _) e)
   simp! only [q,this]
   exact⟨s5,rfl⟩
theorem mD(B n:Nat)(s:Nat)(hs:s=0\/s=1)(x lo:Int)(l:SP)(hg:GoodR lo l)(h:AH)(hB:l.length<B):qA fns B (n+1) qNp [.tup (spL l),.int s,.int x] h=.ok (.int (cnt s x l)) h:=by
 rw[qRN];simp! only [qAm, *,vO]
 obtain ⟨s5',e⟩:=sM (qA fns B n) s hs x lo l hg h B B 0 l.length none (by lia) (by lia) (Nat.le_refl _) (fun j p hj _=>by lia) (fun j p hj e=>by
  have:=(List.getElem?_eq_some_iff.mp e).1
  lia)
 have e0:D.int ((0:Nat):Int)=D.int 0:=rfl;rw[e0] at e;simp! only [qF3, *,e]
theorem qDS(B n:Nat)(b:Int)(h:AH):qA fns B (n+1) qNs [.int b] h=if b<0 then .exc bR h else .ok .non h:=by
 rw[qRQ];simp! only [qAo, *,and_self]
 by_cases q:b<0
 ·simp! only [q]
 ·simp! only [q]
def jE(x:Int)(l:SP):SP:=l.drop (cnt 1 x l)
theorem qPL(h:p.2<x):jE x (p::r)=jE x r:=by
 unfold jE cnt;rw[List.takeWhile_cons,if_pos (by simpa [side] using h),List.length_cons,List.drop_succ_cons]
theorem qPM(h:¬ p.2<x):jE x (p::r)=p::r:=by
 unfold jE cnt;rw[List.takeWhile_cons,if_neg (by simpa [side] using h)];rfl
def zG(b:Int)(l:SP):SP:=match jE (b+1) l with
 | []=>[]
 |p::r=>if p.1<b then (b,p.2)::r else p::r
theorem qEn(b:Int):∀ {lo:Int} {l:SP},GoodR lo l->(∃ lo',lo<=lo'/\GoodR lo' (jE (b+1) l))/\(∀ p r,jE (b+1) l=p::r->b<p.2)/\(∀ x,b<=x->inS (jE (b+1) l) x=inS l x)
 |lo,[],_=>⟨⟨lo,Int.le_refl _,trivial⟩,(fun p r e=>by cases e),fun x _=>rfl⟩
 |lo,q::r,⟨h1,h2,h3⟩=>by
  by_cases c:q.2<b+1
  ·obtain ⟨⟨lo',i1,i2⟩,i3,i4⟩:=qEn b h3;rw[qPL c];refine⟨⟨lo',by lia,i2⟩,i3,fun x hx=>?_⟩;rw[i4 x hx];show _=(inB x q || inS r x);rw[show inB x q=false by unfold inB;rw[decide_eq_false (show ¬ x<q.2 by lia),Bool.and_false]];rfl
  ·rw[qPM c]
   exact⟨⟨lo,Int.le_refl _,h1,h2,h3⟩,(fun p r' e=>by cases e;lia),fun x _=>rfl⟩
theorem sK(b:Int)(hg:GoodR lo l):GoodR (b-1) (zG b l)/\∀ x,inS (zG b l) x=(inS l x&&decide (b<=x)):=by
 obtain ⟨⟨lo',i1,i2⟩,i3,i4⟩:=qEn b hg
 have key:GoodR (b-1) (zG b l)/\∀ x,b<=x->inS (zG b l) x=inS (jE (b+1) l) x:=by
  unfold zG;cases q:jE (b+1) l with
  |nil=>exact⟨trivial,fun x _=>rfl⟩
  |cons p r=>
   have hp:=i3 p r q;rw[q] at i2;obtain ⟨g1,g2,g3⟩:=i2;simp only
   by_cases c:p.1<b
   ·rw[if_pos c];refine⟨⟨by show b-1<b;lia,by show b<p.2;exact hp,g3⟩,fun x hx=>?_⟩;show (inB x (b,p.2) || inS r x)=(inB x p || inS r x)
    have:inB x (b,p.2)=inB x p:=by
     unfold inB;rw[decide_eq_true (show b<=x from hx),decide_eq_true (show p.1<=x by lia)]
    rw[this]
   ·rw[if_neg c]
    exact⟨⟨by lia,g2,g3⟩,fun x _=>rfl⟩
 refine⟨key.1,fun x=>?_⟩
 by_cases hx:b<=x
 ·rw[key.2 x hx,i4 x hx,decide_eq_true hx,Bool.and_true]
 ·rw[decide_eq_false hx,Bool.and_false];exact qD6 key.1 (by lia)
theorem sL(b:Int)(l:SP):(zG b l).length<=l.length:=by
 have:(jE (b+1) l).length<=l.length:=by unfold jE;rw[List.length_drop];lia
 unfold zG;cases q:jE (b+1) l with
 |nil=>simp
 |cons p r=>
  rw[q] at this;simp only
  split <;> exact this
theorem iW(k:Nat)(l:SP):(spL l).drop k=spL (l.drop k):=by unfold spL;rw[List.map_drop]
theorem qCB(k:Nat)(l:SP):(spL l).take k=spL (l.take k):=by unfold spL;rw[List.map_take]
theorem qDQ(B n:Nat)(b lo:Int)(l:SP)(hg:GoodR lo l)(h:AH)(hB:l.length<B)(hl:l.length<=1000):qA fns B (n+2) qNo [.tup (spL l),.int b] h=if b<0 then .exc bR h else .ok (.tup (spL (zG b l))) h:=by
 rw[qRM];have c1:=qDS B n b h;have c2:=mD B n 1 (.inr rfl) (b+1) lo l hg h hB;have e1:D.int ((1:Nat):Int)=D.int 1:=rfl;rw[e1] at c2
 by_cases q:b<0
 ·rw[if_pos q] at c1;rw[if_pos q];simp! only [fP, *,c1]
 ·rw[if_neg q] at c1;rw[if_neg q];simp! only [fP, *,c1,c2,yN,iW,vO];have hl2:(jE (b+1) l).length<=l.length:=by unfold jE;rw[List.length_drop];lia
  unfold zG;show _=R.ok (D.tup (spL (match jE (b+1) l with | []=>[] | p::r=>if p.1<b then (b,p.2)::r else p::r))) h;change (fin _=_);generalize hd:jE (b+1) l=d at hl2 ⊢;unfold jE at hd;rw[hd];cases d with
  |nil=>simp! only [qAj, *,List.length_nil,show decide ((0:Int)<((0:Nat):Int))=false from rfl]
  |cons p r=>
   have d0:decide ((0:Int)<(((p::r).length:Nat):Int))=true:=decide_eq_true (by simp only[List.length_cons];lia);have ix:((ixN (p::r).length 0).bind fun j=>(spL (p::r))[j]?)=some (spD p):=dU (k:=0) (l:=p::r) rfl;have ix0:((ixN 2 0).bind fun j=>[D.int p.1,D.int p.2][j]?)=some (.int p.1):=rfl;have ix1:((ixN 2 1).bind fun j=>[D.int p.1,D.int p.2][j]?)=some (.int p.2):=rfl;have ct:qO (spL (p::r)) (some 1) none=spL r:=by rw[show (1:Int)=((1:Nat):Int) from rfl,yN];rfl
   unfold spD at ix;have hpl:(spL (p::r)).length=(p::r).length:=vO _;generalize hw:p::r=w at d0 ix ct hl2 hpl ⊢;simp! only [d0,ix,ix0,hpl]
   by_cases c:p.1<b
   ·subst hw;simp! only [c,ix,ix1,hpl,ct,vO,if_pos (show 2<=16777216 by lia),if_pos (show 1<=16777216 by lia)];simp only[List.length_cons] at hl2;rw[if_pos (by lia)];simp! only [and_self];rfl
   ·subst hw;simp! only [qAj, *,c]
theorem qDR(B n:Nat)(b e:Int)(h:AH):qA fns B (n+2) qNq [.int b,.int e] h=if b<0\/e<b then .exc bR h else .ok .non h:=by
 rw[qRO];have c1:=qDS B n b h
 by_cases q:b<0
 ·rw[if_pos q] at c1;rw[if_pos (.inl q)];simp! only [bH, *,c1]
 ·rw[if_neg q] at c1
  by_cases c:e<b
  ·rw[if_pos (.inr c)];simp! only [bH, *,c1,c]
  ·rw[if_neg (by rintro (z | z);exact q z;exact c z)];simp! only [bH, *,c1,c]
def mx(e x:Int):Int:=if x > e then x else e
def mn(b x:Int):Int:=if x<b then x else b
def mrg(e b:Int):Int × Int->SP->SP
 |p,[]=>[(b,mx e p.2)]
 |p,q::r=>if q.1<=e then mrg e b q r else (b,mx e p.2)::q::r
def jX(b e:Int):SP->SP
 | []=>[(b,e)]
 |p::r=>if p.2<b then p::jX b e r else if e<p.1 then (b,e)::p::r else mrg e (mn b p.1) p r
theorem qDA(e b lo:Int)(hb:b<e)(hlo:lo<b):∀ (r:SP) (p:Int × Int),GoodR p.2 r->GoodR lo (mrg e b p r)
 | [],p,_=>⟨hlo,by show b<mx e p.2;unfold mx;split <;> lia,trivial⟩
 |q::r,p,⟨h1,h2,h3⟩=>by
  unfold mrg
  by_cases c:q.1<=e
  ·rw[if_pos c];exact qDA e b lo hb hlo r q h3
  ·rw[if_neg c]
   exact⟨hlo,by show b<mx e p.2;unfold mx;split <;> lia,by show mx e p.2<q.1;unfold mx;split <;> lia,h2,h3⟩
theorem qBd(b e:Int)(hb:b<e):∀ {lo:Int} {l:SP},lo<b->GoodR lo l->GoodR lo (jX b e l)
 |lo,[],hlo,_=>⟨hlo,hb,trivial⟩
 |lo,p::r,hlo,⟨h1,h2,h3⟩=>by
  unfold jX
  by_cases c:p.2<b
  ·rw[if_pos c];exact⟨h1,h2,qBd b e hb c h3⟩
  ·rw[if_neg c]
   by_cases q:e<p.1
   ·rw[if_pos q];exact⟨hlo,hb,q,h2,h3⟩
   ·rw[if_neg q];exact qDA e _ lo (by unfold mn;split <;> lia) (by unfold mn;split <;> lia) r p h3
theorem fA(h:side s p<x):cnt s x (p::r)=cnt s x r+1:=by
 unfold cnt;rw[List.takeWhile_cons,if_pos (by simpa using h),List.length_cons]
theorem sN(h:¬ side s p<x):cnt s x (p::r)=0:=by
 unfold cnt;rw[List.takeWhile_cons,if_neg (by simpa using h)];rfl
theorem qDB(e b:Int):∀ (r:SP) (p:Int × Int),∃ q,(p::r)[cnt 0 (e+1) r]?=some q/\mrg e b p r=(b,mx e q.2)::r.drop (cnt 0 (e+1) r)
 | [],p=>⟨p,rfl,rfl⟩
 |q::r,p=>by
  unfold mrg
  by_cases c:q.1<=e
  ·obtain ⟨z,h1,h2⟩:=qDB e b r q;rw[if_pos c,fA (show side 0 q<e+1 by show q.1<e+1;lia)]
   exact⟨z,by simpa using h1,by rw[h2,List.drop_succ_cons]⟩
  ·rw[if_neg c,sN (show ¬ side 0 q<e+1 by show ¬ q.1<e+1;lia)]
   exact⟨p,rfl,rfl⟩
theorem qGe(b e:Int)(hb:b<=e):∀ {lo:Int} {l:SP},GoodR lo l ->
  (cnt 1 b l<cnt 0 (e+1) l->∃ p q,l[cnt 1 b l]?=some p/\l[cnt 0 (e+1) l-1]?=some q/\jX b e l=l.take (cnt 1 b l)++(mn b p.1,mx e q.2)::l.drop (cnt 0 (e+1) l)) /\
  (¬ cnt 1 b l<cnt 0 (e+1) l->jX b e l=l.take (cnt 1 b l)++(b,e)::l.drop (cnt 0 (e+1) l))
 |lo,[],_=>⟨fun h=>absurd h (Nat.lt_irrefl 0),fun _=>rfl⟩
 |lo,p::r,⟨h1,h2,h3⟩=>by
  by_cases c:p.2<b
  ·have hc:side 1 p<b:=c;have hc2:side 0 p<e+1:=by show p.1<e+1;lia
   obtain ⟨i1,i2⟩:=qGe b e hb h3;unfold jX;rw[if_pos c,fA hc,fA hc2];refine⟨fun h=>?_,fun h=>?_⟩
   ·obtain ⟨x,y,e1,e2,e3⟩:=i1 (by lia);refine⟨x,y,by simpa using e1,?_,by rw[e3];simp⟩
    have:cnt 0 (e+1) r=(cnt 0 (e+1) r-1)+1:=by lia
    rw[Nat.add_sub_cancel,this,List.getElem?_cons_succ];exact e2
   ·rw[i2 (by lia)];simp
  ·have hc:¬ side 1 p<b:=c;rw[sN hc];unfold jX;rw[if_neg c]
   by_cases q:e<p.1
   ·have hq:¬ side 0 p<e+1:=by show ¬ p.1<e+1;lia
    rw[sN hq,if_pos q]
    exact⟨fun h=>absurd h (by lia),fun _=>rfl⟩
   ·have hq:side 0 p<e+1:=by show p.1<e+1;lia
    rw[fA hq,if_neg q];obtain ⟨z,e1,e2⟩:=qDB e (mn b p.1) r p;refine⟨fun _=>⟨p,z,rfl,by rw[Nat.add_sub_cancel];exact e1,by rw[e2];simp⟩,fun h=>absurd (by lia) h⟩
def iE(b e:Int)(l:SP):SP:=if b=e then l else jX b e l
theorem qBc(b e:Int):∀ l:SP,(jX b e l).length<=l.length+1
 | []=>by simp[jX]
 |p::r=>by
  have:=qBc b e r
  have hm:∀ (r:SP) (p:Int × Int) (b:Int),(mrg e b p r).length<=r.length+1:=by
   intro r
   induction r with
   |nil=>intro p b;simp[mrg]
   |cons q r ih=>
    intro p b;unfold mrg;split
    ·have:=ih q b;simp only[List.length_cons];lia
    ·simp
  unfold jX;split
  ·simp only[List.length_cons];lia
  ·split
   ·simp
   ·have:=hm r p (mn b p.1);simp only[List.length_cons];lia
theorem qMS(B n:Nat)(b e lo:Int)(l:SP)(hg:GoodR lo l)(h:AH)(hB:l.length<B)(hl:l.length<=1000) :
  qA fns B (n+3) qNw [.tup (spL l),.int b,.int e] h=if b<0\/e<b then .exc bR h else .ok (.tup (spL (iE b e l))) h:=by
 rw[qRU];have c1:=qDR B n b e h
 by_cases q:b<0\/e<b
 ·rw[if_pos q] at c1 ⊢;simp! only [fT, *,c1]
 ·rw[if_neg q] at c1 ⊢;unfold iE;have d:(b == e)=decide (b=e):=by rw[Bool.eq_iff_iff];simp
  simp! only [fT, *,c1,d]
  by_cases c:b=e
  ·rw[if_pos c];simp! only [c]
  ·rw[if_neg c];have c2:=mD B (n+1) 1 (.inr rfl) b lo l hg h hB;have c3:=mD B (n+1) 0 (.inl rfl) (e+1) lo l hg h hB;have e1:D.int ((1:Nat):Int)=D.int 1:=rfl;have e0:D.int ((0:Nat):Int)=D.int 0:=rfl;rw[e1] at c2;rw[e0] at c3;obtain ⟨k1,k2⟩:=qGe b e (by lia) hg;have l1:=qE0 1 b l;have l2:=qE0 0 (e+1) l;have dl:decide (((cnt 1 b l:Nat):Int)<((cnt 0 (e+1) l:Nat):Int))=decide (cnt 1 b l<cnt 0 (e+1) l):=yK _ _;generalize cnt 1 b l=f at *;generalize cnt 0 (e+1) l=k at *;have tl:(l.take f).length=f:=by rw[List.length_take];lia
   have dr:(l.drop k).length=l.length-k:=by rw[List.length_drop]
   simp! only [qGD, *,c,c2,c3,dl]
   by_cases z:f<k
   ·obtain ⟨p,r,w1,w2,w3⟩:=k1 z;have ixp:=dU w1;have ixr:=dU w2;have ix0:((ixN 2 0).bind fun j=>[D.int p.1,D.int p.2][j]?)=some (.int p.1):=rfl;have ix1:((ixN 2 1).bind fun j=>[D.int r.1,D.int r.2][j]?)=some (.int r.2):=rfl;have hk1:((k:Int)-1)=((k-1:Nat):Int):=by lia
    unfold spD at ixp ixr;have hmn:(if p.1<b then p.1 else b)=mn b p.1:=rfl;have hmx:(if r.2 > e then r.2 else e)=mx e r.2:=rfl;simp! only [qGE,qAt, *,z,hmn,hmx,vO,ixp,ix0,hk1,ixr,ix1,eW,yN,qCB,iW,if_pos (show 2<=16777216 by lia),if_pos (show 1<=16777216 by lia),tl,dr,List.length_append,show f<=16777215 by lia];rw[if_pos (by lia),w3];simp! only [and_self];unfold spL;rw[List.map_append,List.append_assoc];rfl
   ·have w3:=k2 z;simp! only [qAt, *,z,vO,eW,yN,qCB,iW,if_pos (show 2<=16777216 by lia),if_pos (show 1<=16777216 by lia),tl,dr,List.length_append,show f<=16777215 by lia];rw[if_pos (by lia),w3];simp! only [and_self];unfold spL;rw[List.map_append,List.append_assoc];rfl
def jB(e:Int):Int->SP->SP
 |pl,[]=>if pl<e then [(pl,e)] else []
 |pl,p::r=>if e<=p.1 then (if pl<e then [(pl,e)] else []) else if pl<p.1 then (pl,p.1)::jB e p.2 r else jB e p.2 r
theorem qEJ(e:Int):∀ {pl:Int} {l:SP},GoodR (pl-1) l->GoodR (pl-1) (jB e pl l)
 |pl,[],_=>by
  unfold jB;split
  ·exact⟨by show pl-1<pl;lia,by assumption,trivial⟩
  ·trivial
 |pl,p::r,⟨h1,h2,h3⟩=>by
  unfold jB;have ih:GoodR (p.2-1) (jB e p.2 r):=qEJ e (h3.weak (by lia));split
  ·split
   ·exact⟨by show pl-1<pl;lia,by assumption,trivial⟩
   ·trivial
  ·split
   ·exact⟨by show pl-1<pl;lia,by assumption,ih.weak (by show p.1<=_;lia)⟩
   ·exact ih.weak (by lia)
theorem qEI(e:Int):∀ (pl:Int) (l:SP),(jB e pl l).length<=l.length+1
 |pl,[]=>by unfold jB;split <;> simp
 |pl,p::r=>by
  have:=qEI e p.2 r
  unfold jB;split
  ·split <;> simp
  ·split
   ·simp only[List.length_cons];lia
   ·simp only[List.length_cons];lia
def hGo(e:Int):Int->SP->SP × Int
 |pl,[]=>([],pl)
 |pl,p::r=>if e<=p.1 then ([],pl) else if pl<p.1 then ((pl,p.1)::(hGo e p.2 r).1,(hGo e p.2 r).2) else hGo e p.2 r
theorem qEQ(e:Int):∀ (pl:Int) (l:SP),jB e pl l=(hGo e pl l).1++(if (hGo e pl l).2<e then [((hGo e pl l).2,e)] else [])
 |pl,[]=>rfl
 |pl,p::r=>by
  have ih:=qEQ e p.2 r;unfold jB hGo
  by_cases c:e<=p.1
  ·rw[if_pos c,if_pos c];rfl
  ·rw[if_neg c,if_neg c]
   by_cases q:pl<p.1
   ·rw[if_pos q,if_pos q,ih];rfl
   ·rw[if_neg q,if_neg q,ih]
theorem nC(F:Nat->List D->M D)(B:Nat)(h:AH)(s0 s1:Option D)(e:Int):∀ (l:SP) (acc:SP) (pl:Int) (s5:Option D),acc.length+l.length<=2000->∃ s5',zJ (qV (TG.nm 5) (qB F B qAe)) (spL l) [s0,s1,some (.int e),some (.ref h.length),some (.int pl),s5] (h++[.lst (spL acc)]) =
  .nx [s0,s1,some (.int e),some (.ref h.length),some (.int (hGo e pl l).2),s5'] (h++[.lst (spL (acc++(hGo e pl l).1))])
 | [],acc,pl,s5,_=>⟨s5,by unfold hGo;rw[List.append_nil];rfl⟩
 |p::r,acc,pl,s5,hl=>by
  simp only[List.length_cons] at hl;have ix0:((ixN 2 0).bind fun j=>[D.int p.1,D.int p.2][j]?)=some (.int p.1):=rfl;have ix1:((ixN 2 1).bind fun j=>[D.int p.1,D.int p.2][j]?)=some (.int p.2):=rfl;show ∃ s5',zJ _ (spD p::spL r) _ _=_;rw[zJ];unfold hGo;unfold spD;simp! only [qAe, *,ix0]
  by_cases c:e<=p.1
  ·simp! only [c,List.append_nil]
   exact⟨_,rfl⟩
  ·simp! only [qFz, *,c,ix0]
   by_cases q:pl<p.1
   ·obtain ⟨s5',ih⟩:=nC F B h s0 s1 e r (acc++[(pl,p.1)]) p.2 (some (spD p)) (by simp only[List.length_append,List.length_cons,List.length_nil];lia);simp! only [qF0,qAf, *,q,qY,zV,ix0,if_pos (show 2<=16777216 by lia),qW,kP,vO,show acc.length<16777216 by lia,ix1];refine⟨s5',?_⟩;have e1:spL (acc++[(pl,p.1)])=spL acc++[D.tup [D.int pl,D.int p.1]]:=by unfold spL;rw[List.map_append];rfl
    rw[e1,List.append_assoc] at ih;exact ih
   ·obtain ⟨s5',ih⟩:=nC F B h s0 s1 e r acc p.2 (some (spD p)) (by lia);simp! only [qAf, *,q,ix1]
    exact⟨s5',ih⟩
theorem qMB(B n:Nat)(b e lo:Int)(l:SP)(hg:GoodR lo l)(h:AH)(hB:l.length<B)(hl:l.length<=1000)(q:¬ (b<0\/e<b)) :
  ∃ g,qA fns B (n+3) qNn [.tup (spL l),.int b,.int e] h=.ok (.tup (spL (jB e b (zG b l)))) (h++g):=by
 have c1:=qDR B n b e h;rw[qRJ];rw[if_neg q] at c1;have c2:=qDQ B n b lo l hg (h++[.lst []]) hB hl;rw[if_neg (fun z=>q (.inl z))] at c2;have hc:=sL b l;obtain ⟨s5',e1⟩:=nC (qA fns B (n+2)) B h (some (.tup (spL l))) (some (.int b)) e (zG b l) [] b none (by simp only[List.length_nil];lia);have e0:spL []=[]:=rfl;rw[e0,List.nil_append] at e1;have hle:=qEI e b (zG b l);rw[qEQ] at hle ⊢;simp! only [qAg, *,c1,if_pos (show 0<=16777216 by lia),c2,e1];simp only[List.length_append] at hle
 by_cases c:(hGo e b (zG b l)).2<e
 ·simp only[if_pos c,List.length_cons,List.length_nil] at hle ⊢;have hf:spL ((hGo e b (zG b l)).1++[((hGo e b (zG b l)).2,e)])=spL (hGo e b (zG b l)).1++[D.tup [D.int (hGo e b (zG b l)).2,D.int e]]:=by unfold spL;rw[List.map_append];rfl
  simp! only [qAc,qFy,qAd, *,c,qY,zV,qW,kP,vO,if_pos (show 2<=16777216 by lia),show (hGo e b (zG b l)).1.length<16777216 by lia,hf]
  exact⟨_,rfl⟩
 ·simp! only [qAc,qAd, *,if_neg c,List.append_nil,c,qY,zV]
  exact⟨_,rfl⟩
def giv(m:Int)(t:Tx)(s c l:Int)(sp:List D)(e es ih dn:Bool):List (Nat × D):=
 [(kR,.int m),(dH,.str t),(dL,.int s),(dQ,.int c),(dM,.int l),(dI,.tup sp),(dN,.bl e),(mL,.bl es),(mK,.bl ih),(dO,.bl dn)]
section
variable (m:Int)(t:Tx)(s c l:Int)(sp:List D)(e es ih dn:Bool)
theorem eF:qI kR (giv m t s c l sp e es ih dn)=some (.int m):=rfl
theorem jM:qI dH (giv m t s c l sp e es ih dn)=some (.str t):=rfl
theorem uV:qI dL (giv m t s c l sp e es ih dn)=some (.int s):=rfl
theorem uX:qI dQ (giv m t s c l sp e es ih dn)=some (.int c):=rfl
theorem eG:qI dM (giv m t s c l sp e es ih dn)=some (.int l):=rfl
theorem qEW:qI dI (giv m t s c l sp e es ih dn)=some (.tup sp):=rfl
theorem vZ:qI dN (giv m t s c l sp e es ih dn)=some (.bl e):=rfl
theorem qEZ:qI mL (giv m t s c l sp e es ih dn)=some (.bl es):=rfl
theorem qEY:qI mK (giv m t s c l sp e es ih dn)=some (.bl ih):=rfl
theorem nI:qI dO (giv m t s c l sp e es ih dn)=some (.bl dn):=rfl
theorem uW:(giv m t s c l sp e es ih dn).length=10:=rfl
theorem qOd(t':Tx):zI dH (.str t') (giv m t s c l sp e es ih dn)=giv m t' s c l sp e es ih dn:=rfl
theorem qOg(b:Bool):zI dN (.bl b) (giv m t s c l sp e es ih dn)=giv m t s c l sp b es ih dn:=rfl
end
theorem yP(r:List Nat):(306712044914::r).contains qF=true:=rfl
theorem qDP(B n:Nat)(h:AH)(m:Int):qA fns B (n+1) qOD [.ref h.length,.int m] (h++[.ins qF []])=.ok .non (h++[.ins qF (giv m [] 0 0 1 [] false false false false)]):=by
 rw[qRn];simp! only [qBU, *,qW,yP,kP,List.length_nil,List.length_cons,show 0<1000 by lia,if_pos (show 0<=16777216 by lia)];rfl
def yQ(t y:Tx):Bool:=decide (y.length=0\/200<y.length\/2000<t.length+y.length)
theorem qLi(B n:Nat)(h:AH)(i:Nat)(m:Int)(t y:Tx)(s c l:Int)(sp:List D)(e es ih dn:Bool)(hi:h[i]?=some (.ins qF (giv m t s c l sp e es ih dn)))(ht:t.length<=2000)(hy:y.length<=1000) :
  qA fns B (n+1) qN9 [.ref i,.str y] h=if e=true then .exc gL h else if yQ t y=true then .exc iG h else .ok .non (h.set i (.ins qF (giv m (t++y) s c l sp e es ih dn))):=by
 rw[qRi];have hz:y.length<=16777216:=by lia
 have hz2:t.length<=16777216:=by lia
 have d1:decide ((1:Int)<=(y.length:Int))=decide (1<=y.length):=wN 1 _;have d2:decide ((y.length:Int)<=200)=decide (y.length<=200):=wN _ 200
 have d3:decide ((2000:Int)<(t.length:Int)+(y.length:Int))=decide (2000<t.length+y.length):=by
  rw[Bool.eq_iff_iff];simp only[decide_eq_true_eq];lia
 simp! only [qBL, *,hi,vZ];cases e with
 |true=>simp! only [and_self]
 |false=>
  simp! only [qGO, *,if_pos hz,d1]
  by_cases q1:1<=y.length
  ·simp! only [q1,if_pos hz,d2]
   by_cases q2:y.length<=200
   ·simp! only [qGP, *,q2,hi,jM,if_pos hz2,if_pos hz,d3]
    by_cases q3:2000<t.length+y.length
    ·rw[show yQ t y=true from decide_eq_true (.inr (.inr q3))];simp! only [q3]
    ·rw[show yQ t y=false from decide_eq_false (by lia)];simp! only [qGQ, *,q3,hi,jM,if_pos (show t.length+y.length<=16777216 by lia),yP,uW,show 10<1000 by lia,qOd]
   ·rw[show yQ t y=true from decide_eq_true (.inr (.inl (by lia)))];simp! only [q2]
  ·rw[show yQ t y=true from decide_eq_true (.inl (by lia))];simp! only [q1]
theorem dE(B n:Nat)(h:AH)(i:Nat)(m:Int)(t:Tx)(s c l:Int)(sp:List D)(e es ih dn:Bool)(hi:h[i]?=some (.ins qF (giv m t s c l sp e es ih dn))) :
  qA fns B (n+1) qOE [.ref i] h=if e=true then .exc gL h else .ok .non (h.set i (.ins qF (giv m t s c l sp true es ih dn))):=by
 rw[qRo];simp! only [qBV, *,hi,vZ];cases e with
 |true=>simp! only [and_self]
 |false=>simp! only [qGa, *,hi,yP,uW,show 10<1000 by lia,qOg]
section
variable (m:Int)(t:Tx)(s c l:Int)(sp:List D)(e es ih dn:Bool)
theorem qEV(v:Int):zI dQ (.int v) (giv m t s c l sp e es ih dn)=giv m t s v l sp e es ih dn:=rfl
theorem qES(v:Int):zI dM (.int v) (giv m t s c l sp e es ih dn)=giv m t s c v sp e es ih dn:=rfl
theorem qER(v:List D):zI dI (.tup v) (giv m t s c l sp e es ih dn)=giv m t s c l v e es ih dn:=rfl
theorem qET(v:Bool):zI mK (.bl v) (giv m t s c l sp e es ih dn)=giv m t s c l sp e es v dn:=rfl
theorem qEU(v:Bool):zI dO (.bl v) (giv m t s c l sp e es ih dn)=giv m t s c l sp e es ih v:=rfl
theorem qC5:qI 507330387524976831460456 (giv m t s c l sp e es ih dn)=none:=rfl
end
def kGo(c z:Int):SP->SP->SP
 |acc,[]=>acc
 |acc,p::r=>kGo c z (if mx p.1 c<mn p.2 z then jX (mx p.1 c) (mn p.2 z) acc else acc) r
theorem lU(a b:Int):a<=mx a b/\b<=mx a b:=by unfold mx;split <;> lia
theorem mM(c z:Int)(hc:0<=c):∀ (r acc:SP),GoodR (-1) acc->GoodR (-1) (kGo c z acc r)
 | [],acc,h=>h
 |p::r,acc,h=>by
  unfold kGo
  by_cases q:mx p.1 c<mn p.2 z
  ·rw[if_pos q];exact mM c z hc r _ (qBd _ _ q (by have:=lU p.1 c;lia) h)
  ·rw[if_neg q];exact mM c z hc r _ h
theorem qDj(c z:Int):∀ (r acc:SP),(kGo c z acc r).length<=acc.length+r.length
 | [],acc=>by unfold kGo;simp
 |p::r,acc=>by
  unfold kGo;have h1:=qDj c z r (if mx p.1 c<mn p.2 z then jX (mx p.1 c) (mn p.2 z) acc else acc);have h2:=qBc (mx p.1 c) (mn p.2 z) acc
  by_cases q:mx p.1 c<mn p.2 z
  ·rw[if_pos q] at h1 ⊢;simp only[List.length_cons]
   lia
  ·rw[if_neg q] at h1 ⊢;simp only[List.length_cons]
   lia
section
variable {B n:Nat}{h:AH}{i:Nat}{m:Int}{t:Tx}{s c l:Int}{sp:List D}{e es ih dn:Bool}
theorem mG(hi:h[i]?=some (.ins qF (giv m t s c l sp e es ih dn)))(ht:t.length<=16777216)(hc:0<=c)(x1:Option D):∀ (r acc:SP) (s3 s4 s5:Option D),GoodR (-1) acc->acc.length+r.length<B->acc.length+r.length<=1000 ->
  ∃ s3' s4' s5',zJ (qV (TG.nm 3) (qB (qA fns B (n+3)) B iC)) (spL r) [some (.ref i),x1,some (.tup (spL acc)),s3,s4,s5] h=.nx [some (.ref i),x1,some (.tup (spL (kGo c t.length acc r))),s3',s4',s5'] h
 | [],acc,s3,s4,s5,_,_,_=>⟨s3,s4,s5,rfl⟩
 |p::r,acc,s3,s4,s5,hg,h1,h2=>by
  have i0:((ixN 2 0).bind fun j=>[D.int p.1,.int p.2][j]?)=some (.int p.1):=rfl;have i1:((ixN 2 1).bind fun j=>[D.int p.1,.int p.2][j]?)=some (.int p.2):=rfl;simp only[List.length_cons] at h1 h2;have ta:=qMS B n (mx p.1 c) (mn p.2 t.length) (-1) acc hg h (by lia) (by lia);have h3:=lU p.1 c;have em:(if c > p.1 then c else p.1)=mx p.1 c:=rfl;have en:(if (t.length:Int)<p.2 then (t.length:Int) else p.2)=mn p.2 t.length:=rfl
  by_cases q:mx p.1 c<mn p.2 t.length
  ·rw[if_neg (by lia)] at ta;have hs:iE (mx p.1 c) (mn p.2 t.length) acc=jX (mx p.1 c) (mn p.2 t.length) acc:=by unfold iE;rw[if_neg (by lia)]
   rw[hs] at ta;have hl:=qBc (mx p.1 c) (mn p.2 t.length) acc;obtain ⟨a,b,d,e2⟩:=mG hi ht hc x1 r (jX (mx p.1 c) (mn p.2 t.length) acc) (some (spD p)) (some (.int (mx p.1 c))) (some (.int (mn p.2 t.length))) (qBd _ _ q (by lia) hg) (by lia) (by lia);refine⟨a,b,d,?_⟩;unfold kGo;rw[if_pos q,<- e2];show SR.turn _ _=_;rw[kA];simp! only [iC,qGZ, *,spD,i0,i1,hi,uX,jM,if_pos ht,em,en,q,ta];rfl
  ·obtain ⟨a,b,d,e2⟩:=mG hi ht hc x1 r acc (some (spD p)) (some (.int (mx p.1 c))) (some (.int (mn p.2 t.length))) hg (by lia) (by lia);refine⟨a,b,d,?_⟩;unfold kGo;rw[if_neg q,<- e2];show SR.turn _ _=_;rw[kA];simp! only [iC, *,spD,i0,i1,hi,uX,jM,if_pos ht,em,en,q];rfl
theorem qL7(hi:h[i]?=some (.ins qF (giv m t s c l (spL q0) e es ih dn)))(hg:GoodR (-1) q0)(ht:t.length<=16777216)(hc:0<=c)(r:SP)(hB:q0.length+r.length<B)(hl:q0.length+r.length<=1000) :
  qA fns B (n+4) qOC [.ref i,.tup (spL r)] h=.ok (.tup (spL (kGo c t.length (zG c q0) r))) h:=by
 rw[qRm];have tc:=qDQ B (n+1) c (-1) q0 hg h (by lia) (by lia);rw[if_neg (by lia)] at tc;have hl2:=sL c q0;have gc:GoodR (-1) (zG c q0):=GoodR.weak (by lia) (sK c hg).1;obtain ⟨a,b,d,e2⟩:=mG (B:=B) (n:=n) hi ht hc (some (.tup (spL r))) r (zG c q0) none none none gc (by lia) (by lia);simp! only [qBT,qGY, *,hi,qEW,uX,tc,e2]
def gF(t:Tx)(e:Bool)(u v:Int):Prop:=(if e=true then (t.length:Int)+1 else (t.length:Int))<u\/v+1<u
theorem qMO(hi:h[i]?=some (.ins qF (giv m t s c l sp e es ih dn)))(ht:t.length<=16777216)(u v:Int)(d:D)(hb:gF t e u v):qA fns B (n+5) eB [.ref i,.int u,.int v,d] h=.ok .non h:=by
 rw[qFJ];unfold gF at hb;cases e with
 |true=>
  simp only[if_true] at hb
  by_cases q:(t.length:Int)+1<u
  ·simp! only [wU, *,hi,vZ,jM,if_pos ht,q]
  ·simp! only [wU, *,hi,vZ,jM,if_pos ht,q,show v+1<u by lia]
 |false=>
  simp only[Bool.false_eq_true,if_false] at hb
  by_cases q:(t.length:Int)<u
  ·simp! only [wU, *,hi,vZ,jM,if_pos ht,q]
  ·simp! only [wU, *,hi,vZ,jM,if_pos ht,q,show v+1<u by lia]
theorem qMP(hi:h[i]?=some (.ins qF (giv m t s c l (spL q0) e es ih dn)))(hg:GoodR (-1) q0)(ht:t.length<=16777216)(hc:0<=c)(u v:Int)(r:SP)(hB:q0.length+r.length<B)(hl:q0.length+r.length<=1000)(hb:¬ gF t e u v) :
  qA fns B (n+5) eB [.ref i,.int u,.int v,.tup (spL r)] h=.ok .non (h.set i (.ins qF (giv m t s (mx c u) (mx l v) (spL (kGo (mx c u) t.length (zG (mx c u) q0) r)) e es true (e&&(mx c u == (t.length:Int)+1))))):=by
 rw[qFJ];have hil:=(List.getElem?_eq_some_iff.mp hi).1;have setI:∀ o,(h.set i o)[i]?=some o:=fun o=>by rw[List.getElem?_set,if_pos rfl,if_pos hil]
 have em:(if u > c then u else c)=mx c u:=rfl;have el:(if v > l then v else l)=mx l v:=rfl;have tb:tbN [(306712044914,11)] qF=some 11:=rfl;have h3:=lU c u;have tk:=qL7 (B:=B) (n:=n) (h:=h.set i (.ins qF (giv m t s (mx c u) (mx l v) (spL q0) e es true dn))) (i:=i) (setI _) hg ht (by lia) r hB hl;unfold gF at hb;cases e with
 |true=>simp only[if_true] at hb;simp! only [wU,qBW, *,hi,vZ,jM,if_pos ht,show ¬ (t.length:Int)+1<u by lia,show ¬ v+1<u by lia,yP,uW,show 10<1000 by lia,qET,setI,uX,em,qEV,List.set_set,eG,el,qES,qC5,tb,tk,qER,qEU,Bool.true_and]
 |false=>simp only[Bool.false_eq_true,if_false] at hb;simp! only [wU,qBW, *,hi,vZ,jM,if_pos ht,show ¬ (t.length:Int)<u by lia,show ¬ v+1<u by lia,yP,uW,show 10<1000 by lia,qET,setI,uX,em,qEV,List.set_set,eG,el,qES,qC5,tb,tk,qER,qEU,Bool.false_and]
end
section
variable (m:Int)(t:Tx)(s c l:Int)(sp:List D)(e es ih dn:Bool)
theorem qOe(v:Int):zI dL (.int v) (giv m t s c l sp e es ih dn)=giv m t v c l sp e es ih dn:=rfl
theorem qOf(v:Bool):zI mL (.bl v) (giv m t s c l sp e es ih dn)=giv m t s c l sp e v ih dn:=rfl
theorem lT:qI 2036453570056342827636 (giv m t s c l sp e es ih dn)=none:=rfl
end
theorem qLJ(a b:Nat):(if (b:Int) > (a:Int) then (b:Int) else (a:Int))=((max a b:Nat):Int):=by
 split <;> lia
def zA(t:Tx)(m l s:Nat):Nat:=min (min (s+m) l) t.length
theorem qBm(t:Tx)(m l s:Nat):(if (t.length:Int)<(if (l:Int)<(s:Int)+(m:Int) then (l:Int) else (s:Int)+(m:Int)) then (t.length:Int) else (if (l:Int)<(s:Int)+(m:Int) then (l:Int) else (s:Int)+(m:Int)))=((zA t m l s:Nat):Int):=by
 unfold zA
 split <;> split <;> lia
def jK(t:Tx)(s u:Nat):D:=.tup [.str [100,97,116,97],.int s,.str (qO t (some (s:Int)) (some (u:Int)))]
def kF(s:Nat):D:=.tup [.str [101,110,100],.int s]
def run(t:Tx)(m l:Nat):Nat->Nat->Bool->List D × Nat × Bool
 |0,s,_=>([],s,false)
 |k+1,s,o=>if s<zA t m l s then (jK t s (zA t m l s)::(run t m l k (zA t m l s) o).1,(run t m l k (zA t m l s) o).2)
  else if (o&&decide (s=t.length))=true then (kF s::(run t m l k s false).1,(run t m l k s false).2.1,true) else ([],s,false)
section
variable {n:Nat}{h:AH}{i:Nat}{m s c l:Nat}{t:Tx}{sp:List D}{e es ih dn:Bool}
theorem qMV(s:Nat)(t:Tx):((s:Int) == (t.length:Int))=decide (s=t.length):=qD2 _ _
theorem qL0(B n:Nat)(hi:h[i]?=some (.ins qF (giv m t s c l sp e es ih dn)))(ht:t.length<=2000)(q:s<zA t m l s) :
  qA fns B (n+1) qED [.ref i] h=.ok (jK t s (zA t m l s)) (h.set i (.ins qF (giv m t (zA t m l s) c l sp e es ih dn))):=by
 rw[qFI];have hil:=(List.getElem?_eq_some_iff.mp hi).1;have setI:∀ o,(h.set i o)[i]?=some o:=fun o=>by rw[List.getElem?_set,if_pos rfl,if_pos hil]
 have hz:t.length<=16777216:=by lia
 have d0:decide ((s:Int)<((zA t m l s:Nat):Int))=decide (s<zA t m l s):=yK _ _;unfold jK;simp! only [iB,qGX, *,hi,uV,eF,eG,jM,if_pos hz,qBm,d0,q,yP,uW,show 10<1000 by lia,qOe,setI,if_pos (show 3<=16777216 by lia)]
theorem qLz(B n:Nat)(hi:h[i]?=some (.ins qF (giv m t s c l sp e es ih dn)))(ht:t.length<=2000)(q:¬ s<zA t m l s) :
  qA fns B (n+1) qED [.ref i] h=if ((e&&!es)&&decide (s=t.length))=true then .ok (kF s) (h.set i (.ins qF (giv m t s c l sp e true ih dn))) else .ok .non h:=by
 rw[qFI];have hz:t.length<=16777216:=by lia
 have d0:decide ((s:Int)<((zA t m l s:Nat):Int))=decide (s<zA t m l s):=yK _ _;unfold kF;simp! only [iB,qGV, *,hi,uV,eF,eG,jM,if_pos hz,qBm,d0,q,vZ];cases e with
 |false=>simp! only [iA, *,Bool.false_and]
 |true=>
  simp! only [hi,qEZ];cases es with
  |true=>simp! only [iA, *,Bool.and_false,Bool.false_and]
  |false=>
   simp! only [hi,jM,if_pos hz,qMV,Bool.true_and];cases q2:decide (s=t.length) with
   |false=>simp! only [iA, *,and_self]
   |true=>simp! only [qGW, *,hi,yP,uW,show 10<1000 by lia,qOf,if_pos (show 2<=16777216 by lia)]
theorem wH(hi:h[i]?=some o):h.set i o=h:=by
 obtain ⟨hl,rfl⟩:=List.getElem?_eq_some_iff.mp hi;exact List.set_getElem_self hl
theorem lL(B n:Nat)(ht:t.length<=2000)(cnt:Nat)(hc:cnt<=1000):∀ (f k s:Nat) (h:AH) (es:Bool) (acc:List D) (x3:Option D),acc.length+k=cnt->k<f->h[i]?=some (.ins qF (giv m t s c l sp e es ih dn)) ->
  ∃ x3',kH (qM (qA fns B (n+1)) gK) (qB (qA fns B (n+1)) B bM) f [some (.ref i),some (.int cnt),some (.ref h.length),x3] (h++[.lst acc]) =
   .nx [some (.ref i),some (.int cnt),some (.ref h.length),x3'] (h.set i (.ins qF (giv m t (run t m l k s (e&&!es)).2.1 c l sp e (es || (run t m l k s (e&&!es)).2.2) ih dn))++[.lst (acc++(run t m l k s (e&&!es)).1)])
 |0,k,s,h,es,acc,x3,_,hk,_=>by lia
 |f+1,0,s,h,es,acc,x3,hl,hk,hi=>by
  have d0:decide ((acc.length:Int)<(cnt:Int))=false:=decide_eq_false (by lia);refine⟨x3,?_⟩;unfold kH;simp! only [gK, *,qY,zV,d0,run,wH hi,List.append_nil]
 |f+1,k+1,s,h,es,acc,x3,hl,hk,hi=>by
  have d0:decide ((acc.length:Int)<(cnt:Int))=true:=decide_eq_true (by lia);have hil:=(List.getElem?_eq_some_iff.mp hi).1;have hi2:(h++[O.lst acc])[i]?=some (.ins qF (giv m t s c l sp e es ih dn)):=by rw[List.getElem?_append_left hil,hi]
  have tb:tbN [(306712044914,13)] qF=some 13:=rfl;have seI:∀ o l,(h++l).set i o=h.set i o++l:=fun o l=>List.set_append_left _ _ hil;have sl:∀ o,(h.set i o).length=h.length:=fun o=>List.length_set;have s1:∀ o l,qC (h.set i o++[.lst l]) h.length=some l:=fun o l=>by rw[<- sl o,qY];rfl
  have s2:∀ o l,(h.set i o++[.lst l])[h.length]?=some (.lst l):=fun o l=>by rw[<- sl o,qW];rfl
  have s3:∀ o l l',(h.set i o++[O.lst l]).set h.length (.lst l')=h.set i o++[.lst l']:=fun o l l'=>by rw[<- sl o,kP];rfl
  have hal:acc.length<16777216:=by lia
  by_cases q:s<zA t m l s
  ·have np:=qL0 (h:=h++[.lst acc]) B n hi2 ht q;rw[seI] at np;obtain ⟨x3',ih1⟩:=lL B n ht cnt hc f k (zA t m l s) (h.set i (.ins qF (giv m t (zA t m l s) c l sp e es ih dn))) es (acc++[jK t s (zA t m l s)]) (some (jK t s (zA t m l s))) (by simp;lia) (by lia) (by rw[List.getElem?_set,if_pos rfl,if_pos hil]);rw[sl,List.set_set] at ih1;refine⟨x3',?_⟩
   have er:run t m l (k+1) s (e&&!es)=(jK t s (zA t m l s)::(run t m l k (zA t m l s) (e&&!es)).1,(run t m l k (zA t m l s) (e&&!es)).2):=by
    rw[run,if_pos q]
   rw[er];simp only;rw[show acc++jK t s (zA t m l s)::(run t m l k (zA t m l s) (e&&!es)).1=acc++[jK t s (zA t m l s)]++(run t m l k (zA t m l s) (e&&!es)).1 by simp,<- ih1]
   conv=>lhs;unfold kH
   simp! only [gK,bM,qBR, *,qY,zV,d0,hi2,lT,tb,np,jK,s1,s2,s3,if_pos hal]
  ·have np:=qLz (h:=h++[.lst acc]) B n hi2 ht q
   by_cases q2:((e&&!es)&&decide (s=t.length))=true
   ·rw[if_pos q2,seI] at np;have q3:(e&&!es)=true:=(Bool.and_eq_true_iff.mp q2).1;have hes:es=false:=by cases es with | false=>rfl | true=>rw[Bool.not_true,Bool.and_false] at q3;cases q3
    subst hes;obtain ⟨x3',ih1⟩:=lL B n ht cnt hc f k s (h.set i (.ins qF (giv m t s c l sp e true ih dn))) true (acc++[kF s]) (some (kF s)) (by simp;lia) (by lia) (by rw[List.getElem?_set,if_pos rfl,if_pos hil]);rw[sl,List.set_set,Bool.not_true,Bool.and_false,Bool.true_or] at ih1;refine⟨x3',?_⟩
    have er:run t m l (k+1) s (e&&!false)=(kF s::(run t m l k s false).1,(run t m l k s false).2.1,true):=by
     rw[run,if_neg q,if_pos q2]
    rw[er];simp only;rw[show acc++kF s::(run t m l k s false).1=acc++[kF s]++(run t m l k s false).1 by simp,Bool.or_true,<- ih1]
    conv=>lhs;unfold kH
    simp! only [gK,bM,qBR, *,qY,zV,d0,hi2,lT,tb,np,kF,s1,s2,s3,if_pos hal]
   ·rw[if_neg q2] at np;refine⟨some .non,?_⟩;have er:run t m l (k+1) s (e&&!es)=([],s,false):=by rw[run,if_neg q,if_neg q2]
    rw[er];simp only[Bool.or_false,wH hi,List.append_nil];unfold kH;simp! only [gK,bM, *,qY,zV,d0,hi2,lT,tb,np]
theorem qL3(B n:Nat)(ht:t.length<=2000)(k:Nat)(hB:k<B)(hc:k<=1000)(hi:h[i]?=some (.ins qF (giv m t s c l sp e es ih dn))) :
  qA fns B (n+2) qEC [.ref i,.int k] h=.ok (.ref h.length) (h.set i (.ins qF (giv m t (run t m l k s (e&&!es)).2.1 c l sp e (es || (run t m l k s (e&&!es)).2.2) ih dn))++[.lst (run t m l k s (e&&!es)).1]):=by
 rw[qRl];obtain ⟨x3',e1⟩:=lL (i:=i) (m:=m) (c:=c) (l:=l) (e:=e) (ih:=ih) (dn:=dn) B n ht k hc B k s h es [] none (by simp) hB hi;rw[List.nil_append] at e1;simp! only [qBS,qGU, *,e1,if_pos (show 0<=16777216 by lia)]
end
def jN(most:Nat):Nat->Nat->Nat->List (Nat × Nat)
 |0,_,_=>[]
 |f+1,a,b=>if a<b then (a,min (a+most) b)::jN most f (a+most) b else []
def bQ:Nat->List (Nat × Nat)->Prop
 |_,[]=>True
 |lo,p::r=>lo<=p.1/\p.1<p.2/\bQ (p.2+1) r
theorem qIy(lo st:Int)(n:Nat):vP lo st (n+1)=.int lo::vP (lo+st) st n:=by
 unfold vP;rw[List.range_succ_eq_map,List.map_cons,List.map_map];refine congr (congrArg _ ?_) (List.map_congr_left fun k _=>?_)
 ·rw[show ((0:Nat):Int)=0 from rfl,Int.zero_mul,Int.add_zero]
 ·show D.int (lo+((k+1:Nat):Int)*st)=D.int (lo+st+(k:Int)*st);rw[Int.natCast_add,Int.add_mul,Int.natCast_one,Int.one_mul,Int.add_assoc,Int.add_comm st]
theorem qC7(h:¬ a<b):nS a b m=0:=by unfold nS;rw[if_neg h]
theorem qLI(hm:1<=m)(h:a<b):nS a b m=nS (a+m) b m+1:=by
 unfold nS;rw[if_pos h]
 by_cases q:a+m<b
 ·rw[if_pos q]
  have e:(b-a-1) / m=(b-(a+m)-1) / m+1:=by
   rw[show b-a-1=b-(a+m)-1+m by lia,Int.add_ediv_of_dvd_right (Int.dvd_refl m),Int.ediv_self (by lia)]
  have h0:0<=(b-(a+m)-1) / m:=Int.ediv_nonneg (by lia) (by lia);rw[e]
  lia
 ·rw[if_neg q,Int.ediv_eq_zero_of_lt (by lia) (by lia)];rfl
theorem qCe{m:Nat}(hm:1<=m):∀ (f a b:Nat),b<a+f->vP (a:Int) (m:Int) (nS (a:Int) (b:Int) (m:Int))=(jN m f a b).map fun p=>D.int p.1
 |0,a,b,h=>by
  rw[qC7 (by lia)];rfl
 |f+1,a,b,h=>by
  unfold jN
  by_cases q:a<b
  ·rw[if_pos q,qLI (by lia) (by lia),qIy,<- Int.natCast_add,qCe hm f (a+m) b (by lia)];rfl
  ·rw[if_neg q,qC7 (by lia)];rfl
theorem qE4:∀ (f a b:Nat),p∈jN m f a b->p.2=min (p.1+m) b
 |0,a,b,h=>nomatch h
 |f+1,a,b,h=>by
  unfold jN at h;split at h
  ·rcases List.mem_cons.mp h with rfl | h
   ·rfl
   ·exact qE4 f (a+m) b h
  ·cases h
def dP(t:Tx)(p:Nat × Nat):D:=jK t p.1 p.2
section
variable {h:AH}{i:Nat}{m s:Nat}{c l:Int}{t:Tx}{sp:List D}{e es ih dn:Bool}
theorem qLH:qI 135859872665656628713974126 (giv m t s c l sp e es ih dn)=none:=rfl
theorem qLG:qI 2279350429444218050288784390251891 (giv m t s c l sp e es ih dn)=none:=rfl
theorem qCn(F:Nat->List D->M D)(B:Nat)(hi:h[i]?=some (.ins qF (giv m t s c l sp e es ih dn)))(ht:t.length<=16777216)(b:Nat)(g:AH)(a0:Int):∀ (ps:List (Nat × Nat)) (acc:List D) (x3:Option D),(∀ p∈ps,p.2=min (p.1+m) b)->acc.length+ps.length<=2000 ->
  ∃ x3',zJ (qV (.nm 3) (qB F B qBN)) (ps.map fun p=>D.int p.1) [some (.ref i),some (.ref h.length),some (.tup [.int a0,.int b]),x3] (h++.lst acc::g)=.nx [some (.ref i),some (.ref h.length),some (.tup [.int a0,.int b]),x3'] (h++.lst (acc++ps.map (dP t))::g)
 | [],acc,x3,_,_=>⟨x3,by rw[List.map_nil,List.map_nil,List.append_nil];rfl⟩
 |p::r,acc,x3,hp,hl=>by
  simp only[List.length_cons] at hl;obtain ⟨x3',ih1⟩:=qCn F B hi ht b g a0 r (acc++[dP t p]) (some (.int p.1)) (fun z hz=>hp z (List.mem_cons_of_mem _ hz)) (by simp only[List.length_append,List.length_cons,List.length_nil];lia);refine⟨x3',?_⟩;rw[List.map_cons,List.map_cons,show acc++dP t p::r.map (dP t)=acc++[dP t p]++r.map (dP t) by simp,<- ih1];have hil:=(List.getElem?_eq_some_iff.mp hi).1;have hi2:∀ g',(h++g')[i]?=some (.ins qF (giv m t s c l sp e es ih dn)):=fun g'=>by rw[List.getElem?_append_left hil,hi]
  have i1:((ixN 2 1).bind fun j=>[D.int a0,D.int b][j]?)=some (.int b):=rfl
  have en:(if (b:Int)<(p.1:Int)+(m:Int) then (b:Int) else (p.1:Int)+(m:Int))=((p.2:Nat):Int):=by
   rw[hp p (List.mem_cons_self ..)];split <;> lia
  show SR.turn _ _=_;rw[kA];unfold dP jK;simp! only [qBN, *,qY,zV,hi2,jM,eF,i1,en,if_pos ht,qW,kP,if_pos (show 3<=16777216 by lia),if_pos (show acc.length<16777216 by lia)]
def spN(H:List (Nat × Nat)):SP:=H.map fun p=>((p.1:Int),(p.2:Int))
theorem qEH(F:Nat->List D->M D)(B:Nat)(hm:1<=m)(hm2:m<=1000)(hi:h[i]?=some (.ins qF (giv m t s c l sp e es ih dn)))(ht:t.length<=16777216)(g:AH)(f:Nat):∀ (H:List (Nat × Nat)) (acc:List D) (x2 x3:Option D),(∀ p∈H,p.1<=p.2/\p.2<f/\p.2<=2000)->acc.length+(H.flatMap fun p=>jN m f p.1 p.2).length<=2000 ->
  ∃ x2' x3',zJ (qV (.nm 2) (qB F B qBM)) (spL (spN H)) [some (.ref i),some (.ref h.length),x2,x3] (h++.lst acc::g)=.nx [some (.ref i),some (.ref h.length),x2',x3'] (h++.lst (acc++(H.flatMap fun p=>jN m f p.1 p.2).map (dP t))::g)
 | [],acc,x2,x3,_,_=>⟨x2,x3,by rw[List.flatMap_nil,List.map_nil,List.append_nil];rfl⟩
 |p::r,acc,x2,x3,hp,hl=>by
  rw[List.flatMap_cons,List.length_append] at hl;have hp1:=hp p (List.mem_cons_self ..);obtain ⟨y3,e1⟩:=qCn F B hi ht p.2 g p.1 (jN m f p.1 p.2) acc x3 (fun z hz=>qE4 f _ _ hz) (by lia);obtain ⟨z2,z3,e2⟩:=qEH F B hm hm2 hi ht g f r (acc++(jN m f p.1 p.2).map (dP t)) (some (.tup [.int p.1,.int p.2])) y3 (fun z hz=>hp z (List.mem_cons_of_mem _ hz)) (by rw[List.length_append,List.length_map];lia);refine⟨z2,z3,?_⟩;rw[List.flatMap_cons,List.map_append,<- List.append_assoc,<- e2];have hil:=(List.getElem?_eq_some_iff.mp hi).1;have hi2:∀ g',(h++g')[i]?=some (.ins qF (giv m t s c l sp e es ih dn)):=fun g'=>by rw[List.getElem?_append_left hil,hi]
  have i0:((ixN 2 0).bind fun j=>[D.int p.1,D.int p.2][j]?)=some (.int p.1):=rfl;have i1:((ixN 2 1).bind fun j=>[D.int p.1,D.int p.2][j]?)=some (.int p.2):=rfl;have hq:(zU (p.1:Int)/\zU (p.2:Int))/\0<(m:Int)/\(m:Int)<1073741824:=by unfold zU;lia
  have er:=qCe hm f p.1 p.2 (by lia);show SR.turn _ _=_;rw[kA];simp! only [qBM, *,spD,hi2,eF,i0,i1,if_pos hq,er,e1];rfl
end
section
variable {h:AH}{i:Nat}{m s c:Nat}{l:Int}{t:Tx}{q0:SP}{e es ih dn:Bool}
def jQ(m f:Nat)(H:List (Nat × Nat)):List (Nat × Nat):=H.flatMap fun p=>jN m f p.1 p.2
theorem qLx(B n:Nat)(hm:1<=m)(hm2:m<=1000)(hi:h[i]?=some (.ins qF (giv m t s c l (spL q0) e es ih dn)))(ht:t.length<=16777216)(hg:GoodR (-1) q0)(hB:q0.length<B)(hq:q0.length<=1000)(H:List (Nat × Nat))(hH:jB ((max c s:Nat):Int) c (zG c q0)=spN H)(f:Nat)(hf:∀ p∈H,p.1<=p.2/\p.2<f/\p.2<=2000)(hl:(jQ m f H).length<=2000) :
  ∃ g,qA fns B (n+4) qOA [.ref i] h=.ok (.ref h.length) (h++.lst ((jQ m f H).map (dP t))::g):=by
 rw[qRj];have hil:=(List.getElem?_eq_some_iff.mp hi).1;have hi2:∀ g',(h++g')[i]?=some (.ins qF (giv m t s c l (spL q0) e es ih dn)):=fun g'=>by rw[List.getElem?_append_left hil,hi]
 obtain ⟨g,e1⟩:=qMB B n c ((max c s:Nat):Int) (-1) q0 hg (h++[.lst []]) hB hq (by lia);rw[hH,List.append_assoc] at e1;obtain ⟨y2,y3,e2⟩:=qEH (qA fns B (n+3)) B hm hm2 hi ht g f H [] none none hf (by rw[List.length_nil,Nat.zero_add];exact hl);rw[List.nil_append] at e2;refine⟨g,?_⟩;unfold jQ;simp! only [qBO,qGR, *,hi2,qEW,uX,uV,qLJ,if_pos (show 0<=16777216 by lia),e1,List.singleton_append,e2]
def agn(t:Tx)(s:Nat)(es dn ih:Bool)(P:List D):List D:=
 if 0<P.length then P else if (es&&!dn)=true then [kF t.length] else if (decide (s<t.length) || !ih)=true then [jK [] s s] else []
theorem qEr(s:Nat):jK [] s s=.tup [.str [100,97,116,97],.int s,.str []]:=by
 unfold jK qO;rw[List.drop_nil,List.take_nil]
theorem qL1(B n:Nat)(hm:1<=m)(hm2:m<=1000)(hi:h[i]?=some (.ins qF (giv m t s c l (spL q0) e es ih dn)))(ht:t.length<=16777216)(hg:GoodR (-1) q0)(hB:q0.length<B)(hq:q0.length<=1000)(H:List (Nat × Nat))(hH:jB ((max c s:Nat):Int) c (zG c q0)=spN H)(f:Nat)(hf:∀ p∈H,p.1<=p.2/\p.2<f/\p.2<=2000)(hl:(jQ m f H).length<=2000) :
  ∃ r g,qA fns B (n+5) qOB [.ref i] h=.ok (.ref r) (h++g)/\qC (h++g) r=some (agn t s es dn ih ((jQ m f H).map (dP t))):=by
 rw[qRk];obtain ⟨g,e1⟩:=qLx B n hm hm2 hi ht hg hB hq H hH f hf hl;have tb:tbN [(306712044914,16)] qF=some 16:=rfl;have hil:=(List.getElem?_eq_some_iff.mp hi).1;have hi2:∀ g',(h++g')[i]?=some (.ins qF (giv m t s c l (spL q0) e es ih dn)):=fun g'=>by rw[List.getElem?_append_left hil,hi]
 generalize hP:(jQ m f H).map (dP t)=P at *;unfold agn;simp! only [qBQ, *,hi,qLG,tb,e1,qY,zV]
 by_cases q:0<P.length
 ·have d0:decide ((0:Int)<(P.length:Int))=true:=decide_eq_true (by lia);simp! only [d0,if_pos q]
  exact⟨_,_,rfl,by rw[qY,zV]⟩
 ·have d0:decide ((0:Int)<(P.length:Int))=false:=decide_eq_false (by lia);simp! only [qGS, *,d0,if_neg q,hi2,qEZ,nI]
  have out:∀ P':List D,qC (h++O.lst P::(g++[O.lst P'])) (h++O.lst P::g).length=some P':=fun P'=>by
   have:=qY (h++O.lst P::g) [O.lst P']
   rw[List.append_assoc,List.cons_append,zV] at this;exact this
  by_cases z:(es&&!dn)=true
  ·obtain ⟨z1,z2⟩:=Bool.and_eq_true_iff.mp z;rw[if_pos z];cases dn with
   |true=>cases z2
   |false=>
    subst z1;unfold kF;simp! only [hi2,jM,nI,if_pos ht,if_pos (show 2<=16777216 by lia),if_pos (show 1<=16777216 by lia),List.append_assoc,List.cons_append]
    exact⟨_,_,rfl,out _⟩
  ·rw[if_neg z]
   have tail:∃ r g_1,fin (qB (qA fns B (n+4)) B qBP [some (D.ref i),some (D.ref h.length)] (h++O.lst P::g))=.ok (.ref r) (h++g_1)/\qC (h++g_1) r=some (if (decide (s<t.length) || !ih)=true then [jK [] s s] else []):=by
    have d1:decide ((s:Int)<(t.length:Int))=decide (s<t.length):=yK _ _;simp! only [qBP, *,hi2,uV,jM,if_pos ht,d1,qEY,qEr]
    by_cases z1:s<t.length
    ·simp! only [z1,hi2,uV,if_pos (show 3<=16777216 by lia),if_pos (show 1<=16777216 by lia),List.append_assoc,List.cons_append,Bool.true_or]
     exact⟨_,_,rfl,out _⟩
    ·simp! only [z1,hi2,qEY,Bool.false_or];cases ih with
     |false=>
      simp! only [hi2,uV,if_pos (show 3<=16777216 by lia),if_pos (show 1<=16777216 by lia),List.append_assoc,List.cons_append]
      exact⟨_,_,rfl,out _⟩
     |true=>
      simp! only [qGT, *,if_pos (show 0<=16777216 by lia),List.append_assoc,List.cons_append]
      exact⟨_,_,rfl,out _⟩
   cases es with
   |false=>simp! only [and_self];exact tail
   |true=>
    cases dn with
    |true=>simp! only [hi2,nI];exact tail
    |false=>exact absurd rfl z
theorem qMR(B n:Nat)(hm:1<=m)(hm2:m<=1000)(hi:h[i]?=some (.ins qF (giv m t s c l (spL q0) e es ih dn)))(ht:t.length<=16777216)(hg:GoodR (-1) q0)(hB:q0.length<B)(hq:q0.length<=1000)(H:List (Nat × Nat))(hH:jB ((max c s:Nat):Int) c (zG c q0)=spN H)(f:Nat)(hf:∀ p∈H,p.1<=p.2/\p.2<f/\p.2<=2000)(hl:(jQ m f H).length<=2000)(k:Nat) :
  ∃ g,qA fns B (n+6) qEE [.ref i,.int k] h=.ok (.ref (h++g).length) (h++g++[.lst ((agn t s es dn ih ((jQ m f H).map (dP t))).take k)]):=by
 rw[qRp];obtain ⟨r,g,e1,e2⟩:=qL1 B n hm hm2 hi ht hg hB hq H hH f hf hl;have tb:tbN [(306712044914,15)] qF=some 15:=rfl
 have hla:(agn t s es dn ih ((jQ m f H).map (dP t))).length<=16777216:=by
  unfold agn;split
  ·rw[List.length_map];lia
  ·split
   ·simp
   ·split <;> simp
 generalize agn t s es dn ih ((jQ m f H).map (dP t))=A at *;refine⟨g,?_⟩;simp! only [qBX, *,hi,qLH,tb,e1,e2,if_pos hla,eW,if_pos (show (A.take k).length<=16777216 by rw[List.length_take];lia)]
end
theorem qCA:∀ {l:SP} {lo:Int} {k:Nat},lo+1=(k:Int)->GoodR lo l->∃ H,l=spN H/\bQ k H
 | [],_,_,_,_=>⟨[],rfl,trivial⟩
 |p::r,lo,k,hk,⟨h1,h2,h3⟩=>by
  obtain ⟨H,e1,e2⟩:=qCA (k:=p.2.toNat+1) (by lia) h3;refine⟨(p.1.toNat,p.2.toNat)::H,?_,by show k<=p.1.toNat;lia,by show p.1.toNat<p.2.toNat;lia,e2⟩;show p::r=(((p.1.toNat:Nat):Int),((p.2.toNat:Nat):Int))::spN H;rw[<- e1,show ((p.1.toNat:Nat):Int)=p.1 by lia,show ((p.2.toNat:Nat):Int)=p.2 by lia]
theorem qGj:∀ {H:List (Nat × Nat)} {k:Nat},bQ k H->p∈H->k<=p.1/\p.1<p.2
 |z::r,k,⟨h1,h2,h3⟩,hp=>by
  rcases List.mem_cons.mp hp with rfl | hp
  ·exact⟨h1,h2⟩
  ·have:=qGj h3 hp
   lia
theorem qOl(e:h'[i]?=h[i]?):qC h' i=qC h i:=by
 unfold qC;rw[e]
theorem qOm(e:qC h i=some xs):i<h.length:=by
 unfold qC at e;cases q:h[i]? with
 |none=>rw[q] at e;cases e
 |some o=>exact (List.getElem?_eq_some_iff.mp q).1
theorem nH(e:h[i]?=some (.ins c fs)):qC h i=none:=by unfold qC;rw[e]
theorem vY(e:h[i]?=some (.dct kvs)):qC h i=none:=by unfold qC;rw[e]
theorem zT(e:h[i]?=some (.lst xs)):qC h i=some xs:=by unfold qC;rw[e]
theorem qK{i:Nat}(g:AH)(e:h[i]?=some o):(h++g)[i]?=some o:=by
 rw[List.getElem?_append_left (List.getElem?_eq_some_iff.mp e).1];exact e
theorem zS{h:AH}(e:h[i]?=some o)(o':O):(h.set i o')[i]?=some o':=by
 rw[List.getElem?_set,if_pos rfl,if_pos (List.getElem?_eq_some_iff.mp e).1]
theorem qIO(g:AH)(e:h[i]?=some o)(o':O):(h++g).set i o'=h.set i o'++g:=List.set_append_left _ _ (List.getElem?_eq_some_iff.mp e).1
def hst(m b:Int)(q gd td:Nat)(sl:D):List (Nat × D):=
 [(vT,.int 9),(kR,.int m),(wM,.int b),(yH,.int 1),(uN,.ref q),(uO,.ref gd),(aL,.ref td),(dJ,sl)]
section
variable (m b:Int)(q gd td:Nat)(sl:D)
theorem qOb:qI kR (hst m b q gd td sl)=some (.int m):=rfl
theorem nF:qI wM (hst m b q gd td sl)=some (.int b):=rfl
theorem aO:qI uN (hst m b q gd td sl)=some (.ref q):=rfl
theorem vE:qI uO (hst m b q gd td sl)=some (.ref gd):=rfl
theorem qOZ:qI aL (hst m b q gd td sl)=some (.ref td):=rfl
theorem qOc:qI dJ (hst m b q gd td sl)=some sl:=rfl
theorem qEP:(hst m b q gd td sl).length=8:=rfl
theorem qOK(g:Nat):zI uO (.ref g) (hst m b q gd td sl)=hst m b q g td sl:=rfl
theorem qOI(g:Nat):zI aL (.ref g) (hst m b q gd td sl)=hst m b q gd g sl:=rfl
theorem qOJ(d:D):zI dJ d (hst m b q gd td sl)=hst m b q gd td d:=rfl
theorem uT:qI 444150998386 (hst m b q gd td sl)=none:=rfl
theorem nE:qI 513020621925 (hst m b q gd td sl)=none:=rfl
theorem qEN:qI 112603010003816 (hst m b q gd td sl)=none:=rfl
theorem qOO:qI 32497656997703027 (hst m b q gd td sl)=none:=rfl
theorem qON:qI 1953063787 (hst m b q gd td sl)=none:=rfl
theorem qOM:qI 583674933970360372264291001892499059 (hst m b q gd td sl)=none:=rfl
theorem qEL:qI 34780127400972871403634519652 (hst m b q gd td sl)=none:=rfl
theorem qOQ:qI 8100116882379468646 (hst m b q gd td sl)=none:=rfl
theorem qEM:qI 1751474546 (hst m b q gd td sl)=none:=rfl
theorem qOS:qI 7799763779075547922881686105459 (hst m b q gd td sl)=none:=rfl
theorem qEK:qI 8386102064528189806 (hst m b q gd td sl)=none:=rfl
theorem qOR:qI 117787394794711584694431077 (hst m b q gd td sl)=none:=rfl
theorem qOP:qI 495873782388 (hst m b q gd td sl)=none:=rfl
end
theorem tbh(k:Nat):tbN [(1215263604,k)] zC=some k:=rfl
theorem gQ(j k:Nat):tbN [(306712044914,j),(1215263604,k)] zC=some k:=rfl
theorem kZ(j k:Nat):tbN [(306712044914,j),(1215263604,k)] qF=some j:=rfl
theorem clh:([1215263604]:List Nat).contains zC=true:=by decide
def mtg(y:Int)(met:Bool):List (Nat × D):=[(qDi,.int 1),(mI,.int y),(mJ,.bl met)]
section
variable (y:Int)(met:Bool)
theorem aA:qI qDi (mtg y met)=some (.int 1):=rfl
theorem uF:qI mI (mtg y met)=some (.int y):=rfl
theorem qJB:qI mJ (mtg y met)=some (.bl met):=rfl
theorem lI:(mtg y met).length=3:=rfl
theorem qCh(v:Int):zI mI (.int v) (mtg y met)=mtg v met:=rfl
theorem lH(b:Bool):zI mJ (.bl b) (mtg y met)=mtg y b:=rfl
theorem qCi:qI 448377483876 (mtg y met)=none:=rfl
theorem qJA:qI 491328138361 (mtg y met)=none:=rfl
end
theorem tbq(k:Nat):tbN [(21785059625889383,k)] zQ=some k:=rfl
theorem clq:([21785059625889383]:List Nat).contains zQ=true:=by decide
theorem qQG(t:Tx)(s u:Nat):qO t (some (s:Int)) (some (u:Int)) <+: t.drop s/\(qO t (some (s:Int)) (some (u:Int))).length<=u-s:=by
 unfold qO qZ;simp only[if_neg (show ¬ (s:Int)<0 by lia),if_neg (show ¬ (u:Int)<0 by lia),Int.toNat_natCast]
 by_cases q:s<=t.length
 ·rw[Nat.min_eq_left q]
  exact⟨List.take_prefix ..,by rw[List.length_take];lia⟩
 ·rw[Nat.min_eq_right (show t.length<=s by lia),List.drop_length,List.take_nil]
  exact⟨List.nil_prefix,Nat.zero_le _⟩
theorem qE5:∀ (f a b:Nat),p∈jN m f a b->p.2<=b/\p.2<=p.1+m
 |0,a,b,h=>nomatch h
 |f+1,a,b,h=>by
  unfold jN at h;split at h
  ·rcases List.mem_cons.mp h with rfl | h
   ·exact⟨Nat.min_le_right ..,Nat.min_le_left ..⟩
   ·exact qE5 f (a+m) b h
  ·cases h
theorem qE7:∀ (f a b:Nat),p∈jN m f a b->p.1<b
 |0,a,b,h=>nomatch h
 |f+1,a,b,h=>by
  unfold jN at h;split at h
  ·rcases List.mem_cons.mp h with rfl | h
   ·assumption
   ·exact qE7 f (a+m) b h
  ·cases h
theorem qE6(hm:1<=m):∀ (f a b:Nat),(jN m f a b).length<=b-a
 |0,a,b=>Nat.zero_le _
 |f+1,a,b=>by
  unfold jN;split
  ·have:=qE6 hm f (a+m) b
   rw[List.length_cons]
   lia
  ·exact Nat.zero_le _
theorem qCo(hm:1<=m):∀ (H:List (Nat × Nat)) (k:Nat),bQ k H->(∀ p∈H,p.2<=s)->(jQ m f H).length<=s-k
 | [],k,_,_=>Nat.zero_le _
 |p::r,k,⟨h1,h2,h3⟩,hs=>by
  have ih:=qCo (f:=f) hm r (p.2+1) h3 fun z hz=>hs z (List.mem_cons_of_mem _ hz);have hp:=hs p (List.mem_cons_self ..);have hc:=qE6 hm f p.1 p.2;unfold jQ at ih ⊢;rw[List.flatMap_cons,List.length_append]
  lia
theorem nD(e:Int):∀ (pl:Int) (l:SP) (p:Int × Int),p∈jB e pl l->p.2<=e
 |pl,[],p,h=>by
  unfold jB at h;split at h
  ·rw[List.mem_singleton.mp h];exact Int.le_refl _
  ·cases h
 |pl,q::r,p,h=>by
  unfold jB at h;split at h
  ·split at h
   ·rw[List.mem_singleton.mp h];exact Int.le_refl _
   ·cases h
  ·split at h
   ·rcases List.mem_cons.mp h with rfl | h
    ·show q.1<=e;lia
    ·exact nD e _ r p h
   ·exact nD e _ r p h
structure GS where
 t:Tx
 s:Nat
 c:Nat
 l:Nat
 q:SP
 e:Bool
 es:Bool
 ih:Bool
 dn:Bool
def GS.fs(g:GS)(m:Nat):List (Nat × D):=giv m g.t g.s g.c g.l (spL g.q) g.e g.es g.ih g.dn
structure WG (N:Nat) (g:GS):Prop where
 tl:g.t.length<=2000
 tk:g.t.all okC=true
 sl:g.s<=g.l
 sw:g.s<=g.t.length
 ll:g.l<=3000
 cl:g.c<=2001
 gq:GoodR (-1) g.q
 ql:g.q.length<=3*N
 ee:g.es=true->g.e=true
def Hn(g:GS):List (Nat × Nat):=(jB ((max g.c g.s:Nat):Int) g.c (zG g.c g.q)).map fun p=>(p.1.toNat,p.2.toNat)
def agP(m:Nat)(g:GS):List D:=(agn g.t g.s g.es g.dn g.ih ((jQ m (g.s+1) (Hn g)).map (dP g.t))).take 1
def nx(m:Nat)(g:GS):List D × Nat × Bool:=run g.t m g.l 1 g.s (g.e&&!g.es)
def bh(m:Nat)(g:GS):GS:={ g with s:=(nx m g).2.1,es:=g.es || (nx m g).2.2 }
def prt(m:Nat)(g:GS):List D:=match (nx m g).1 with
 | []=>agP m (bh m g)
 |x::r=>x::r
def PD(d:D):Prop:=(∃ (a:Nat) (y:Tx),d=.tup [.str [100,97,116,97],.int a,.str y]/\a<=3000/\y.all okC=true/\y.length<=40)\/∃ a:Nat,d=kF a/\a<=3000
theorem qEs(ht:t.all okC=true)(s u:Nat)(hs:s<=3000)(hu:u<=s+40):PD (jK t s u):=by
 obtain ⟨h3,h4⟩:=qQG t s u;refine .inl ⟨s,_,rfl,hs,?_,by lia⟩;rw[List.all_eq_true] at ht ⊢;exact fun x hx=>ht x (List.mem_of_mem_drop (h3.subset hx))
section
variable {B n N m:Nat}{g:GS}{h:AH}{i:Nat}
theorem qC1(m:Nat)(g:GS):(g.s<zA g.t m g.l g.s/\nx m g=([jK g.t g.s (zA g.t m g.l g.s)],zA g.t m g.l g.s,false))\/(g.e=true/\g.es=false/\g.s=g.t.length/\nx m g=([kF g.s],g.s,true))\/nx m g=([],g.s,false):=by
 unfold nx run
 by_cases q:g.s<zA g.t m g.l g.s
 ·rw[if_pos q];exact .inl ⟨q,rfl⟩
 ·rw[if_neg q]
  by_cases q2:((g.e&&!g.es)&&decide (g.s=g.t.length))=true
  ·rw[if_pos q2];obtain ⟨q3,q4⟩:=Bool.and_eq_true_iff.mp q2;obtain ⟨q5,q6⟩:=Bool.and_eq_true_iff.mp q3;exact .inr (.inl ⟨q5,by simpa using q6,of_decide_eq_true q4,rfl⟩)
  ·rw[if_neg q2];exact .inr (.inr rfl)
theorem WG.bh(w:WG N g)(m:Nat):WG N (bh m g):=by
 have u1:zA g.t m g.l g.s<=g.l/\zA g.t m g.l g.s<=g.t.length:=by unfold zA;lia
 rcases qC1 m g with⟨_,q⟩ | ⟨q1,q2,_,q⟩ | q
 ·exact⟨w.tl,w.tk,by show (nx m g).2.1<=_;rw[q];exact u1.1,by show (nx m g).2.1<=_;rw[q];exact u1.2,w.ll,w.cl,w.gq,w.ql,fun z=>by
   have z:(g.es || (nx m g).2.2)=true:=z;rw[q,Bool.or_false] at z
   exact w.ee z⟩
 ·exact⟨w.tl,w.tk,by show (nx m g).2.1<=_;rw[q];exact w.sl,by show (nx m g).2.1<=_;rw[q];exact w.sw,w.ll,w.cl,w.gq,w.ql,fun _=>q1⟩
 ·exact⟨w.tl,w.tk,by show (nx m g).2.1<=_;rw[q];exact w.sl,by show (nx m g).2.1<=_;rw[q];exact w.sw,w.ll,w.cl,w.gq,w.ql,fun z=>by
   have z:(g.es || (nx m g).2.2)=true:=z;rw[q,Bool.or_false] at z
   exact w.ee z⟩
theorem qGi(w:WG N g):jB ((max g.c g.s:Nat):Int) g.c (zG g.c g.q)=spN (Hn g)/\bQ g.c (Hn g)/\∀ p∈Hn g,p.1<p.2/\g.c<=p.1/\p.2<=g.s:=by
 have h1:=(sK (g.c:Int) w.gq).1;obtain ⟨H,e1,e2⟩:=qCA (k:=g.c) (by lia) (qEJ ((max g.c g.s:Nat):Int) h1)
 have eH:Hn g=H:=by
  unfold Hn;rw[e1];unfold spN;rw[List.map_map];exact (List.map_congr_left fun p _=>by simp).trans (List.map_id _)
 rw[eH];refine⟨e1,e2,fun p hp=>?_⟩
 have:=qGj e2 hp
 have z:=nD ((max g.c g.s:Nat):Int) g.c (zG g.c g.q) ((p.1:Int),(p.2:Int)) (by rw[e1];exact List.mem_map.mpr ⟨p,hp,rfl⟩);have z:(p.2:Int)<=((max g.c g.s:Nat):Int):=z
 lia
theorem qUE(w:WG N g)(hm:1<=m)(hm2:m<=40):(∀ d∈agP m g,PD d)/\(agP m g).length<=1:=by
 obtain ⟨_,_,hp⟩:=qGi w;have sw:=w.sw;have tl:=w.tl;refine⟨fun d hd=>?_,by unfold agP;rw[List.length_take];lia⟩;have hd:=List.mem_of_mem_take hd;unfold agn at hd;split at hd
 ·obtain ⟨p,hp1,rfl⟩:=List.mem_map.mp hd;unfold jQ at hp1;obtain ⟨z,hz1,hz2⟩:=List.mem_flatMap.mp hp1;have c1:=qE5 _ _ _ hz2;have c2:=hp z hz1;have c3:=qE7 _ _ _ hz2;exact qEs w.tk _ _ (by lia) (by lia)
 ·split at hd
  ·rw[List.mem_singleton.mp hd];exact .inr ⟨_,rfl,by lia⟩
  ·split at hd
   ·rw[List.mem_singleton.mp hd,qEr];exact .inl ⟨g.s,[],rfl,by lia,rfl,by simp⟩
   ·cases hd
theorem cG(w:WG N g)(hm:1<=m)(hm2:m<=40):(∀ d∈prt m g,PD d)/\(prt m g).length<=1:=by
 have sw:=w.sw;have tl:=w.tl;have u1:zA g.t m g.l g.s<=g.s+m:=by unfold zA;lia
 unfold prt;rcases qC1 m g with⟨_,q⟩ | ⟨_,_,_,q⟩ | q
 ·rw[q]
  exact⟨fun d hd=>by rw[List.mem_singleton.mp hd];exact qEs w.tk _ _ (by lia) (by lia),by simp⟩
 ·rw[q]
  exact⟨fun d hd=>by rw[List.mem_singleton.mp hd];exact .inr ⟨_,rfl,by lia⟩,by simp⟩
 ·rw[q];exact qUE (w.bh m) hm hm2
theorem qEX(w:WG N g)(hB:2<=B)(hi:h[i]?=some (.ins qF (g.fs m))):qA fns B (n+2) qEC [.ref i,.int 1] h=.ok (.ref h.length) (h.set i (.ins qF ((bh m g).fs m))++[.lst (nx m g).1]):=
 qL3 B n w.tl 1 (by lia) (by lia) hi
theorem qEa(w:WG N g)(hN:N<=60)(hB:1000<=B)(hm:1<=m)(hm2:m<=40)(hi:h[i]?=some (.ins qF (g.fs m))):∃ k,qA fns B (n+6) qEE [.ref i,.int 1] h=.ok (.ref (h++k).length) (h++k++[.lst (agP m g)]):=by
 obtain ⟨e1,e2,hp⟩:=qGi w;have sw:=w.sw;have tl:=w.tl;have ql:=w.ql
 have hl:(jQ m (g.s+1) (Hn g)).length<=2000:=by
  have:=qCo (f:=g.s+1) hm (Hn g) g.c e2 fun p z=>(hp p z).2.2
  lia
 exact qMR B n hm (by lia) hi (by lia) w.gq (by lia) (by lia) (Hn g) e1 (g.s+1) (fun p z=>by have:=hp p z;lia) hl 1
end
def Fr(a:Nat)(h h':AH):Prop:=h.length<=h'.length/\∀ i,i<h.length->i≠a->h'[i]?=h[i]?
theorem Fr.app(a:Nat)(h g:AH):Fr a h (h++g):=⟨by simp,fun i hi _=>List.getElem?_append_left hi⟩
theorem Fr.set(a:Nat)(h:AH)(o:O):Fr a h (h.set a o):=⟨by simp,fun i _ hn=>List.getElem?_set_ne (Ne.symm hn)⟩
theorem Fr.trans(x:Fr a h h')(y:Fr a h' h''):Fr a h h'':=⟨Nat.le_trans x.1 y.1,fun i hi hn=>by rw[y.2 i (Nat.lt_of_lt_of_le hi x.1) hn,x.2 i hi hn]⟩
theorem Fr.get(x:Fr a h h')(e:h[i]?=some o)(hn:i≠a):h'[i]?=some o:=by
 rw[x.2 i (List.getElem?_eq_some_iff.mp e).1 hn];exact e
section
variable (g:GS)(m:Nat)
theorem aQ:qI 521332113934423763874931 (g.fs m)=none:=rfl
theorem nL:qI 418346264942 (g.fs m)=none:=rfl
theorem uY:qI 513020621925 (g.fs m)=none:=rfl
theorem eK:qI 112603010003816 (g.fs m)=none:=rfl
theorem qEg:qI 7020675825757480292 (g.fs m)=none:=rfl
theorem aR:qI dO (g.fs m)=some (.bl g.dn):=rfl
theorem eL:qI dN (g.fs m)=some (.bl g.e):=rfl
theorem eJ:qI dH (g.fs m)=some (.str g.t):=rfl
theorem uZ:qI dL (g.fs m)=some (.int g.s):=rfl
theorem qO0:qI dQ (g.fs m)=some (.int g.c):=rfl
theorem qOz:qI dM (g.fs m)=some (.int g.l):=rfl
theorem qOy:qI dI (g.fs m)=some (.tup (spL g.q)):=rfl
end
theorem tbg(k:Nat):tbN [(306712044914,k)] qF=some k:=rfl
theorem er(H:AH)(i j:Nat):kW H (.ref i) (.ref j)=(match qC H i,qC H j with | some xs,some ys=>eqW (eqD H 39) xs ys | _,_=>none):=rfl
section
variable {B n N m:Nat}{g:GS}{h:AH}{i:Nat}
theorem set_len'(h:AH)(i:Nat)(o:O):(h.set i o).length=h.length:=by simp
theorem qL5(w:WG N g)(hN:N<=60)(hB:1000<=B)(hm:1<=m)(hm2:m<=40)(hi:h[i]?=some (.ins qF (g.fs m))) :
  ∃ h' r,qA fns B (n+7) qNX [.ref i] h=.ok (.ref r) h'/\h'[r]?=some (.lst (prt m g))/\h'[i]?=some (.ins qF ((bh m g).fs m))/\Fr i h h'/\h.length<=r:=by
 rw[qQ0];have e1:=qEX (B:=B) (n:=n+4) w (by lia) hi;have hs:=zS hi (.ins qF ((bh m g).fs m));have ln:=set_len' h i (.ins qF ((bh m g).fs m));have fr:Fr i h (h.set i (.ins qF ((bh m g).fs m))):=Fr.set _ _ _;generalize h.set i (.ins qF ((bh m g).fs m))=H at *;have a0:∀ X k,qC (H++[.lst X]++k) h.length=some X:=fun X k=>by rw[List.append_assoc,<- ln,qY];rfl
 have a1:∀ X,(H++[O.lst X])[h.length]?=some (.lst X):=fun X=>by rw[<- ln,qW];rfl
 unfold prt;cases q:(nx m g).1 with
 |nil=>
  rw[q] at e1;obtain ⟨k,e2⟩:=qEa (n:=n) (w.bh m) hN hB hm hm2 (qK [.lst []] (qK [.lst []] hs));refine⟨H++[.lst []]++[.lst []]++k++[.lst (agP m (bh m g))],(H++[O.lst []]++[O.lst []]++k).length,?_,qW _ _,qK _ (qK _ (qK _ (qK _ hs))),fr.trans ((Fr.app _ _ _).trans ((Fr.app _ _ _).trans ((Fr.app _ _ _).trans (Fr.app _ _ _)))),?_⟩
  ·simp! only [fI,qFf,tQ, *,hi,aQ,tbg,e1,if_pos (show 0<=16777216 by lia),er,a0,qY,zV,eqW,qK [.lst []] (qK [.lst []] hs),nL,e2]
  ·simp only[List.length_append,ln];lia
 |cons x r=>rw[q] at e1;refine⟨H++[.lst (x::r)]++[.lst []],h.length,?_,qK [.lst []] (a1 (x::r)),qK _ (qK _ hs),fr.trans ((Fr.app _ _ _).trans (Fr.app _ _ _)),Nat.le_refl _⟩;simp! only [fI,tQ, *,hi,aQ,tbg,e1,if_pos (show 0<=16777216 by lia),er,a0,qY,zV,eqW]
theorem qLv(w:WG N g)(hN:N<=60)(hB:1000<=B)(hm:1<=m)(hm2:m<=40)(hp:h[p]?=some (.ins zC (hst m b q gd td sl)))(hg:h[gd]?=some (.dct kvs))(hv:zD kvs (.int k)=some (.ref i))(hi:h[i]?=some (.ins qF (g.fs m))) :
  ∃ h',qA fns B (n+7) nB [.ref p,.int k] h=.ok ((prt m g).headD .non) h'/\h'[i]?=some (.ins qF ((bh m g).fs m))/\Fr i h h':=by
 rw[qRc];have gn:=vY hg;have gi:ixK gd (.int k) h=.ok (.ref i) h:=by unfold ixK;rw[hg];simp only[hv]
 have e1:=qEX (B:=B) (n:=n+4) w (by lia) hi;have hs:=zS hi (.ins qF ((bh m g).fs m));have ln:=set_len' h i (.ins qF ((bh m g).fs m));have fr:Fr i h (h.set i (.ins qF ((bh m g).fs m))):=Fr.set _ _ _;have po:=cG w hm hm2;generalize h.set i (.ins qF ((bh m g).fs m))=H at *;have a0:∀ X,qC (H++[.lst X]) h.length=some X:=fun X=>by rw[<- ln,qY];rfl
 have z0:(((0:Nat):Int) == 0)=true:=rfl;have z1:decide ((0:Int)<((0:Nat):Int))=false:=rfl;have z2:decide ((0:Int)<((1:Nat):Int))=true:=rfl;have z3:(((1:Nat):Int) == 0)=false:=rfl;have i1:∀ d:D,((ixN 1 0).bind fun j=>[d][j]?)=some d:=fun _=>rfl;unfold prt at po ⊢;cases q:(nx m g).1 with
 |nil=>
  rw[q] at e1 po;obtain ⟨k,e2⟩:=qEa (n:=n) (w.bh m) hN hB hm hm2 (qK [.lst []] hs);have po:(agP m (bh m g)).length<=1:=po.2;refine⟨H++[.lst []]++k++[.lst (agP m (bh m g))],?_,qK _ (qK _ (qK _ hs)),fr.trans ((Fr.app _ _ _).trans ((Fr.app _ _ _).trans (Fr.app _ _ _)))⟩;cases q2:agP m (bh m g) with
  |nil=>rw[q2] at e2;simp! only [bL,qA7,hU, *,hp,vE,gn,gi,Option.bind_none,hi,aQ,tbg,e1,a0,List.length_nil,z0,qK [.lst []] hs,nL,e2,qY,zV,z1];rfl
  |cons x r=>
   cases r with
   |cons y r=>rw[q2] at po;simp at po
   |nil=>rw[q2] at e2;simp! only [bL,qA7,hU, *,hp,vE,gn,gi,Option.bind_none,hi,aQ,tbg,e1,a0,List.length_nil,z0,qK [.lst []] hs,nL,e2,qY,zV,List.length_cons,z2,Option.bind_some,i1];rfl
 |cons x r=>
  cases r with
  |cons y r=>rw[q] at po;have:=po.2;simp at this
  |nil=>rw[q] at e1;refine⟨H++[.lst [x]],?_,qK _ hs,fr.trans (Fr.app _ _ _)⟩;simp! only [bL,hU, *,hp,vE,gn,gi,Option.bind_none,hi,aQ,tbg,e1,a0,List.length_cons,List.length_nil,z3,z2,Option.bind_some,i1];rfl
end
theorem qDI(f:D->M (Option D))(r:D->Option D)(i:Nat)(xs:List D)(h:AH)(hg:qC h i=some xs)(H:∀ x∈xs,f x h=.ok (r x) h):∀ (n k:Nat),n+k=xs.length+1->k<=xs.length->zR f i n k h=.ok ((xs.drop k).filterMap r) h
 |0,k,hn,hk=>by lia
 |n+1,k,hn,hkl=>by
  unfold zR;rw[hg];simp only
  by_cases hk:k<xs.length
  ·have e:xs[k]?=some xs[k]:=by simp[hk]
   rw[e];simp only[M.bind_eq,H _ (List.getElem_mem hk),R.bind_ok,qDI f r i xs h hg H n (k+1) (by lia) hk,M.ret_eq];rw[List.drop_eq_getElem_cons hk];cases q:r xs[k] with
   |none=>rw[List.filterMap_cons_none q]
   |some y=>rw[List.filterMap_cons_some q]
  ·have e:xs[k]?=none:=by simp;lia
   rw[e,List.drop_eq_nil_of_le (by lia)];rfl
theorem lY(f:D->M (Option D))(r:D->Option D)(i:Nat)(xs:List D)(h:AH)(hg:qC h i=some xs)(hl:xs.length<=1000000)(H:∀ x∈xs,f x h=.ok (r x) h):uH f (.live i) h=.ok (xs.filterMap r) h:=by
 have e:zN h i=xs.length+1:=by unfold zN;rw[hg];rfl
 rw[dB,e,if_pos (by lia),qDI f r i xs h hg H _ 0 rfl (Nat.zero_le _),List.drop_zero]
def iD(xs:List Nat):List D:=xs.map fun k:Nat=>.int (k:Int)
theorem vD(xs:List Nat):(iD xs).length=xs.length:=by unfold iD;simp
theorem qNL(xs:List Nat):jC (iD xs)=some (xs.map fun k:Nat=>(k:Int)):=by
 unfold iD
 induction xs with
 |nil=>rfl
 |cons x xs ih=>simp only[List.map_cons,jC,ih,Option.map_some]
theorem qEG(r:D->Option D)(p:Nat->Bool)(H:∀ k:Nat,r (.int k)=if p k=true then some (.int k) else none)(xs:List Nat):(iD xs).filterMap r=iD (xs.filter p):=by
 unfold iD
 induction xs with
 |nil=>rfl
 |cons x xs ih=>
  rw[List.map_cons];cases q:p x with
  |false=>rw[List.filterMap_cons_none (by rw[H,q];rfl),ih,List.filter_cons_of_neg (by rw[q];simp)]
  |true=>rw[List.filterMap_cons_some (show r (.int x)=some (.int x) by rw[H,q];rfl),ih,List.filter_cons_of_pos q,List.map_cons]
def zH(xs:List Nat):Option Nat->List Nat
 |none=>xs
 |some l=>xs.filter (fun k=>decide (l<k))++xs.filter (fun k=>decide (k<=l))
def jJ:Option Nat->D
 |none=>.non
 |some l=>.int (l:Int)
theorem qMA(B n:Nat)(h:AH)(i:Nat)(xs:List Nat)(la:Option Nat)(hl:xs.length<=1000)(hi:h[i]?=some (.lst (iD xs))) :
  ∃ (g:AH) (k:Nat),qA fns B (n+1) qNm [.ref i,jJ la] h=.ok (.ref (h.length+k)) (h++g)/\(h++g)[h.length+k]?=some (.lst (iD (zH xs la))):=by
 rw[qRI];have hg:qC h i=some (iD xs):=by unfold qC;rw[hi]
 cases la with
 |none=>
  simp! only [fO, *,jJ,hg,vD,show xs.length<=16777216 by lia]
  exact⟨_,0,rfl,by rw[wO];rfl⟩
 |some l=>
  have hgt:∀ k:Nat,decide ((l:Int)<(k:Int))=decide (l<k):=fun k=>yK _ _;have hle:∀ k:Nat,decide ((k:Int)<=(l:Int))=decide (k<=l):=fun k=>wN _ _
  have m1:=lY (jG (den (qA fns B n) qAb) (qM (qA fns B n) qAa) [some (.ref i),some (.int l),none]) (fun d=>match d with | .int v=>if decide ((l:Int)<v)=true then some (.int v) else none | _=>none) i (iD xs) h hg (by rw[vD];lia) (fun x hx=>by
   unfold iD at hx;obtain ⟨k,_,rfl⟩:=List.mem_map.mp hx;unfold jG;simp! only [qAb,qAa, *,and_self]
   by_cases c:(l:Int)<(k:Int)
   ·simp! only [c]
   ·simp! only [c])
  rw[qEG _ (fun k=>decide (l<k)) (fun k=>by simp only[hgt])] at m1;have hg2:=eC [O.lst (iD (xs.filter fun k=>decide (l<k)))] hg
  have m2:=lY (jG (den (qA fns B n) qAZ) (qM (qA fns B n) qAY) [some (.ref i),some (.int l),some (.ref h.length)]) (fun d=>match d with | .int v=>if decide (v<=(l:Int))=true then some (.int v) else none | _=>none) i (iD xs) (h++[O.lst (iD (xs.filter fun k=>decide (l<k)))]) hg2 (by rw[vD];lia) (fun x hx=>by
   unfold iD at hx;obtain ⟨k,_,rfl⟩:=List.mem_map.mp hx;unfold jG;simp! only [qAZ,qAY, *,and_self]
   by_cases c:(k:Int)<=(l:Int)
   ·simp! only [c]
   ·simp! only [c])
  rw[qEG _ (fun k=>decide (k<=l)) (fun k=>by simp only[hle])] at m2;rw[dB] at m1 m2;have l1:(xs.filter fun k=>decide (l<k)).length<=xs.length:=List.length_filter_le _ _;have l2:(xs.filter fun k=>decide (k<=l)).length<=xs.length:=List.length_filter_le _ _;simp! only [fO,qFx, *,jJ,hg,m1,vD,if_pos (show (xs.filter fun k=>decide (l<k)).length<=16777216 by lia),hg2,m2,if_pos (show (xs.filter fun k=>decide (k<=l)).length<=16777216 by lia),List.append_assoc,List.length_append,wO,qW,if_pos (show (xs.filter fun k=>decide (l<k)).length+(xs.filter fun k=>decide (k<=l)).length<=16777216 by lia)];refine⟨_,2,rfl,?_⟩;simp only[wO,List.getElem?_cons_succ,List.getElem?_cons_zero];unfold zH iD;rw[List.map_append]
def Fs(S:List Nat)(h h':AH):Prop:=h.length<=h'.length/\∀ i,i<h.length->i∉S->h'[i]?=h[i]?
theorem Fs.app(S:List Nat)(h g:AH):Fs S h (h++g):=⟨by simp,fun i hi _=>List.getElem?_append_left hi⟩
theorem Fs.set(h:AH)(o:O)(ha:a∈S):Fs S h (h.set a o):=⟨by simp,fun i _ hn=>List.getElem?_set_ne (fun z=>hn (by rw[<- z];exact ha))⟩
theorem Fs.trans(x:Fs S h h')(y:Fs S h' h''):Fs S h h'':=⟨Nat.le_trans x.1 y.1,fun i hi hn=>by rw[y.2 i (Nat.lt_of_lt_of_le hi x.1) hn,x.2 i hi hn]⟩
theorem Fs.get(x:Fs S h h')(e:h[i]?=some o)(hn:i∉S):h'[i]?=some o:=by
 rw[x.2 i (List.getElem?_eq_some_iff.mp e).1 hn];exact e
theorem Fs.mono(x:Fs S h h')(hs:∀ i∈S,i∈T):Fs T h h':=⟨x.1,fun i hi hn=>x.2 i hi fun z=>hn (hs i z)⟩
theorem Fr.fs(x:Fr a h h')(ha:a∈S):Fs S h h':=⟨x.1,fun i hi hn=>x.2 i hi fun z=>hn (by rw[z];exact ha)⟩
theorem Fs.new(a:Fs S h h0)(f:Fs (t::S) h0 h')(ht:h.length<=t):Fs S h h':=⟨Nat.le_trans a.1 f.1,fun i hi hn=>by
 rw[f.2 i (Nat.lt_of_lt_of_le hi a.1) (fun z=>by rcases List.mem_cons.mp z with z | z;lia;exact hn z),a.2 i hi hn]⟩
theorem qEF(n:Nat):kC 0 n=iD (List.range n):=by
 unfold kC iD;congr 1;funext k;rw[Int.zero_add]
theorem qDE(f:D->M (Option D)):∀ (xs:List D) (h:AH),(∀ x∈xs,f x h=.ok (some x) h)->zL f xs h=.ok xs h
 | [],h,_=>rfl
 |x::xs,h,H=>by
  unfold zL;simp! only [H x (List.mem_cons_self ..),qDE f xs h fun y hy=>H y (List.mem_cons_of_mem _ hy)]
theorem qGu(e:x.1=k):zD (x::r) k=some x.2:=by
 unfold zD;rw[List.find?_cons_of_pos (by simpa using e)];rfl
theorem qGv(e:¬ x.1=k):zD (x::r) k=zD r k:=by
 unfold zD;rw[List.find?_cons_of_neg (by simpa using e)]
def kvA:Nat->List Nat->List (Ky × D)
 |_,[]=>[]
 |k,a::r=>(.int k,.ref a)::kvA (k+1) r
theorem dG:∀ (as:List Nat) (k:Nat),(kvA k as).length=as.length
 | [],_=>rfl
 |a::r,k=>by rw[kvA,List.length_cons,List.length_cons,dG r]
theorem qDf:∀ (as:List Nat) (k:Nat),jU (kvA k as)=iD ((List.range as.length).map (k+·))
 | [],_=>rfl
 |a::r,k=>by
  have ih:=qDf r (k+1);unfold jU iD at ih ⊢;rw[kvA,List.map_cons,ih,List.length_cons,List.range_succ_eq_map,List.map_cons,List.map_cons,List.map_map];congr 1;rw[List.map_map,List.map_map];congr 1;funext j;show D.int ((k+1+j:Nat):Int)=D.int ((k+(j+1):Nat):Int);rw[show k+1+j=k+(j+1) by lia]
theorem qMh(as:List Nat):jU (kvA 0 as)=iD (List.range as.length):=by
 rw[qDf];congr 1;rw[show (fun x=>0+x)=(fun x:Nat=>x) from funext fun x=>Nat.zero_add x,List.map_id']
theorem mF:∀ (as:List Nat) (k j:Nat),zD (kvA k as) (.int ((k+j:Nat):Int))=(as[j]?).map .ref
 | [],_,_=>rfl
 |a::r,k,0=>qGu (x:=(.int k,.ref a)) rfl
 |a::r,k,j+1=>by
  have ih:=mF r (k+1) j;rw[show k+1+j=k+(j+1) by lia] at ih;rw[kvA,List.getElem?_cons_succ,<- ih]
  exact qGv (x:=(.int k,.ref a)) fun z=>by
   injection z with z;have z:(k:Int)=((k+(j+1):Nat):Int):=z
   lia
theorem uM{k:Nat}(h:as[k]?=some a):zD (kvA 0 as) (.int (k:Int))=some (.ref a):=by
 have:=mF as 0 k
 rw[Nat.zero_add,h] at this;exact this
theorem qDg(a:Nat):∀ (as:List Nat) (k:Nat),kvA k (as++[a])=kvA k as++[(.int ((k+as.length:Nat):Int),.ref a)]
 | [],k=>rfl
 |x::r,k=>by
  rw[List.cons_append,kvA,kvA,qDg a r,List.cons_append,List.length_cons,show k+1+r.length=k+(r.length+1) by lia]
theorem qMg(as:List Nat)(a:Nat):kI (kvA 0 as) (.int (as.length:Int)) (.ref a)=kvA 0 (as++[a]):=by
 have e:zD (kvA 0 as) (.int (as.length:Int))=none:=by
  have:=mF as 0 as.length
  rw[Nat.zero_add] at this;rw[this];simp
 have e2:¬ ((kvA 0 as).any fun kv=>decide (kv.1=.int (as.length:Int)))=true:=by
  unfold zD at e;rw[Option.map_eq_none_iff,List.find?_eq_none] at e;rw[List.any_eq_true]
  rintro ⟨x,hx,hx2⟩
  exact e x hx hx2
 unfold kI;rw[if_neg e2,qDg,Nat.zero_add]
structure Ho (p q gd td:Nat) (m:Nat) (b:Int) (h:AH) (sl:D) (as:List Nat) (gs:List GS):Prop where
 hp:h[p]?=some (.ins zC (hst m b q gd td sl))
 hq:h[q]?=some (.ins zQ (mtg 3 true))
 hg:h[gd]?=some (.dct (kvA 0 as))
 la:as.length=gs.length
 lz:as.length<=50
 gv:∀ (k a:Nat) (g:GS),as[k]?=some a->gs[k]?=some g->h[a]?=some (.ins qF (g.fs m))
 nd:∀ (i j a:Nat),as[i]?=some a->as[j]?=some a->i=j
section
variable {p q gd td m:Nat}{b:Int}{h h':AH}{sl:D}{as:List Nat}{gs:List GS}
theorem Ho.get(H:Ho p q gd td m b h sl as gs)(hk:k<as.length):∃ a g,as[k]?=some a/\gs[k]?=some g/\h[a]?=some (.ins qF (g.fs m)):=by
 have ha:as[k]?=some as[k]:=by simp[hk]
 have hr:gs[k]?=some (gs[k]'(by rw[<- H.la];exact hk)):=by simp[<- H.la,hk]
 exact⟨_,_,ha,hr,H.gv k _ _ ha hr⟩
theorem Ho.at(H:Ho p q gd td m b h sl as gs)(ha:a∈as):∃ fs,h[a]?=some (.ins qF fs):=by
 obtain ⟨k,hk,e⟩:=List.mem_iff_getElem.mp ha;obtain ⟨a',g,h1,_,h3⟩:=H.get hk;rw[List.getElem?_eq_getElem hk,e] at h1;cases h1
 exact⟨_,h3⟩
theorem Ho.not(H:Ho p q gd td m b h sl as gs)(e:h[i]?=some o)(ne:∀ fs,o≠.ins qF fs):i∉as:=fun z=>by
 obtain ⟨fs,e2⟩:=H.at z;rw[e] at e2;cases e2;exact ne _ rfl
theorem Ho.kept(H:Ho p q gd td m b h sl as gs)(k:∀ i o,h[i]?=some o->qC h i=none->(i=p\/i=q\/i=gd\/i∈as)->h'[i]?=some o):Ho p q gd td m b h' sl as gs:=
 ⟨k _ _ H.hp (nH H.hp) (.inl rfl),k _ _ H.hq (nH H.hq) (.inr (.inl rfl)),k _ _ H.hg (vY H.hg) (.inr (.inr (.inl rfl))),H.la,H.lz,fun i a g h1 h2=>by
  have h3:=H.gv i a g h1 h2
  exact k _ _ h3 (nH h3) (.inr (.inr (.inr (List.mem_of_getElem? h1)))),H.nd⟩
theorem Ho.app(H:Ho p q gd td m b h sl as gs)(g:AH):Ho p q gd td m b (h++g) sl as gs:=H.kept fun _ _ e _ _=>qK g e
theorem Ho.lset(H:Ho p q gd td m b h sl as gs)(o:O)(e:qC h i=some xs):Ho p q gd td m b (h.set i o) sl as gs:=H.kept fun j o' e' n _=>by
 rw[List.getElem?_set_ne (fun z=>by subst z;rw[e] at n;cases n)];exact e'
theorem Ho.giv(H:Ho p q gd td m b h sl as gs)(ha:as[k]?=some a)(hk:k<gs.length)(f:Fr a h h')(hg:h'[a]?=some (.ins qF (g.fs m))):Ho p q gd td m b h' sl as (gs.set k g):=by
 have ma:=List.mem_of_getElem? ha;have np:∀ i o,h[i]?=some o->(∀ fs,o≠O.ins qF fs)->h'[i]?=some o:=fun i o e ne=>f.get e fun z=>H.not e ne (by rw[z];exact ma);refine⟨np _ _ H.hp (fun fs z=>by injection z with z1 z2;exact absurd z1 (by decide)),np _ _ H.hq (fun fs z=>by injection z with z1 z2;exact absurd z1 (by decide)),np _ _ H.hg (fun fs z=>by cases z),by rw[List.length_set];exact H.la,H.lz,fun i a' g' h1 h2=>?_,H.nd⟩
 by_cases q:i=k
 ·subst q;rw[ha] at h1;cases h1;rw[List.getElem?_set,if_pos rfl,if_pos hk] at h2;cases h2;exact hg
 ·rw[List.getElem?_set_ne (Ne.symm q)] at h2;exact f.get (H.gv i a' g' h1 h2) fun z=>by subst z;exact q (H.nd i k a' h1 ha)
theorem Ho.last(H:Ho p q gd td m b h sl as gs)(sl':D):Ho p q gd td m b (h.set p (.ins zC (hst m b q gd td sl'))) sl' as gs:=by
 have np:∀ i o,h[i]?=some o->(∀ fs,o≠O.ins zC fs)->(h.set p (.ins zC (hst m b q gd td sl')))[i]?=some o:=fun i o e ne=>by
  rw[List.getElem?_set_ne (fun z=>by subst z;rw[H.hp] at e;cases e;exact ne _ rfl)];exact e
 exact⟨zS H.hp _,np _ _ H.hq (fun fs z=>by injection z with z1 z2;exact absurd z1 (by decide)),np _ _ H.hg (fun fs z=>by cases z),H.la,H.lz,fun i a g h1 h2=>np _ _ (H.gv i a g h1 h2) (fun fs z=>by injection z with z1 z2;exact absurd z1 (by decide)),H.nd⟩
theorem qID:∀ n,n<=50->vB ((List.range n).map fun k:Nat=>(k:Int))=(List.range n).map fun k:Nat=>(k:Int):=by decide +kernel
theorem qLm(B n:Nat)(H:Ho p q gd td m b h sl as gs):qA fns B (n+2) qN1 [.ref p] h=.ok (.ref (h.length+1)) (h++[.lst (iD (List.range as.length)),.lst (iD (List.range as.length))]):=by
 rw[qRY];have lz:=H.lz;have hs:=zS H.hg (.rod (kvA 0 as))
 have e1:zL (jG (den (qA fns B n) sV) (qM (qA fns B n) sU) [some (.ref gd)]) (iD (List.range as.length)) (h.set gd (.rod (kvA 0 as)))=.ok (iD (List.range as.length)) (h.set gd (.rod (kvA 0 as))):=by
  refine qDE _ _ _ fun x hx=>?_;unfold iD at hx;obtain ⟨k,hk,rfl⟩:=List.mem_map.mp hx;obtain ⟨a,_,ha,_,_⟩:=H.get (List.mem_range.mp hk);have gn:qC (h.set gd (.rod (kvA 0 as))) gd=none:=by unfold qC;rw[hs]
  have gi:ixK gd (.int k) (h.set gd (.rod (kvA 0 as)))=.ok (.ref a) (h.set gd (.rod (kvA 0 as))):=by unfold ixK;rw[hs];simp only[uM ha]
  unfold jG;simp! only [sV,sU, *,gn,Option.bind_none,gi]
 have e2:qA fns B (n+1) 60 [.ref gd] h=.ok (.ref (h.length+1)) (h++[.lst (iD (List.range as.length)),.lst (iD (List.range as.length))]):=by
  rw[qQp];have sl:(h.set gd (.rod (kvA 0 as))).length=h.length:=by simp
  have g1:(h.set gd (.rod (kvA 0 as))++[.lst (iD (List.range as.length))])[gd]?=some (.rod (kvA 0 as)):=qK _ hs
  have g2:(h.set gd (.rod (kvA 0 as))++[O.lst (iD (List.range as.length))]).set gd (.dct (kvA 0 as))=h++[.lst (iD (List.range as.length))]:=by
   rw[qIO _ hs,List.set_set,wH H.hg]
  simp! only [sW, *,H.hg,dG,if_pos (show as.length<16777216 by lia),qMh,e1,newL,wY,wV,vD,List.length_range,if_pos (show as.length<=16777216 by lia),g1,g2,sl,qY,zV,cA,qNL,List.length_map,if_pos (show as.length<64 by lia),qID _ lz,List.length_append,List.length_cons,List.length_nil,List.append_assoc,Option.bind_some,List.map_map];rfl
 simp! only [qA2, *,H.hp,vE,e2]
end
def pc(d:D):Prop:=∃ P,toD P=d/\okP P
open Classical in
def wrT(d:D):Tx:=if h:pc d then wr h.choose else []
def wrD(d:D):D:=.str (wrT d)
theorem iH(h:pc d):∃ P,toD P=d/\okP P/\wrT d=wr P:=⟨h.choose,h.choose_spec.1,h.choose_spec.2,by unfold wrT;rw[dif_pos h]⟩
theorem aH(B n:Nat)(hd:pc d)(h:AH):∃ g,qA fns B (n+7) qD7 [d] h=.ok (wrD d) (h++g):=by
 obtain ⟨P,e1,e2,e3⟩:=iH hd
 have:=qDL B n e2 h
 rw[e1] at this;unfold wrD;rw[e3];exact this
theorem qDM(B n:Nat)(hd:pc (.tup (.str k::r)))(hk:k=HELLO\/k=ANS)(h:AH):∃ g,qA fns B (n+8) qD8 [wrD (.tup (.str k::r))] h=.ok (.tup (.str k::r)) (h++g):=by
 obtain ⟨P,s1,s2,e3⟩:=iH hd
 have hh:Hrd P:=by
  have sh:=s2.1;cases sh with
  |hello a b _=>exact .hello a b
  |ans a b c d e l _ hq=>exact .ans a b c d e l hq
  |data a b c d y=>injection s1 with s1;injection s1 with s1 _;injection s1 with s1;have s1:DATA=k:=s1;subst s1;rcases hk with z | z <;> exact absurd z (by decide)
  |fin a b c d=>injection s1 with s1;injection s1 with s1 _;injection s1 with s1;have s1:ENDW=k:=s1;subst s1;rcases hk with z | z <;> exact absurd z (by decide)
 have:=qLu B n s2 hh h
 rw[s1] at this;unfold wrD;rw[e3];exact this
def pcD(k:Nat):D->D
 | .tup (x::r)=>.tup (x::.int 1::.int 3::.int k::r)
 |d=>d
theorem aJ{ns:List Nat}(h:ns.all (fun n=>decide (n<=1000000000))=true):∀ n∈ns,n<=1000000000:=fun n hn=>of_decide_eq_true (List.all_eq_true.mp h n hn)
theorem cI(hd:PD d)(k:Nat)(hk:k<50):(∃ x r,d=.tup (x::r)/\r.length<=2)/\pc (pcD k d):=by
 rcases hd with⟨a,y,rfl,h1,h2,h3⟩ | ⟨a,rfl,h1⟩
 ·exact⟨⟨_,_,rfl,by simp⟩,⟨DATA,[1,3,k,a],.sg y⟩,rfl,.data 1 3 k a y h2 h3 (by lia) (by lia) (by lia) h1,aJ (by simp;lia)⟩
 ·exact⟨⟨_,_,rfl,by simp⟩,⟨ENDW,[1,3,k,a],.no⟩,rfl,.fin 1 3 k a (by lia) (by lia) (by lia) h1,aJ (by simp;lia)⟩
theorem qCp:pc (.tup [.str HELLO,.int 3,.int 1]):=⟨⟨HELLO,[3,1],.no⟩,rfl,.hello 3 1 (by lia),aJ rfl⟩
theorem qJI:pc (.tup [.str HELLO,.int 1,.int 3]):=⟨⟨HELLO,[1,3],.no⟩,rfl,.hello 1 3 (by lia),aJ rfl⟩
theorem qGf:∀ (l:List (Nat × Nat)) (u:Nat),Abv u l->∀ q∈l,q.1<=1000000/\q.2<=1000000
 | [],_,_,q,hq=>nomatch hq
 |p::r,u,⟨h1,h2,h3,h4⟩,q,hq=>by
  rcases List.mem_cons.mp hq with rfl | hq
  ·lia
  ·exact qGf r p.2 h4 q hq
def jZ(k u v:Nat)(l:List (Nat × Nat)):D:=.tup [.str ANS,.int 3,.int 1,.int k,.int u,.int v,.tup (l.map qJ)]
theorem qCq(k u v:Nat)(hk:k<50)(hu:u<=3000)(hv:v<=3000)(hl:l.length<=8)(ha:Abv u l):pc (jZ k u v l):=
 ⟨⟨ANS,[3,1,k,u,v],.sp l⟩,rfl,.ans 3 1 k u v l hl (qGf l u ha) (by lia) (by lia) (by lia) hu hv ha,aJ (by simp;lia)⟩
def sv(m:Nat):Nat->List Nat->List GS->List (Nat × D) × List GS
 |_,[],gs=>([],gs)
 |0,_::_,gs=>([],gs)
 |b+1,k::r,gs=>match gs[k]? with
  |none=>sv m (b+1) r gs
  |some g=>if g.dn=true then sv m (b+1) r gs else match prt m g with
   | []=>sv m (b+1) r (gs.set k (bh m g))
   |d::_=>((k,d)::(sv m b r (gs.set k (bh m g))).1,(sv m b r (gs.set k (bh m g))).2)
section
variable {m b k:Nat}{r:List Nat}{gs:List GS}{g:GS}
theorem yB:sv m b [] gs=([],gs):=by cases b <;> rfl
theorem wG:sv m 0 r gs=([],gs):=by cases r <;> rfl
theorem bW(h:gs[k]?=some g)(d:g.dn=true):sv m (b+1) (k::r) gs=sv m (b+1) r gs:=by rw[sv,h];simp only[d,if_true]
theorem yZ(h:gs[k]?=some g)(d:g.dn=false)(e:prt m g=[]):sv m (b+1) (k::r) gs=sv m (b+1) r (gs.set k (bh m g)):=by rw[sv,h];simp only[d,e,Bool.false_eq_true,if_false]
theorem yX(h:gs[k]?=some g)(d:g.dn=false)(e:prt m g=x::y):sv m (b+1) (k::r) gs=((k,x)::(sv m b r (gs.set k (bh m g))).1,(sv m b r (gs.set k (bh m g))).2):=by rw[sv,h];simp only[d,e,Bool.false_eq_true,if_false]
end
theorem uE{N m:Nat}{gs:List GS}{k:Nat}{g:GS}(w:∀ g∈gs,WG N g)(h:WG N g):∀ g'∈gs.set k g,WG N g':=fun g' hg=>by
 rcases List.mem_or_eq_of_mem_set hg with z | z
 ·exact w _ z
 ·rw[z];exact h
theorem yW:∀ (r:List Nat) (b:Nat) (gs:List GS),(∀ g∈gs,WG N g)->(∀ g∈(sv m b r gs).2,WG N g)/\(sv m b r gs).2.length=gs.length/\(sv m b r gs).1.length<=r.length/\∀ x∈(sv m b r gs).1,x.1∈r
 | [],b,gs,w=>by rw[yB];exact⟨w,rfl,Nat.le_refl _,fun x hx=>nomatch hx⟩
 |k::r,0,gs,w=>by rw[wG];exact⟨w,rfl,Nat.zero_le _,fun x hx=>nomatch hx⟩
 |k::r,b+1,gs,w=>by
  cases q:gs[k]? with
  |none=>
   have e:sv m (b+1) (k::r) gs=sv m (b+1) r gs:=by rw[sv,q]
   obtain ⟨h1,h2,h3,h4⟩:=yW (N:=N) r (b+1) gs w;rw[e]
   exact⟨h1,h2,by simp only[List.length_cons];lia,fun x hx=>List.mem_cons_of_mem _ (h4 x hx)⟩
  |some g=>
   have w':=uE (m:=m) (k:=k) w ((w g (List.mem_of_getElem? q)).bh m);rcases Bool.eq_false_or_eq_true g.dn with d | d
   ·obtain ⟨h1,h2,h3,h4⟩:=yW (N:=N) r (b+1) gs w;rw[bW q d]
    exact⟨h1,h2,by simp only[List.length_cons];lia,fun x hx=>List.mem_cons_of_mem _ (h4 x hx)⟩
   ·cases e:prt m g with
    |nil=>
     obtain ⟨h1,h2,h3,h4⟩:=yW (N:=N) r (b+1) _ w';rw[yZ q d e]
     exact⟨h1,by rw[h2,List.length_set],by simp only[List.length_cons];lia,fun x hx=>List.mem_cons_of_mem _ (h4 x hx)⟩
    |cons x y=>
     obtain ⟨h1,h2,h3,h4⟩:=yW (N:=N) r b _ w';rw[yX q d e];refine⟨h1,by rw[h2,List.length_set],by simp only[List.length_cons];lia,fun x hx=>?_⟩;rcases List.mem_cons.mp hx with rfl | hx
     ·exact List.mem_cons_self ..
     ·exact List.mem_cons_of_mem _ (h4 x hx)
def kQ(sl:D):List (Nat × D)->D
 | []=>sl
 |k::r=>kQ (.int k.1) r
theorem aN(H:Ho p q gd td m b h sl as gs)(e:h[i]?=some (.lst xs)):i∉p::as:=fun z=>by
 rcases List.mem_cons.mp z with rfl | z
 ·rw[H.hp] at e;cases e
 ·exact H.not e (fun fs z=>by cases z) z
section
variable {N p q gd td m:Nat}{b:Int}{as:List Nat}
theorem qLw(B n:Nat)(H:Ho p q gd td m b h sl as gs)(k:Nat)(x:D)(r:List D)(hr:r.length<=2):qA fns B (n+1) qN4 [.ref p,.int k,.tup (x::r)] h=.ok (pcD k (.tup (x::r))) h:=by
 rw[qRb];have e1:qO (x::r) none (some 1)=[x]:=eW (x::r) 1;have e2:qO (x::r) (some 1) none=r:=yN (x::r) 1;simp! only [qA6, *,H.hp,aO,H.hq,aA,uF,e1,e2,List.length_cons,List.length_nil,List.length_append,if_pos (show 0+1+1+1<=16777216 by lia),if_pos (show 0+1+(0+1+1+1)<=16777216 by lia),if_pos (show 0+1+(0+1+1+1)+r.length<=16777216 by lia),if_pos (show 3<=16777216 by lia)];rfl
theorem iO(B n:Nat)(hB:1000<=B)(hN:N<=60)(hm:1<=m)(hm2:m<=40)(i pi:Nat)(hne:i≠pi)(xs:List Nat)(w:Option D) :
  ∀ (r:List Nat) (k f:Nat) (ps:List D) (b':Nat) (h:AH) (sl:D) (gs:List GS) (s3 s4:Option D),f+k=xs.length+1->k<=xs.length->xs.drop k=r->(∀ k∈r,k<50/\∃ g,gs[k]?=some g/\g.dn=false)->(∀ g∈gs,WG N g)->b=((ps.length+b':Nat):Int)->h[i]?=some (.lst (iD xs))->h[pi]?=some (.lst ps)->Ho p q gd td m b h sl as gs->ps.length+r.length<=100 ->
  ∃ s3' s4' h',jW (qV (.nm 3) (qB (qA fns B (n+7)) B bK)) i f k [some (.ref p),some (.ref pi),w,s3,s4] h=.nx [some (.ref p),some (.ref pi),w,s3',s4'] h'/\h'[pi]?=some (.lst (ps++(sv m b' r gs).1.map fun x=>pcD x.1 x.2))/\Ho p q gd td m b h' (kQ sl (sv m b' r gs).1) as (sv m b' r gs).2/\Fs (pi::p::as) h h'
 | [],k,f,ps,b',h,sl,gs,s3,s4,hf,hkl,hd,hx,hw,hb,hg,hpi,H,hl=>by
  have hk:xs.length<=k:=by
   rw[List.drop_eq_nil_iff] at hd;exact hd
  match f,hf with
  |f+1,hf=>
   have e:(iD xs)[k]?=none:=by rw[List.getElem?_eq_none_iff,vD];exact hk
   refine⟨s3,s4,h,?_,?_,by rw[yB];exact H,⟨Nat.le_refl _,fun _ _ _=>rfl⟩⟩
   ·unfold jW;rw[zT hg];simp only[e]
   ·rw[yB,List.map_nil,List.append_nil];exact hpi
  |0,hf=>lia
 |x::r,k,f,ps,b',h,sl,gs,s3,s4,hf,hkl,hd,hx,hw,hb,hg,hpi,H,hl=>by
  have hk:k<xs.length:=by
   by_cases z:k<xs.length
   ·exact z
   ·rw[List.drop_eq_nil_of_le (by lia)] at hd;cases hd
  rw[List.drop_eq_getElem_cons hk] at hd;injection hd with hd1 hd2
  have e:(iD xs)[k]?=some (.int (x:Int)):=by
   unfold iD;rw[List.getElem?_map,List.getElem?_eq_getElem hk,hd1];rfl
  match f,hf with
  |0,hf=>lia
  |f+1,hf=>
   unfold jW;rw[zT hg];simp only[e];rw[kA];have gpi:=zT hpi;cases b' with
   |zero=>
    have d1:decide (b<=(ps.length:Int))=true:=decide_eq_true (by lia);refine⟨some (.int x),s4,h,?_,?_,by rw[wG];exact H,⟨Nat.le_refl _,fun _ _ _=>rfl⟩⟩
    ·simp! only [bK, *,gpi,H.hp,nF,d1]
    ·rw[wG,List.map_nil,List.append_nil];exact hpi
   |succ b'=>
    have d1:decide (b<=(ps.length:Int))=false:=decide_eq_false (by lia);obtain ⟨x50,g,hgx,hdn⟩:=hx x (List.mem_cons_self ..);have hxl:x<gs.length:=(List.getElem?_eq_some_iff.mp hgx).1;have ha:as[x]?=some (as[x]'(by rw[H.la];exact hxl)):=List.getElem?_eq_getElem _;generalize as[x]'(by rw[H.la];exact hxl)=a at ha;have hga:=H.gv x a g ha hgx;have wg:=hw g (List.mem_of_getElem? hgx);obtain ⟨h1,e1,g1,f1⟩:=qLv (B:=B) (n:=n) wg hN hB hm hm2 H.hp H.hg (uM ha) hga;have ma:=List.mem_of_getElem? ha;have fs1:Fs (pi::p::as) h h1:=f1.fs (List.mem_cons_of_mem _ (List.mem_cons_of_mem _ ma));have H1:=H.giv ha hxl f1 g1;have npa:pi∉p::as:=aN H hpi
    have nia:i∉pi::p::as:=fun z=>by
     rcases List.mem_cons.mp z with z | z
     ·exact hne z
     ·exact aN H hg z
    have hpi1:h1[pi]?=some (.lst ps):=f1.get hpi fun z=>npa (by rw[z];exact List.mem_cons_of_mem _ ma);have gpi1:=zT hpi1
    have hx1:∀ k∈r,k<50/\∃ g',(gs.set x (bh m g))[k]?=some g'/\g'.dn=false:=fun j hj=>by
     obtain ⟨h50,g',h1,h2⟩:=hx j (List.mem_cons_of_mem _ hj);refine⟨h50,?_⟩
     by_cases z:x=j
     ·subst z
      exact⟨bh m g,by rw[List.getElem?_set,if_pos rfl,if_pos hxl],hdn⟩
     ·exact⟨g',by rw[List.getElem?_set_ne z];exact h1,h2⟩
    have hw1:=uE (m:=m) (k:=x) hw (wg.bh m);have po:=cG wg hm hm2;cases q0:prt m g with
    |nil=>rw[q0] at e1;have e1:qA fns B (n+7) nB [.ref p,.int x] h=.ok .non h1:=e1;obtain ⟨s3',s4',h',e2,p2,H2,k2⟩:=iO B n hB hN hm hm2 i pi hne xs w r (k+1) f ps (b'+1) h1 sl _ (some (.int x)) (some .non) (by lia) hk hd2 hx1 hw1 hb (fs1.get hg nia) hpi1 H1 (by simp only[List.length_cons] at hl;lia);rw[yZ hgx hdn q0];refine⟨s3',s4',h',?_,p2,H2,fs1.trans k2⟩;rw[<- e2];simp! only [bK,qA4, *,gpi,H.hp,nF,d1,qEL,tbh,e1]
    |cons d ds=>
     rw[q0] at e1 po;have e1:qA fns B (n+7) nB [.ref p,.int x] h=.ok d h1:=e1;obtain ⟨⟨z,zs,rfl,z2⟩,_⟩:=cI (po.1 d (List.mem_cons_self ..)) x x50;have ep:=qLw B (n+6) H1 x z zs z2;generalize hD:pcD x (.tup (z::zs))=dd at ep;have H2:=(H1.lset (.lst (ps++[dd])) gpi1);have hs1:=H2.hp;have H2:=H2.last (.int x);have hne2:p≠pi:=fun z=>npa (by rw[z];exact List.mem_cons_self ..)
     have hpi2:((h1.set pi (.lst (ps++[dd]))).set p (.ins zC (hst m b q gd td (.int x))))[pi]?=some (.lst (ps++[dd])):=by
      rw[List.getElem?_set_ne hne2];exact zS hpi1 _
     have k12:Fs (pi::p::as) h1 ((h1.set pi (.lst (ps++[dd]))).set p (.ins zC (hst m b q gd td (.int x)))):=(Fs.set _ _ (List.mem_cons_self ..)).trans (Fs.set _ _ (List.mem_cons_of_mem _ (List.mem_cons_self ..)));obtain ⟨s3',s4',h',e2,p2,H3,k2⟩:=iO B n hB hN hm hm2 i pi hne xs w r (k+1) f (ps++[dd]) b' _ (.int x) _ (some (.int x)) (some (.tup (z::zs))) (by lia) hk hd2 hx1 hw1 (by rw[hb,List.length_append];simp only[List.length_cons,List.length_nil];lia) (k12.get (fs1.get hg nia) nia) hpi2 H2 (by simp only[List.length_append,List.length_cons,List.length_nil] at hl ⊢;lia);rw[yX hgx hdn q0];refine⟨s3',s4',h',?_,?_,H3,(fs1.trans k12).trans k2⟩
     ·rw[<- e2];simp! only [bK,qA4,qGK, *,gpi,H.hp,nF,d1,qEL,tbh,e1,gpi1,H1.hp,qOQ,ep,hpi1,if_pos (show ps.length<16777216 by simp only[List.length_cons] at hl;lia),hs1,clh,qEP,show 8<1000 by lia,qOJ]
     ·rw[List.map_cons,hD,p2,List.append_assoc];rfl
end
def dnO(gs:List GS)(k:Nat):Bool:=match gs[k]? with
 |some g=>g.dn
 |none=>false
def wtD(gs:List GS):D->Option D
 | .int i=>if dnO gs i.toNat=true then none else some (.int i)
 |_=>none
theorem qBg(e:dnO gs k=true):wtD gs (.int k)=none:=if_pos e
theorem qBh(e:dnO gs k=false):wtD gs (.int k)=some (.int k):=if_neg (by rw[Int.toNat_natCast,e];simp)
theorem qEo(e:gs[k]?=some g):dnO (gs.set k (bh m g))=dnO gs:=by
 funext j;unfold dnO
 by_cases z:k=j
 ·subst z;rw[List.getElem?_set,if_pos rfl,if_pos (List.getElem?_eq_some_iff.mp e).1,e];rfl
 ·rw[List.getElem?_set_ne z]
theorem bV:∀ (T:List Nat) (b:Nat) (gs:List GS),(∀ k∈T,k<gs.length)->sv m b (T.filter fun k=>!dnO gs k) gs=sv m b T gs
 | [],b,gs,_=>rfl
 |k::r,0,gs,_=>by rw[wG,wG]
 |k::r,b+1,gs,h=>by
  have hk:=h k (List.mem_cons_self ..);have e:gs[k]?=some gs[k]:=List.getElem?_eq_getElem hk;generalize gs[k]=g at e;have hr:=fun j hj=>h j (List.mem_cons_of_mem k hj);have hr2:∀ j∈r,j<(gs.set k (bh m g)).length:=fun j hj=>by rw[List.length_set];exact hr j hj
  have ed:dnO gs k=g.dn:=by unfold dnO;rw[e]
  rcases Bool.eq_false_or_eq_true g.dn with d | d
  ·rw[List.filter_cons_of_neg (by rw[ed,d];simp),bW e d];exact bV r (b+1) gs hr
  ·rw[List.filter_cons_of_pos (by rw[ed,d];rfl)];cases q:prt m g with
   |nil=>rw[yZ e d q,yZ e d q,<- qEo (m:=m) e];exact bV r (b+1) _ hr2
   |cons x y=>rw[yX e d q,yX e d q,<- qEo (m:=m) e,bV r b _ hr2]
theorem qHN(f:Nat->Bool)(xs:List Nat)(la:Option Nat):zH (xs.filter f) la=(zH xs la).filter f:=by
 cases la with
 |none=>rfl
 |some l=>show (xs.filter f).filter (fun k=>decide (l<k))++(xs.filter f).filter (fun k=>decide (k<=l))=(xs.filter (fun k=>decide (l<k))++xs.filter (fun k=>decide (k<=l))).filter f;rw[List.filter_append,List.filter_filter,List.filter_filter,List.filter_filter,List.filter_filter];congr 1 <;> exact List.filter_congr fun x _=>Bool.and_comm ..
theorem bT(n:Nat)(la:Option Nat)(k:Nat)(h:k∈zH (List.range n) la):k<n:=by
 cases la with
 |none=>exact List.mem_range.mp h
 |some l=>
  unfold zH at h;rcases List.mem_append.mp h with h | h
  ·exact List.mem_range.mp (List.mem_filter.mp h).1
  ·exact List.mem_range.mp (List.mem_filter.mp h).1
theorem iR(xs:List Nat)(la:Option Nat):(zH xs la).length<=2*xs.length:=by
 cases la with
 |none=>show xs.length<=_;lia
 |some l=>
  unfold zH;rw[List.length_append];have h1:=List.length_filter_le (fun k=>decide (l<k)) xs;have h2:=List.length_filter_le (fun k=>decide (k<=l)) xs
  lia
section
variable {N p q gd td m:Nat}{b:Int}{as:List Nat}{gs:List GS}{h:AH}
theorem qMK(B n bn:Nat)(hB:1000<=B)(hN:N<=60)(hm:1<=m)(hm2:m<=40)(la:Option Nat)(H:Ho p q gd td m bn h (jJ la) as gs)(hw:∀ g∈gs,WG N g)(hl:as.length<=10) :
  ∃ h' j,qA fns B (n+8) qN3 [.ref p] h=.ok (.ref j) h'/\h'[j]?=some (.lst ((sv m bn (zH (List.range as.length) la) gs).1.map fun x=>pcD x.1 x.2))/\Ho p q gd td m bn h' (kQ (jJ la) (sv m bn (zH (List.range as.length) la) gs).1) as (sv m bn (zH (List.range as.length) la) gs).2/\Fs (p::as) h h':=by
 rw[qRa];have lz:=H.lz;have e1:=qLm B (n+5) (H.app [.lst []]);generalize hX:iD (List.range as.length)=X at e1;have hXl:X.length=as.length:=by rw[<- hX,vD,List.length_range]
 generalize hH1:h++[O.lst []]++[.lst X,.lst X]=H1 at e1;have H1o:Ho p q gd td m bn H1 (jJ la) as gs:=by rw[<- hH1];exact (H.app _).app _
 have g1:qC H1 ((h++[O.lst []]).length+1)=some X:=by rw[<- hH1,eD];rfl
 have e2:=lY (jG (den (qA fns B (n+7)) fZ) (qM (qA fns B (n+7)) fY) [some (.ref p),some (.ref h.length),none,none,none]) (wtD gs) ((h++[O.lst []]).length+1) X H1 g1 (by lia) (fun x hx=>by
  rw[<- hX] at hx;unfold iD at hx;obtain ⟨k,hk,rfl⟩:=List.mem_map.mp hx;obtain ⟨a,g,ha,hgk,h5⟩:=H1o.get (List.mem_range.mp hk);have gn:=vY H1o.hg;have gi:ixK gd (.int k) H1=.ok (.ref a) H1:=by unfold ixK;rw[H1o.hg];simp only[uM ha]
  have ed:dnO gs k=g.dn:=by unfold dnO;rw[hgk]
  unfold jG;rcases Bool.eq_false_or_eq_true g.dn with d | d
  ·rw[qBg (by rw[ed];exact d)];simp! only [fZ,fY, *,H1o.hp,vE,gn,Option.bind_none,gi,h5,aR,d]
  ·rw[qBh (by rw[ed];exact d)]
   simp! only [fZ,fY, *,H1o.hp,vE,gn,Option.bind_none,gi,h5,aR,d])
 have ef:X.filterMap (wtD gs)=iD ((List.range as.length).filter fun k=>!dnO gs k):=by
  rw[<- hX];generalize List.range as.length=xs;unfold iD
  induction xs with
  |nil=>rfl
  |cons x r ih=>
   rcases Bool.eq_false_or_eq_true (dnO gs x) with d | d
   ·rw[List.filter_cons_of_neg (by rw[d];simp),List.map_cons,List.filterMap_cons_none (qBg d)];exact ih
   ·rw[List.filter_cons_of_pos (by rw[d];rfl),List.map_cons,List.filterMap_cons_some (qBh d),ih];rfl
 rw[ef,dB] at e2;generalize hWL:(List.range as.length).filter (fun k=>!dnO gs k)=WL at e2
 have hWl:WL.length<=as.length:=by
  have:=List.length_filter_le (fun k=>!dnO gs k) (List.range as.length)
  rw[hWL,List.length_range] at this;exact this
 generalize hH2:H1++[O.lst (iD WL)]=H2;have g2:H2[H1.length]?=some (.lst (iD WL)):=by rw[<- hH2,qW];rfl
 obtain ⟨g,k,e3,e4⟩:=qMA B (n+6) H2 H1.length WL la (by lia) g2;have eT:zH WL la=(zH (List.range as.length) la).filter fun k=>!dnO gs k:=by rw[<- hWL];exact qHN _ _ _
 have hTl:=iR WL la
 have eS:sv m bn (zH WL la) gs=sv m bn (zH (List.range as.length) la) gs:=by
  rw[eT];exact bV _ _ _ fun k hk=>by rw[<- H.la];exact bT _ _ _ hk
 have hT:∀ k∈zH WL la,k<50/\∃ g,gs[k]?=some g/\g.dn=false:=fun k hk=>by
  rw[eT] at hk;obtain ⟨k1,k2⟩:=List.mem_filter.mp hk;have k3:=bT _ _ _ k1;obtain ⟨_,g,_,hgk,_⟩:=H.get k3;have ed:dnO gs k=g.dn:=by unfold dnO;rw[hgk]
  exact⟨by lia,g,hgk,by rw[ed] at k2;simpa using k2⟩
 generalize hTT:zH WL la=T at e4 eS hTl hT;have hH2o:Ho p q gd td m bn (H2++g) (jJ la) as gs:=by rw[<- hH2];exact (H1o.app _).app _
 have hlen:H1.length=h.length+3:=by rw[<- hH1];simp
 have hlen2:H2.length=h.length+4:=by rw[<- hH2];simp[hlen]
 have hpi:(H2++g)[h.length]?=some (.lst []):=by
  rw[<- hH2,<- hH1,List.append_assoc,List.append_assoc,List.append_assoc,qW];rfl
 have gT:=zT e4;have hlive:zN (H2++g) (H2.length+k)=T.length+1:=by unfold zN;rw[gT,Option.getD_some,vD]
 obtain ⟨s3',s4',h',e5,p5,H5,k5⟩:=iO (b:=(bn:Int)) B n hB hN hm hm2 (H2.length+k) h.length (by lia) T (some (.ref H1.length)) T 0 (T.length+1) [] bn (H2++g) (jJ la) gs none none rfl (Nat.zero_le _) rfl hT hw (by simp) e4 hpi hH2o (by simp;lia);rw[eS] at p5 H5;refine⟨h',h.length,?_,p5,H5,?_⟩
 ·simp! only [qA5,qGJ, *,(H.app [.lst []]).hp,qOO,tbh,e1,hH1,g1,e2,newL,wY,wV,vD,if_pos (show WL.length<=16777216 by lia),hH2,hH2o.hp,(show H2[p]?=some (.ins zC (hst m bn q gd td (jJ la))) by rw[<- hH2];exact (H1o.app _).hp),qOc,e3,gT,hlive,e5]
 ·refine Fs.new (h0:=H2++g) ?_ k5 (Nat.le_refl _);rw[<- hH2,<- hH1,List.append_assoc,List.append_assoc,List.append_assoc];exact Fs.app _ _ _
end
theorem yY(hm:1<=m)(hm2:m<=40):∀ (r:List Nat) (b:Nat) (gs:List GS),(∀ g∈gs,WG N g)->∀ x∈(sv m b r gs).1,PD x.2
 | [],b,gs,w,x,hx=>by rw[yB] at hx;cases hx
 |k::r,0,gs,w,x,hx=>by rw[wG] at hx;cases hx
 |k::r,b+1,gs,w,x,hx=>by
  cases q:gs[k]? with
  |none=>rw[show sv m (b+1) (k::r) gs=sv m (b+1) r gs by rw[sv,q]] at hx;exact yY hm hm2 r (b+1) gs w x hx
  |some g=>
   have wg:=w g (List.mem_of_getElem? q);have w':=uE (m:=m) (k:=k) w (wg.bh m);rcases Bool.eq_false_or_eq_true g.dn with d | d
   ·rw[bW q d] at hx;exact yY hm hm2 r (b+1) gs w x hx
   ·cases e:prt m g with
    |nil=>rw[yZ q d e] at hx;exact yY hm hm2 r (b+1) _ w' x hx
    |cons y ys=>
     rw[yX q d e] at hx;rcases List.mem_cons.mp hx with rfl | hx
     ·exact (cG wg hm hm2).1 y (by rw[e];exact List.mem_cons_self ..)
     ·exact yY hm hm2 r b _ w' x hx
section
variable {N p q gd td m:Nat}{b:Int}{as:List Nat}{gs:List GS}{h:AH}
theorem qLj(B n bn:Nat)(hB:1000<=B)(hN:N<=60)(hm:1<=m)(hm2:m<=40)(la:Option Nat)(H:Ho p q gd td m bn h (jJ la) as gs)(hw:∀ g∈gs,WG N g)(hl:as.length<=10) :
  ∃ h' j,qA fns B (n+9) qNz [.ref p] h=.ok (.ref j) h'/\h'[j]?=some (.lst ((sv m bn (zH (List.range as.length) la) gs).1.map fun x=>wrD (pcD x.1 x.2)))/\Ho p q gd td m bn h' (kQ (jJ la) (sv m bn (zH (List.range as.length) la) gs).1) as (sv m bn (zH (List.range as.length) la) gs).2/\Fs (p::as) h h'/\h.length<=j:=by
 rw[qRX];have H0:Ho p q gd td m bn (h++[.lst []]) (jJ la) as gs:=H.app _;obtain ⟨h1,j1,e1,p1,H1,k1⟩:=qMK B n bn hB hN hm hm2 la H0 hw hl;obtain ⟨_,_,s3,s4⟩:=yW (N:=N) (m:=m) (zH (List.range as.length) la) bn gs hw;have s5:=yY hm hm2 (zH (List.range as.length) la) bn gs hw;have s6:=iR (List.range as.length) la;rw[List.length_range] at s6;have s7:∀ x∈(sv m bn (zH (List.range as.length) la) gs).1,pc (pcD x.1 x.2):=fun x hx=>(cI (s5 x hx) x.1 (by have:=bT _ _ _ (s4 x hx);lia)).2;generalize sv m bn (zH (List.range as.length) la) gs=S at *;have hpl:h.length∉p::as:=aN H0 (xs:=[]) (by rw[qW];rfl);have gh1:h1[h.length]?=some (.lst []):=k1.get (by rw[qW];rfl) hpl;generalize hN:(S.1.map fun x=>pcD x.1 x.2)=Z at p1;have hNl:Z.length<=50:=by rw[<- hN,List.length_map];lia
 have H2:=H1.lset (.lst Z) (zT gh1);have g2:(h1.set h.length (.lst Z))[h.length]?=some (.lst Z):=zS gh1 _;have gl2:=zT g2
 obtain ⟨g,e3,lv⟩:=cZ (jI (den (qA fns B (n+8)) qAy) [some (.ref p),some (.ref h.length)]) wrD h.length Z (h1.set h.length (.lst Z)) gl2 (by lia) (fun x hx G _=>by
  rw[<- hN] at hx;obtain ⟨y,hy,rfl⟩:=List.mem_map.mp hx;obtain ⟨g,e⟩:=aH B (n+1) (s7 y hy) G;refine⟨g,?_⟩;rw[wB]
  simp! only [qAy, *,e])
 have kl2:Fs (p::as) h (h1.set h.length (.lst Z)):=Fs.new (h0:=h1) ((Fs.app _ h _).trans k1) (Fs.set _ _ (List.mem_cons_self ..)) (Nat.le_refl _);have eZ:Z.map wrD=S.1.map fun x=>wrD (pcD x.1 x.2):=by rw[<- hN,List.map_map];rfl
 refine⟨h1.set h.length (.lst Z)++g++[.lst (Z.map wrD)],(h1.set h.length (.lst Z)++g).length,?_,by rw[qW,eZ];rfl,(H2.app _).app _,(kl2.trans (Fs.app _ _ _)).trans (Fs.app _ _ _),(kl2.trans (Fs.app _ _ g)).1⟩;have gh:qC (h++[.lst []]) h.length=some []:=by rw[qY];rfl
 simp! only [qAz,qGF, *,H0.hp,aO,H0.hq,qJB,gh,qOM,tbh,e1,gh1,p1,List.length_nil,Nat.zero_add,if_pos (show Z.length<=16777216 by lia),List.nil_append,gl2,if_pos lv,e3,newL,wY,wV,List.length_map]
end
structure Ow (L m:Nat) (h:AH) (os:List Nat) (gs:List GS):Prop where
 hL:h[L]?=some (.lst (os.map D.ref))
 la:os.length=gs.length
 gv:∀ (k a:Nat) (g:GS),os[k]?=some a->gs[k]?=some g->h[a]?=some (.ins qF (g.fs m))
 nd:∀ (i j a:Nat),os[i]?=some a->os[j]?=some a->i=j
section
variable {N L m:Nat}{h h':AH}{os:List Nat}{gs:List GS}
theorem Ow.get(O:Ow L m h os gs){k:Nat}(hg:gs[k]?=some g):∃ a,os[k]?=some a/\h[a]?=some (.ins qF (g.fs m)):=by
 have hk:k<os.length:=by rw[O.la];exact (List.getElem?_eq_some_iff.mp hg).1
 have ha:os[k]?=some os[k]:=List.getElem?_eq_getElem hk
 exact⟨_,ha,O.gv k _ g ha hg⟩
theorem Ow.at(O:Ow L m h os gs)(ha:a∈os):∃ fs,h[a]?=some (.ins qF fs):=by
 obtain ⟨k,hk,e⟩:=List.mem_iff_getElem.mp ha;have hg:gs[k]?=some (gs[k]'(by rw[<- O.la];exact hk)):=List.getElem?_eq_getElem _;obtain ⟨a',h1,h2⟩:=O.get hg;rw[List.getElem?_eq_getElem hk,e] at h1;cases h1
 exact⟨_,h2⟩
theorem Ow.not(O:Ow L m h os gs)(e:h[i]?=some o)(ne:∀ fs,o≠.ins qF fs):i∉os:=fun z=>by
 obtain ⟨fs,e2⟩:=O.at z;rw[e] at e2;cases e2;exact ne _ rfl
theorem Ow.kept(O:Ow L m h os gs)(f:Fs S h h')(hL:L∉S)(ho:∀ a∈os,a∉S):Ow L m h' os gs:=
 ⟨f.get O.hL hL,O.la,fun k a g h1 h2=>f.get (O.gv k a g h1 h2) (ho a (List.mem_of_getElem? h1)),O.nd⟩
theorem Ow.app(O:Ow L m h os gs)(g:AH):Ow L m (h++g) os gs:=O.kept (S:=[]) (Fs.app _ _ _) List.not_mem_nil fun _ _=>List.not_mem_nil
theorem Ow.giv(O:Ow L m h os gs)(ha:os[k]?=some a)(hk:k<gs.length)(f:Fr a h h')(hg:h'[a]?=some (.ins qF (g.fs m))):Ow L m h' os (gs.set k g):=by
 have ma:=List.mem_of_getElem? ha;refine⟨f.get O.hL fun z=>O.not O.hL (fun fs z=>by cases z) (by rw[z];exact ma),by rw[List.length_set];exact O.la,fun i a' g' h1 h2=>?_,O.nd⟩
 by_cases q:i=k
 ·subst q;rw[ha] at h1;cases h1;rw[List.getElem?_set,if_pos rfl,if_pos hk] at h2;cases h2;exact hg
 ·rw[List.getElem?_set_ne (Ne.symm q)] at h2;exact f.get (O.gv i a' g' h1 h2) fun z=>by subst z;exact q (O.nd i k a' h1 ha)
theorem Ow.ix(O:Ow L m h os gs){k:Nat}(ha:os[k]?=some a):qC h L=some (os.map D.ref)/\((ixN (os.map D.ref).length (k:Int)).bind fun j=>(os.map D.ref)[j]?)=some (.ref a):=
 ⟨zT O.hL,mP (by rw[List.getElem?_map,ha];rfl)⟩
theorem qPE(B n:Nat){k:Nat}(hd:PD d)(hk:k<50)(ht:h[t]?=some (.lst ts))(tl:ts.length<=1000)(x0 x1 x2 x4 x5:Option D) :
  ∃ g,qB (qA fns B (n+7)) B tX [x0,x1,x2,some (.ref t),x4,x5,some (.int k),some d] h=.nx [x0,x1,x2,some (.ref t),some (.int k),x5,some (.int k),some d] ((h++g).set t (.lst (ts++[wrD (pcD k d)]))):=by
 obtain ⟨⟨x,r,rfl,hr⟩,hp⟩:=cI hd k hk;obtain ⟨g,e2⟩:=aH B n hp h;refine⟨g,?_⟩
 have i0:((ixN (r.length+1) 0).bind fun j=>(x::r)[j]?)=some x:=by
  rw[show ixN (r.length+1) 0=some 0 by unfold ixN;rw[if_pos (by lia),if_pos (by lia)];rfl];rfl
 have c1:qO (x::r) (some 1) none=r:=yN (x::r) 1;have e2:qA fns B (n+7) 42 [.tup (x::.int 1::.int 3::.int k::r)] h=.ok (wrD (pcD k (.tup (x::r)))) (h++g):=e2;have gt:=zT ht;simp! only [tX, *,gt,List.length_cons,i0,if_pos (show 4<=16777216 by lia),c1,List.length_nil,if_pos (show 0+1+1+1+1+r.length<=16777216 by lia),List.cons_append,List.nil_append,e2,qK g ht,if_pos (show ts.length<16777216 by lia)]
theorem aT(B n:Nat)(hB:1000<=B)(hN:N<=60)(hm:1<=m)(hm2:m<=40)(bn l t:Nat) :
  ∀ (ss:List Nat) (ts:List D) (b':Nat) (se:D) (h:AH) (gs:List GS) (s5 s6 s7:Option D),ts.length+ss.length<=1000->bn=ts.length+b'->gs.length=3->(∀ g∈gs,WG N g)->h[t]?=some (.lst ts)->t≠L->Ow L m h os gs ->
  ∃ s5' s6' s7' h',zJ (qV (.nm 5) (qB (qA fns B (n+7)) B wT)) (iD ss) [some (.ref L),some (.int l),some (.int bn),some (.ref t),some se,s5,s6,s7] h=.nx [some (.ref L),some (.int l),some (.int bn),some (.ref t),some (kQ se (sv m b' (ss.map fun s=>(l+1+s) % 3) gs).1),s5',s6',s7'] h'/\h'[t]?=some (.lst (ts++(sv m b' (ss.map fun s=>(l+1+s) % 3) gs).1.map fun x=>wrD (pcD x.1 x.2)))/\Ow L m h' os (sv m b' (ss.map fun s=>(l+1+s) % 3) gs).2/\Fs (t::os) h h'
 | [],ts,b',se,h,gs,s5,s6,s7,_,hb,h3,hw,ht,tL,O=>⟨s5,s6,s7,h,by rw[List.map_nil,yB];rfl,by rw[List.map_nil,yB,List.map_nil,List.append_nil];exact ht,by rw[List.map_nil,yB];exact O,⟨Nat.le_refl _,fun _ _ _=>rfl⟩⟩
 |s::ss,ts,b',se,h,gs,s5,s6,s7,hl,hb,h3,hw,ht,tL,O=>by
  have hk:(l+1+s) % 3<3:=Nat.mod_lt _ (by lia);have e0:((l:Int)+1+(s:Int)) % 3=(((l+1+s) % 3:Nat):Int):=by lia
  simp only[List.length_cons] at hl;rw[List.map_cons];generalize (l+1+s) % 3=k at hk e0;have gt:=zT ht;have hpos:(0:Int)<3:=by lia
  show ∃ s5' s6' s7' h',SR.turn (qV (.nm 5) (qB (qA fns B (n+7)) B wT) (.int s) _ h) _=_/\_;rw[kA];cases b' with
  |zero=>obtain ⟨s5',s6',s7',h',e1,p1,O1,f1⟩:=aT B n hB hN hm hm2 bn l t ss ts 0 se h gs (some (.int s)) (some (.int k)) s7 (by lia) hb h3 hw ht tL O;rw[wG] at e1 p1 O1;rw[wG];refine⟨s5',s6',s7',h',?_,p1,O1,f1⟩;rw[<- e1];have d1:decide ((ts.length:Int)<(bn:Int))=false:=decide_eq_false (by lia);simp! only [wT, *,if_pos hpos,e0,gt,d1];rfl
  |succ b'=>
   have d1:decide ((ts.length:Int)<(bn:Int))=true:=decide_eq_true (by lia);have hgk:gs[k]?=some (gs[k]'(by lia)):=List.getElem?_eq_getElem _;generalize gs[k]'(by lia)=g at hgk;obtain ⟨a,ha,hga⟩:=O.get hgk;obtain ⟨x1,x2⟩:=O.ix ha;rcases Bool.eq_false_or_eq_true g.dn with d | d
   ·obtain ⟨s5',s6',s7',h',e1,p1,O1,f1⟩:=aT B n hB hN hm hm2 bn l t ss ts (b'+1) se h gs (some (.int s)) (some (.int k)) s7 (by lia) hb h3 hw ht tL O;rw[bW hgk d];refine⟨s5',s6',s7',h',?_,p1,O1,f1⟩;rw[<- e1];simp! only [wT, *,if_pos hpos,e0,gt,d1,x1,Option.bind_some,x2,hga,aR,d];rfl
   ·have wg:=hw g (List.mem_of_getElem? hgk);have hkl:k<gs.length:=by lia
    obtain ⟨h1,r,e1,p1,g1,f1,r1⟩:=qL5 (B:=B) (n:=n) wg hN hB hm hm2 hga;have O1:=O.giv ha hkl f1 g1;have ma:=List.mem_of_getElem? ha;have nto:t∉os:=O.not ht (fun fs z=>by cases z);have ht1:h1[t]?=some (.lst ts):=f1.get ht fun z=>nto (by rw[z];exact ma);have hrt:r≠t:=by have:=(List.getElem?_eq_some_iff.mp ht).1;lia
    have fs1:Fs (t::os) h h1:=f1.fs (List.mem_cons_of_mem _ ma);have hw1:=uE (m:=m) (k:=k) hw (wg.bh m);have h31:(gs.set k (bh m g)).length=3:=by rw[List.length_set];exact h3
    have po:=cG wg hm hm2;have gr:=zT p1;cases q0:prt m g with
    |nil=>
     rw[q0] at gr;obtain ⟨s5',s6',s7',h',e2,p2,O2,f2⟩:=aT B n hB hN hm hm2 bn l t ss ts (b'+1) se h1 _ (some (.int s)) (some (.int k)) s7 (by lia) hb h31 hw1 ht1 tL O1;rw[yZ hgk d q0];refine⟨s5',s6',s7',h',?_,p2,O2,fs1.trans f2⟩;rw[<- e2];have lv:zN h1 r=1:=by unfold zN;rw[gr];rfl
     simp! only [wT,tW, *,if_pos hpos,e0,gt,d1,x1,Option.bind_some,x2,hga,aR,d,e1,gr,lv,jW,List.getElem?_nil];rfl
    |cons y ys=>
     have hy:ys=[]:=by
      have:=po.2
      rw[q0,List.length_cons] at this;cases ys with
      |nil=>rfl
      |cons _ _=>simp at this
     subst hy;rw[q0] at gr po;obtain ⟨w,e3⟩:=qPE (h:=h1) B n (po.1 y (List.mem_cons_self ..)) (show k<50 by lia) ht1 (by lia) (some (.ref L)) (some (.int l)) (some (.int bn)) (some se) (some (.int s));have ht2:=zS (qK w ht1) (.lst (ts++[wrD (pcD k y)]));have f2:Fs (t::os) h1 ((h1++w).set t (.lst (ts++[wrD (pcD k y)]))):=(Fs.app _ _ _).trans (Fs.set _ _ (List.mem_cons_self ..));have O2:Ow L m ((h1++w).set t (.lst (ts++[wrD (pcD k y)]))) os (gs.set k (bh m g)):=(O1.app w).kept (S:=[t]) (Fs.set _ _ (List.mem_cons_self ..)) (fun z=>tL (List.mem_singleton.mp z).symm) (fun a ha z=>nto (by rw[<- List.mem_singleton.mp z];exact ha))
     have gr2:qC ((h1++w).set t (.lst (ts++[wrD (pcD k y)]))) r=some [y]:=by
      rw[qOl (h:=h1) (by rw[List.getElem?_set_ne (Ne.symm hrt),List.getElem?_append_left (qOm gr)])];exact gr
     obtain ⟨s5',s6',s7',h',e4,p4,O4,f4⟩:=aT B n hB hN hm hm2 bn l t ss (ts++[wrD (pcD k y)]) b' (.int k) _ _ (some (.int s)) (some (.int k)) (some y) (by simp only[List.length_append,List.length_cons,List.length_nil];lia) (by simp only[List.length_append,List.length_cons,List.length_nil];lia) h31 hw1 ht2 tL O2;rw[yX hgk d q0];refine⟨s5',s6',s7',h',?_,?_,O4,(fs1.trans f2).trans f4⟩
     ·show _=SR.nx [_,_,_,_,some (kQ (.int k) _),_,_,_] _;rw[<- e4];have lv:zN h1 r=2:=by unfold zN;rw[gr];rfl
      simp! only [wT,tW, *,if_pos hpos,e0,gt,d1,x1,Option.bind_some,x2,hga,aR,d,e1,gr,lv,jW,e3,gr2,List.getElem?_nil];rfl
     ·rw[List.map_cons,p4,List.append_assoc];rfl
end
section
variable {N L m:Nat}{h:AH}{os:List Nat}{gs:List GS}
theorem qMI(B n bn l:Nat)(hB:1000<=B)(hN:N<=60)(hm:1<=m)(hm2:m<=40)(h3:gs.length=3)(hw:∀ g∈gs,WG N g)(O:Ow L m h os gs) :
  ∃ t h',qA fns B (n+8) qD9 [.ref L,.int l,.int bn] h=.ok (.tup [.ref t,kQ (.int l) (sv m bn ((List.range 3).map fun s=>(l+1+s) % 3) gs).1]) h'/\h'[t]?=some (.lst ((sv m bn ((List.range 3).map fun s=>(l+1+s) % 3) gs).1.map fun x=>wrD (pcD x.1 x.2)))/\Ow L m h' os (sv m bn ((List.range 3).map fun s=>(l+1+s) % 3) gs).2/\Fs os h h'/\h.length<=t:=by
 rw[qQ1];have hL:=(List.getElem?_eq_some_iff.mp O.hL).1;obtain ⟨s5',s6',s7',h',e1,p1,O1,f1⟩:=aT (L:=L) (os:=os) B n hB hN hm hm2 bn l h.length (List.range 3) [] bn (.int l) (h++[.lst []]) gs none none none (by simp) (by simp) h3 hw (by rw[qW];rfl) (by lia) (O.app _);rw[List.nil_append] at p1;refine⟨h.length,h',?_,p1,O1,Fs.new (h0:=h++[.lst []]) (Fs.app _ _ _) f1 (Nat.le_refl _),Nat.le_refl _⟩;have e1:zJ (qV (.nm 5) (qB (qA fns B (n+7)) B wT)) (kC 0 3) [some (.ref L),some (.int l),some (.int bn),some (.ref h.length),some (.int l),none,none,none] (h++[.lst []])=_:=e1;simp! only [tY,qFg, *,if_pos (show 0<=16777216 by lia),if_pos (show zU 3 by decide),show (3:Int).toNat=3 from rfl,e1,if_pos (show 2<=16777216 by lia)]
end
def Rot(l:Nat)(la:Option Nat):Prop:=l<3/\(la=some l\/l=2/\la=none)
theorem Rot.eq(r:Rot l la):(List.range 3).map (fun s=>(l+1+s) % 3)=zH (List.range 3) la:=by
 obtain ⟨h1,rfl | ⟨rfl,rfl⟩⟩:=r
 ·exact (by decide:∀ l,l<3->(List.range 3).map (fun s=>(l+1+s) % 3)=zH (List.range 3) (some l)) l h1
 ·rfl
theorem Rot.step(r:Rot l la):∀ xs:List (Nat × D),(∀ x∈xs,x.1<3)->∃ l' la',kQ (.int l) xs=.int (l':Nat)/\kQ (jJ la) xs=jJ la'/\Rot l' la'
 | [],_=>⟨l,la,rfl,rfl,r⟩
 |x::xs,hx=>Rot.step (l:=x.1) (la:=some x.1) ⟨hx x (List.mem_cons_self ..),.inl rfl⟩ xs fun y hy=>hx y (List.mem_cons_of_mem _ hy)
theorem vS(c k:Int)(hk:0<k):∃ r:Nat,c % k=(r:Int)/\(r:Int)<k:=⟨(c % k).toNat,by have:=Int.emod_nonneg c (show k≠0 by lia);lia,by have:=Int.emod_nonneg c (show k≠0 by lia);have:=Int.emod_lt_of_pos c hk;lia⟩
def aK(u:Nat):List (Nat × Nat)->Nat
 | []=>u
 |p::r=>aK p.2 r
theorem qBe(h2:b<f)(h3:f<=3000):∀ (l:List (Nat × Nat)) (u:Nat),Abv u l->aK u l<b->Abv u (l++[(b,f)])/\aK u (l++[(b,f)])=f
 | [],u,_,h1=>⟨⟨h1,h2,h3,trivial⟩,rfl⟩
 |p::r,u,⟨a1,a2,a3,a4⟩,h1=>⟨⟨a1,a2,a3,(qBe h2 h3 r p.2 a4 h1).1⟩,(qBe h2 h3 r p.2 a4 h1).2⟩
section
variable {N m:Nat}{g:GS}{a:Nat}
theorem qBZ(F:Nat->List D->M D)(B:Nat)(w:WG N g)(c:Int)(u:Nat)(x2 x3 x4:Option D):∀ (ks:List Nat) (l:List (Nat × Nat)) (h:AH) (s7 s8 s9:Option D),(∀ k∈ks,k<3)->h[a]?=some (.ins qF (g.fs m))->l.length+ks.length<=3->Abv u l ->
  ∃ l' h' s6' s7' s8' s9',zJ (qV (.nm 7) (qB F B gJ)) (iD ks) [some (.int c),some (.ref a),x2,x3,x4,some (.tup (l.map qJ)),some (.int (aK u l)),s7,s8,s9] h=.nx [some (.int c),some (.ref a),x2,x3,x4,some (.tup (l'.map qJ)),s6',s7',s8',s9'] (h++h')/\l'.length<=3/\Abv u l'
 | [],l,h,s7,s8,s9,_,_,hl,ha=>⟨l,[],_,s7,s8,s9,by rw[List.append_nil];rfl,by simpa using hl,ha⟩
 |k::ks,l,h,s7,s8,s9,hk,hg,hl,ha=>by
  have hk3:=hk k (List.mem_cons_self ..);have hr:=fun j hj=>hk j (List.mem_cons_of_mem k hj);simp only[List.length_cons] at hl;show ∃ l' h' s6' s7' s8' s9',SR.turn (qV (.nm 7) (qB F B gJ) (.int k) _ h) _=_/\_;rw[kA]
  obtain ⟨v,v1,v2,v3⟩:∃ v:Int,0<v/\v<1073741824/\((ixN 3 (k:Int)).bind fun j=>[D.int 5628,.int 39396,.int 275772][j]?)=some (.int v):=by
   have:k=0\/k=1\/k=2:=by lia
   rcases this with rfl | rfl | rfl
   ·exact⟨5628,by lia,by lia,rfl⟩
   ·exact⟨39396,by lia,by lia,rfl⟩
   ·exact⟨275772,by lia,by lia,rfl⟩
  obtain ⟨y,y1,y2,y3⟩:∃ y:Int,0<y/\y<1073741824/\((ixN 3 (k:Int)).bind fun j=>[D.int 11,.int 130,.int 1690][j]?)=some (.int y):=by
   have:k=0\/k=1\/k=2:=by lia
   rcases this with rfl | rfl | rfl
   ·exact⟨11,by lia,by lia,rfl⟩
   ·exact⟨130,by lia,by lia,rfl⟩
   ·exact⟨1690,by lia,by lia,rfl⟩
  obtain ⟨r7,e7,_⟩:=vS (c / v) 7 (by lia);obtain ⟨r13,e13,_⟩:=vS (c / y) 13 (by lia);have sw:=w.sw;have tl:=w.tl;have hg1:=qK [O.lst [.int 5628,.int 39396,.int 275772]] hg;have hg2:=qK [O.lst [.int 11,.int 130,.int 1690]] hg1;generalize hA:aK u l=A at *;have eb:((A:Int)+1+(r7:Int))=((A+1+r7:Nat):Int):=by lia
  have ef:(if ((A+1+r7:Nat):Int)+1+(r13:Int)<(g.s:Int) then ((A+1+r7:Nat):Int)+1+(r13:Int) else (g.s:Int))=((min g.s (A+1+r7+1+r13):Nat):Int):=by
   split <;> lia
  by_cases q:A+1+r7<min g.s (A+1+r7+1+r13)
  ·obtain ⟨b1,b2⟩:=qBe q (by lia) l u ha (by rw[hA];lia);obtain ⟨l',h',s6',s7',s8',s9',e1,p1,p2⟩:=qBZ F B w c u x2 x3 x4 ks (l++[(A+1+r7,min g.s (A+1+r7+1+r13))]) (h++[.lst [.int 5628,.int 39396,.int 275772]]++[.lst [.int 11,.int 130,.int 1690]]) (some (.int k)) (some (.int (A+1+r7:Nat))) (some (.int (min g.s (A+1+r7+1+r13):Nat))) hr hg2 (by rw[List.length_append];simp only[List.length_cons,List.length_nil];lia) b1;rw[b2,List.map_append] at e1;refine⟨l',[.lst [.int 5628,.int 39396,.int 275772]]++([.lst [.int 11,.int 130,.int 1690]]++h'),s6',s7',s8',s9',?_,p1,p2⟩;rw[<- List.append_assoc,<- List.append_assoc,<- e1];have d1:decide (((A+1+r7:Nat):Int)<((min g.s (A+1+r7+1+r13):Nat):Int))=true:=decide_eq_true (by lia);simp! only [gJ,qFj, *,if_pos (show 3<=16777216 by lia),qY,zV,List.length_cons,List.length_nil,Option.bind_some,v3,if_pos (And.intro v1 v2),if_pos (show (0:Int)<7 by lia),e7,eb,hg1,uZ,y3,if_pos (And.intro y1 y2),if_pos (show (0:Int)<13 by lia),e13,ef,d1,List.length_map,if_pos (show 2<=16777216 by lia),if_pos (show 1<=16777216 by lia),if_pos (show l.length<=16777215 by lia)];rfl
  ·obtain ⟨l',h',s6',s7',s8',s9',e1,p1,p2⟩:=qBZ F B w c u x2 x3 x4 ks l (h++[.lst [.int 5628,.int 39396,.int 275772]]++[.lst [.int 11,.int 130,.int 1690]]) (some (.int k)) (some (.int (A+1+r7:Nat))) (some (.int (min g.s (A+1+r7+1+r13):Nat))) hr hg2 (by lia) ha;rw[hA] at e1;refine⟨l',[.lst [.int 5628,.int 39396,.int 275772]]++([.lst [.int 11,.int 130,.int 1690]]++h'),s6',s7',s8',s9',?_,p1,p2⟩;rw[<- List.append_assoc,<- List.append_assoc,<- e1];have d1:decide (((A+1+r7:Nat):Int)<((min g.s (A+1+r7+1+r13):Nat):Int))=false:=decide_eq_false (by lia);simp! only [gJ, *,if_pos (show 3<=16777216 by lia),qY,zV,List.length_cons,List.length_nil,Option.bind_some,v3,if_pos (And.intro v1 v2),if_pos (show (0:Int)<7 by lia),e7,eb,hg1,uZ,y3,if_pos (And.intro y1 y2),if_pos (show (0:Int)<13 by lia),e13,ef,d1];rfl
theorem qL6(B n:Nat)(w:WG N g)(c:Int)(v:Bool)(hg:h[a]?=some (.ins qF (g.fs m))):∃ u lm l h',qA fns B (n+1) qNb [.int c,.ref a,.bl v] h=.ok (.tup [.int (u:Nat),.int (lm:Nat),.tup (l.map qJ)]) (h++h')/\u<=3000/\lm<=3000/\l.length<=3/\Abv u l:=by
 rw[qQ3];have sw:=w.sw;have tl:=w.tl;obtain ⟨z,z1,z2⟩:∃ z:Nat,(g.s:Int)+1+b2i v=(z:Int)/\1<=z/\z<=3000:=⟨(g.s:Int).toNat+1+(b2i v).toNat,by cases v <;> (unfold b2i;simp),by lia,by cases v <;> (unfold b2i;simp;lia)⟩;obtain ⟨u,e1,u1⟩:=vS c (z:Int) (by lia);obtain ⟨r,e2,r1⟩:=vS (c / 7) 201 (by lia);obtain ⟨j,e3,j1⟩:=vS (c / 1407) 4 (by lia)
 obtain ⟨lm,e4,l4⟩:∃ lm:Nat,(if (r:Int) > (u:Int)-1 then (r:Int) else (u:Int)-1)=(lm:Int)/\lm<=3000:=by
  by_cases q:(r:Int) > (u:Int)-1
  ·exact⟨r,by rw[if_pos q],by lia⟩
  ·exact⟨u-1,by rw[if_neg q];lia,by lia⟩
 obtain ⟨l',h',s6',s7',s8',s9',e5,p1,p2⟩:=qBZ (qA fns B n) B w c u (some (.bl v)) (some (.int u)) (some (.int lm)) (List.range j) [] h none none none (fun k hk=>by have:=List.mem_range.mp hk;lia) hg (by simp;lia) trivial;refine⟨u,lm,l',h',?_,by lia,l4,p1,p2⟩;have e5:zJ (qV (.nm 7) (qB (qA fns B n) B gJ)) (kC 0 j) [some (.int c),some (.ref a),some (.bl v),some (.int u),some (.int lm),some (.tup []),some (.int u),none,none,none] h=_:=(congrArg (fun x=>zJ _ x _ h) (qEF j)).trans e5;have pz:(0:Int)<(z:Int):=by lia
 have z1:(g.s:Int)+1+(if v=true then 1 else 0)=(z:Int):=z1;simp! only [qAA,qFi, *,hg,uZ,z1,if_pos pz,e1,if_pos (show (0:Int)<7/\(7:Int)<1073741824 by lia),if_pos (show (0:Int)<201 by lia),e2,e4,if_pos (show 0<=16777216 by lia),if_pos (show (0:Int)<1407/\(1407:Int)<1073741824 by lia),if_pos (show (0:Int)<4 by lia),e3,if_pos (show zU (j:Int) by unfold zU;lia),Int.toNat_natCast,e5,if_pos (show 3<=16777216 by lia)]
end
def ALL:Tx:=[32,33,34,35,36,38,39,40,41,42,43,44,45,46,47,48,49,50,51,52,53,54,55,56,57,58,59,60,61,62,63,64,65,66,67,68,69,70,71,72,73,74,75,76,77,78,79,80,81,82,83,84,85,86,87,88,89,90,91,92,93,94,95,96,97,98,99,100,101,102,103,104,105,106,107,108,109,110,111,112,113,114,115,116,117,118,119,120,121,122,123,124,125,126]
theorem qUL:∀ c∈ALL,okC c=true:=by decide
theorem qM5(i:Int):ixN 94 (i % 94)=some (i % 94).toNat:=by
 have h1:=Int.emod_nonneg i (show (94:Int)≠0 by lia);have h2:=Int.emod_lt_of_pos i (show (0:Int)<94 by lia);unfold ixN;rw[if_pos h1,if_pos (by lia)]
theorem qGk(i:Int):ALL[(i % 94).toNat]?=some (ALL.getD (i % 94).toNat 0):=by
 have h1:=Int.emod_nonneg i (show (94:Int)≠0 by lia);have h2:=Int.emod_lt_of_pos i (show (0:Int)<94 by lia);rw[List.getD_eq_getElem?_getD,List.getElem?_eq_getElem (show (i % 94).toNat<94 by lia),Option.getD_some]
theorem qDD(f:D->M (Option D))(r:D->D):∀ (xs:List D) (h:AH),(∀ x∈xs,f x h=.ok (some (r x)) h)->zL f xs h=.ok (xs.map r) h
 | [],h,_=>rfl
 |x::xs,h,H=>by
  unfold zL;simp! only [H x (List.mem_cons_self ..),qDD f r xs h fun y hy=>H y (List.mem_cons_of_mem _ hy),List.map_cons]
def sgn(c:Int)(k:Int):Nat:=ALL.getD ((c+7*k+k*k / 3) % 94).toNat 0
theorem qIK(c k:Int):okC (sgn c k)=true:=qUL _ (List.mem_of_getElem? (qGk _))
def qCy(c:Int):D->D
 | .int v=>.str [sgn c v]
 |d=>d
theorem qBw(f:Nat->Nat):∀ ks:List Nat,jO (ks.map fun k=>D.str [f k])=some (ks.map fun k=>[f k])
 | []=>rfl
 |k::r=>by rw[List.map_cons,jO,qBw f r];rfl
theorem qDl(f:Nat->Nat):∀ ks:List Nat,qX [] (ks.map fun k=>[f k])=ks.map f
 | []=>rfl
 | [k]=>rfl
 |k::j::r=>by
  have ih:=qDl f (j::r);rw[List.map_cons] at ih;rw[List.map_cons,List.map_cons,qX,ih];rfl
theorem qMz(f:Nat->Nat)(ks:List Nat):jY [] (ks.map fun k=>[f k])=ks.length:=by
 unfold jY;rw[List.map_map,List.length_nil,Nat.mul_zero,Nat.add_zero]
 induction ks with
 |nil=>rfl
 |cons k r ih=>rw[List.map_cons,List.sum_cons,ih,List.length_cons];show 1+r.length=_;lia
def sgs(c:Int)(m:Nat):Tx:=(List.range m).map fun k:Nat=>sgn c k
theorem qIJ(c:Int)(m:Nat):(sgs c m).all okC=true/\(sgs c m).length=m:=⟨List.all_eq_true.mpr fun x hx=>by
  obtain ⟨k,_,rfl⟩:=List.mem_map.mp hx
  exact qIK c k,by unfold sgs;simp⟩
theorem qLs(B n:Nat)(c:Int)(m:Nat)(hm:m<=1000)(h:AH):∃ g,qA fns B (n+1) qNW [.int c,.int m] h=.ok (.str (sgs c m)) (h++g):=by
 rw[qQz];have hs:zU (m:Int):=by unfold zU;lia
 have em:zL (jI (den (qA fns B n) tO) [some (.int c),some (.int m),some (.str ALL)]) (iD (List.range m)) h=.ok ((iD (List.range m)).map (qCy c)) h:=by
  refine qDD _ _ _ _ fun x hx=>?_;unfold iD at hx;obtain ⟨k,hk,rfl⟩:=List.mem_map.mp hx;have hk:=List.mem_range.mp hk;have b1:vR 7 (k:Int):=qC9 (by lia);have b2:vR (k:Int) (k:Int):=qC9 (by lia)
  have e1:((ixN ALL.length ((c+7*(k:Int)+(k:Int)*(k:Int) / 3) % 94)).bind fun j=>ALL[j]?)=some (sgn c k):=by
   show ((ixN 94 _).bind fun j=>ALL[j]?)=_;rw[qM5,Option.bind_some,qGk];rfl
  rw[wB];simp! only [tO, *,if_pos b1,if_pos b2,show (0:Int)<3 by lia,show (3:Int)<1073741824 by lia,and_self,show (0:Int)<94 by lia,show ALL.length<=16777216 by decide,e1];rfl
 have ex:(iD (List.range m)).map (qCy c)=(List.range m).map fun k:Nat=>D.str [sgn c k]:=by
  unfold iD;rw[List.map_map];rfl
 rw[ex] at em;refine⟨[.lst ((List.range m).map fun k:Nat=>D.str [sgn c k])],?_⟩;unfold ALL at em;simp! only [tP, *,if_pos hs,Int.toNat_natCast,qEF,vD,List.length_range,if_pos (show m<16777216 by lia),em,newL,wY,wV,List.length_map,if_pos (show m<=16777216 by lia),qY,zV,Option.bind_some,qBw,qMz,qDl];rfl
section
variable {p q gd td m:Nat}{b:Int}{h:AH}{sl:D}{as:List Nat}{gs:List GS}
theorem uJ(B n:Nat)(H:Ho p q gd td m b h sl as gs){k:Nat}(ha:as[k]?=some a):qA fns B (n+2) qN6 [.ref p,.int k] h=.ok (.ref a) h:=by
 rw[qRe];have gn:=vY H.hg;have gi:ixK gd (.int k) h=.ok (.ref a) h:=by unfold ixK;rw[H.hg];simp only[uM ha]
 have gh:kT gd (.int k) h=.ok (.bl false) h:=by unfold kT;rw[H.hg];simp only[uM ha];rfl
 have e:qA fns B (n+1) 59 [.ref gd,.int k] h=.ok (.ref a) h:=by
  rw[qRK];simp! only [qAh,qF1,qF2, *,gn,Option.bind_none,gh,gi]
 simp! only [qBH, *,H.hp,vE,e]
end
theorem qC8(a b:Nat):mx (a:Int) (b:Int)=((max a b:Nat):Int):=by unfold mx;split <;> lia
section
variable {N:Nat}{g:GS}
theorem WG.up{M:Nat}(w:WG N g)(h:N<=M):WG M g:=⟨w.tl,w.tk,w.sl,w.sw,w.ll,w.cl,w.gq,by have:=w.ql;lia,w.ee⟩
theorem qOo(m:Nat)(w:WG N g)(hN:N<=60)(u v:Nat)(hv:v<=3000)(l:List (Nat × Nat))(hl:l.length<=3):∃ g',WG (N+1) g'/\∀ (B n:Nat) (h:AH) (a:Nat),1000<=B->h[a]?=some (.ins qF (g.fs m))->qA fns B (n+5) eB [.ref a,.int u,.int v,.tup (l.map qJ)] h=.ok .non (h.set a (.ins qF (g'.fs m))):=by
 have tl:=w.tl;have ql:=w.ql;have el:l.map qJ=spL (l.map fun p=>((p.1:Int),(p.2:Int))):=by unfold spL;rw[List.map_map];rfl
 rw[el];have ll:(l.map fun p=>((p.1:Int),(p.2:Int))).length<=3:=by rw[List.length_map];exact hl
 generalize (l.map fun p=>((p.1:Int),(p.2:Int)))=r at ll
 by_cases hb:gF g.t g.e u v
 ·exact⟨g,w.up (by lia),fun B n h a hB hi=>by
   rw[wH hi]
   exact qMO hi (by lia) u v _ hb⟩
 ·refine⟨{ g with c:=max g.c u,l:=max g.l v,q:=kGo ((max g.c u:Nat):Int) g.t.length (zG ((max g.c u:Nat):Int) g.q) r,ih:=true,dn:=g.e&&(((max g.c u:Nat):Int) == (g.t.length:Int)+1) },?_,fun B n h a hB hi=>?_⟩
  ·have h1:=sL ((max g.c u:Nat):Int) g.q;have hk:=qDj ((max g.c u:Nat):Int) g.t.length r (zG ((max g.c u:Nat):Int) g.q);have hg:=mM ((max g.c u:Nat):Int) g.t.length (by lia) r (zG ((max g.c u:Nat):Int) g.q) (GoodR.weak (by lia) (sK ((max g.c u:Nat):Int) w.gq).1)
   have hu:(u:Int)<=g.t.length+1:=by
    unfold gF at hb;split at hb <;> lia
   have h2:=w.cl;have h3:=w.ll;have h4:=w.sl
   exact⟨tl,w.tk,by show g.s<=max g.l v;lia,w.sw,by show max g.l v<=3000;lia,by show max g.c u<=2001;lia,hg,by show (kGo _ _ _ _).length<=_;lia,w.ee⟩
  ·have e1:=qMP (B:=B) (n:=n) hi w.gq (by lia) (by lia) u v r (by lia) (by lia) hb;rw[qC8,qC8] at e1;exact e1
theorem aF:((306712044914:Nat) == zC)=false:=by decide
theorem qOn(m:Nat)(w:WG N g)(cell:Int):∃ (ok:Bool) (g':GS),WG N g' /\
  (∀ (B n:Nat) (h:AH) (a:Nat),h[a]?=some (.ins qF (g.fs m))->∃ h',qA fns B (n+2) qNZ [.ref a,.int cell] h=.ok (.bl ok) h'/\h'[a]?=some (.ins qF (g'.fs m))/\Fr a h h') /\
  (∀ (B n p q gd td:Nat) (b:Int) (h:AH) (sl:D) (as:List Nat) (gs:List GS) (k a:Nat),Ho p q gd td m b h sl as gs->as[k]?=some a->h[a]?=some (.ins qF (g.fs m))->∃ h',qA fns B (n+4) qNY [.ref p,.int k,.int cell] h=.ok (.bl ok) h'/\h'[a]?=some (.ins qF (g'.fs m))/\Fr a h h'):=by
 have tl:=w.tl;have c5:(0:Int)<5:=by lia
 have c5':(0:Int)<5/\(5:Int)<1073741824:=by lia
 have FE1:List.contains FE gL=true:=by decide
 have FE2:List.contains FE iG=true:=by decide
 rcases Bool.eq_false_or_eq_true ((cell % 5) == 0) with z | z
 ·-- finish
  rcases Bool.eq_false_or_eq_true g.e with d | d
  ·refine⟨false,g,w,fun B n h a hi=>⟨h,?_,hi,⟨Nat.le_refl _,fun _ _ _=>rfl⟩⟩,fun B n p q gd td b h sl as gs k a H ha hi=>⟨h,?_,hi,⟨Nat.le_refl _,fun _ _ _=>rfl⟩⟩⟩
   ·rw[bA];have e1:=dE B n h a m g.t g.s g.c g.l (spL g.q) g.e g.es g.ih g.dn hi;rw[if_pos d] at e1;simp! only [yS,gI,tV,fL, *,if_pos c5,z,hi,eK,kZ,e1,FE1]
   ·rw[aZ];have e1:=dE B (n+1) h a m g.t g.s g.c g.l (spL g.q) g.e g.es g.ih g.dn hi;rw[if_pos d] at e1
    have e2:qA fns B (n+3) 68 [.ref p,.int k] h=.exc gL h:=by
     rw[qFH];simp! only [hZ, *,H.hp,uT,tbh,uJ B n H ha,hi,eK,kZ,e1]
    simp! only [yR,gH,tT,fJ, *,if_pos c5,z,H.hp,qEN,gQ,aF,e2,FE1]
  ·refine⟨true,{ g with e:=true },⟨tl,w.tk,w.sl,w.sw,w.ll,w.cl,w.gq,w.ql,fun _=>rfl⟩,fun B n h a hi=>⟨h.set a (.ins qF (({ g with e:=true }:GS).fs m)),?_,zS hi _,Fr.set _ _ _⟩,fun B n p q gd td b h sl as gs k a H ha hi=>⟨h.set a (.ins qF (({ g with e:=true }:GS).fs m)),?_,zS hi _,Fr.set _ _ _⟩⟩
   ·rw[bA];have e1:=dE B n h a m g.t g.s g.c g.l (spL g.q) g.e g.es g.ih g.dn hi;rw[if_neg (by rw[d];simp)] at e1;simp! only [yS,gI,tV,tU, *,if_pos c5,z,hi,eK,kZ,e1];rfl
   ·rw[aZ];have e1:=dE B (n+1) h a m g.t g.s g.c g.l (spL g.q) g.e g.es g.ih g.dn hi;rw[if_neg (by rw[d];simp)] at e1
    have e2:qA fns B (n+3) 68 [.ref p,.int k] h=.ok .non (h.set a (.ins qF (({ g with e:=true }:GS).fs m))):=by
     rw[qFH];simp! only [hZ, *,H.hp,uT,tbh,uJ B n H ha,hi,eK,kZ,e1];rfl
    simp! only [yR,gH,tT,tR, *,if_pos c5,z,H.hp,qEN,gQ,aF,e2]
 ·-- write
  obtain ⟨r,e40,r40⟩:=vS (cell / 5) 40 (by lia);have er:(1:Int)+(r:Int)=((1+r:Nat):Int):=by lia
  have sg:=fun B n h=>qLs B n (cell / 5) (1+r) (by lia) h;obtain ⟨y1,y2⟩:=qIJ (cell / 5) (1+r);generalize sgs (cell / 5) (1+r)=y at sg y1 y2;have mw:=fun B n h a hi=>qLi B n h a m g.t y g.s g.c g.l (spL g.q) g.e g.es g.ih g.dn hi tl (by lia);rcases Bool.eq_false_or_eq_true g.e with d | d
  ·refine⟨false,g,w,fun B n h a hi=>?_,fun B n p q gd td b h sl as gs k a H ha hi=>?_⟩
   ·obtain ⟨k1,e0⟩:=sg B n h;have e1:=mw B n (h++k1) a (qK _ hi);rw[if_pos d] at e1;refine⟨h++k1,?_,qK _ hi,Fr.app _ _ _⟩;rw[bA];simp! only [yS,gI,fM,fL, *,if_pos c5,z,hi,uY,kZ,if_pos c5',if_pos (show (0:Int)<40 by lia),e40,er,e0,e1,FE1]
   ·obtain ⟨k1,e0⟩:=sg B (n+2) h;have e1:=mw B (n+1) (h++k1) a (qK _ hi);rw[if_pos d] at e1;have H1:=H.app k1
    have e2:qA fns B (n+3) 67 [.ref p,.int k,.str y] (h++k1)=.exc gL (h++k1):=by
     rw[sP];simp! only [bJ, *,H1.hp,uT,tbh,uJ B n H1 ha,qK k1 hi,uY,kZ,e1]
    refine⟨h++k1,?_,qK _ hi,Fr.app _ _ _⟩;rw[aZ];simp! only [yR,gH,fK,fJ, *,if_pos c5,z,H.hp,nE,gQ,aF,if_pos c5',if_pos (show (0:Int)<40 by lia),e40,er,e0,e2,FE1]
  ·rcases Bool.eq_false_or_eq_true (yQ g.t y) with qq | q
   ·refine⟨false,g,w,fun B n h a hi=>?_,fun B n p q gd td b h sl as gs k a H ha hi=>?_⟩
    ·obtain ⟨k1,e0⟩:=sg B n h;have e1:=mw B n (h++k1) a (qK _ hi);rw[if_neg (by rw[d];simp),if_pos qq] at e1;refine⟨h++k1,?_,qK _ hi,Fr.app _ _ _⟩;rw[bA];simp! only [yS,gI,fM,fL, *,if_pos c5,z,hi,uY,kZ,if_pos c5',if_pos (show (0:Int)<40 by lia),e40,er,e0,e1,FE2]
    ·obtain ⟨k1,e0⟩:=sg B (n+2) h;have e1:=mw B (n+1) (h++k1) a (qK _ hi);rw[if_neg (by rw[d];simp),if_pos qq] at e1;have H1:=H.app k1
     have e2:qA fns B (n+3) 67 [.ref p,.int k,.str y] (h++k1)=.exc iG (h++k1):=by
      rw[sP];simp! only [bJ, *,H1.hp,uT,tbh,uJ B n H1 ha,qK k1 hi,uY,kZ,e1]
     refine⟨h++k1,?_,qK _ hi,Fr.app _ _ _⟩;rw[aZ];simp! only [yR,gH,fK,fJ, *,if_pos c5,z,H.hp,nE,gQ,aF,if_pos c5',if_pos (show (0:Int)<40 by lia),e40,er,e0,e2,FE2]
   ·have q':¬ yQ g.t y=true:=by rw[q];simp
    have bl:g.t.length+y.length<=2000:=by
     have:=of_decide_eq_false (show decide _=false from q)
     lia
    have wg':WG N { g with t:=g.t++y }:=⟨by rw[List.length_append];exact bl,by rw[List.all_append,w.tk,y1];rfl,w.sl,by show g.s<=(g.t++y).length;rw[List.length_append];have:=w.sw;lia,w.ll,w.cl,w.gq,w.ql,w.ee⟩;refine⟨true,{ g with t:=g.t++y },wg',fun B n h a hi=>?_,fun B n p q gd td b h sl as gs k a H ha hi=>?_⟩
    ·obtain ⟨k1,e0⟩:=sg B n h;have e1:=mw B n (h++k1) a (qK _ hi);rw[if_neg (by rw[d];simp),if_neg q'] at e1;refine⟨(h++k1).set a (.ins qF (({ g with t:=g.t++y }:GS).fs m)),?_,zS (qK _ hi) _,(Fr.app _ _ _).trans (Fr.set _ _ _)⟩;rw[bA];simp! only [yS,gI,fM,tU, *,if_pos c5,z,hi,uY,kZ,if_pos c5',if_pos (show (0:Int)<40 by lia),e40,er,e0,e1];rfl
    ·obtain ⟨k1,e0⟩:=sg B (n+2) h;have e1:=mw B (n+1) (h++k1) a (qK _ hi);rw[if_neg (by rw[d];simp),if_neg q'] at e1;have H1:=H.app k1
     have e2:qA fns B (n+3) 67 [.ref p,.int k,.str y] (h++k1)=.ok .non ((h++k1).set a (.ins qF (({ g with t:=g.t++y }:GS).fs m))):=by
      rw[sP];simp! only [bJ, *,H1.hp,uT,tbh,uJ B n H1 ha,qK k1 hi,uY,kZ,e1];rfl
     refine⟨(h++k1).set a (.ins qF (({ g with t:=g.t++y }:GS).fs m)),?_,zS (qK _ hi) _,(Fr.app _ _ _).trans (Fr.set _ _ _)⟩;rw[aZ];simp! only [yR,gH,fK,tR, *,if_pos c5,z,H.hp,nE,gQ,aF,if_pos c5',if_pos (show (0:Int)<40 by lia),e40,er,e0,e2]
end
section
variable {p q gd td m:Nat}{b:Int}{h:AH}{sl:D}{as:List Nat}{gs:List GS}
theorem qMD(B n:Nat)(k u v:Nat)(l:List (Nat × Nat))(hq:h[q]?=some (.ins zQ (mtg 3 true))):qA fns B (n+1) nA [.ref q,jZ k u v l] h=.ok (.tup [.bl false,.bl true]) h:=by
 rw[qFE];have i1:((ixN 7 1).bind fun j=>[D.str ANS,.int 3,.int 1,.int k,.int u,.int v,.tup (l.map qJ)][j]?)=some (.int 3):=rfl;have i2:((ixN 7 2).bind fun j=>[D.str ANS,.int 3,.int 1,.int k,.int u,.int v,.tup (l.map qJ)][j]?)=some (.int 1):=rfl;simp! only [bI,fU,fV,qAw,fW, *,jZ,i1,i2,hq,uF,aA,show decide ((3:Int)<3)=false from rfl,show decide ((1:Int)<1)=false from rfl,show ((1:Int) == 1)=true from rfl,clq,lI,show 3<1000 by lia,lH,if_pos (show 2<=16777216 by lia),wH hq]
theorem qEO(B n:Nat)(j:Nat)(xs:List D)(hg:qC h j=some xs)(hl:xs.length<=10)(hpc:∀ d∈xs,pc d)(x0 x1 x2 x3 x4 x5:Option D) :
  ∃ g i,qB (qA fns B (n+8)) B qBB [x0,x1,x2,x3,x4,x5,some (.ref j)] h=.rt (.ref i) (h++g)/\(h++g)[i]?=some (.lst (xs.map wrD))/\h.length<=i:=by
 obtain ⟨g,e3,lv⟩:=cZ (jI (den (qA fns B (n+8)) qBC) [x0,x1,x2,x3,x4,x5,some (.ref j)]) wrD j xs h hg (by lia) (fun x hx G _=>by
  obtain ⟨g,e⟩:=aH B (n+1) (hpc x hx) G;refine⟨g,?_⟩;rw[wB]
  simp! only [qBC, *,e])
 refine⟨g++[.lst (xs.map wrD)],(h++g).length,?_,by rw[<- List.append_assoc,qW];rfl,by simp⟩;simp! only [qBB, *,hg,if_pos lv,e3,newL,wY,wV,List.length_map,if_pos (show xs.length<=16777216 by lia),List.append_assoc]
theorem qMG(B n:Nat)(hB:1000<=B)(H:Ho p q gd td m b h sl as gs){g g':GS}(hk:k<50)(ha:as[k]?=some a)(hi:h[a]?=some (.ins qF (g.fs m)))(u v:Nat)(hu:u<=3000)(hv:v<=3000)(hl:l.length<=3)(hab:Abv u l)
  (ea:∀ (B n:Nat) (h:AH) (a:Nat),1000<=B->h[a]?=some (.ins qF (g.fs m))->qA fns B (n+5) eB [.ref a,.int u,.int v,.tup (l.map qJ)] h=.ok .non (h.set a (.ins qF (g'.fs m)))) :
  ∃ j h',qA fns B (n+9) qEB [.ref p,wrD (jZ k u v l)] h=.ok (.ref j) h'/\h'[j]?=some (.lst [])/\h'[a]?=some (.ins qF (g'.fs m))/\Fr a h h'/\h.length<=j:=by
 rw[qFG];obtain ⟨g0,e0⟩:=qDM B n (qCq k u v hk hu hv (show l.length<=8 by lia) hab) (.inr rfl) h;have e0:qA fns B (n+8) 46 [wrD (jZ k u v l)] h=.ok (jZ k u v l) (h++g0):=e0;have H0:=H.app g0;have e1:=qMD B (n+7) k u v l H0.hq;have hi0:=qK g0 hi;have fr0:Fr a h (h++g0):=Fr.app _ _ _;generalize h++g0=G at *;have H2:=H0.app [.lst []];have hi2:=qK [O.lst []] hi0;have e2:=ea B (n+1) _ a hB hi2;have gn:=vY H2.hg;have gk:eE gd (.int k) (G++[.lst []])=.ok (.ref a) (G++[.lst []]):=by unfold eE;rw[H2.hg];simp only[uM ha,Option.getD_some]
 have fr2:Fr a G ((G++[O.lst []]).set a (.ins qF (g'.fs m))):=(Fr.app _ _ _).trans (Fr.set _ _ _);have hiW:=zS hi2 (.ins qF (g'.fs m));have lW:=set_len' (G++[O.lst []]) a (.ins qF (g'.fs m))
 have gW:((G++[O.lst []]).set a (.ins qF (g'.fs m)))[G.length]?=some (.lst []):=by
  rw[List.getElem?_set_ne (fun z=>by subst z;have:=(List.getElem?_eq_some_iff.mp hi0).1;lia),qW];rfl
 generalize (G++[O.lst []]).set a (.ins qF (g'.fs m))=W at *;have i3:((ixN 7 3).bind fun j=>[D.str ANS,.int 3,.int 1,.int k,.int u,.int v,.tup (l.map qJ)][j]?)=some (.int k):=rfl;have i4:((ixN 7 4).bind fun j=>[D.str ANS,.int 3,.int 1,.int k,.int u,.int v,.tup (l.map qJ)][j]?)=some (.int u):=rfl;have i5:((ixN 7 5).bind fun j=>[D.str ANS,.int 3,.int 1,.int k,.int u,.int v,.tup (l.map qJ)][j]?)=some (.int v):=rfl;have i6:((ixN 7 6).bind fun j=>[D.str ANS,.int 3,.int 1,.int k,.int u,.int v,.tup (l.map qJ)][j]?)=some (.tup (l.map qJ)):=rfl
 have e3:qA fns B (n+7) 83 [.ref p,jZ k u v l] (G++[.lst []])=.ok .non W:=by
  rw[qRh];simp! only [qBK,qGN, *,jZ,H2.hp,vE,H2.hg,i3,gk,hi2,qEg,tbg,i4,i5,i6,e2]
 have e4:qA fns B (n+8) 80 [.ref p,jZ k u v l] (G++[.lst []])=.ok (.ref W.length) (W++[.lst []]):=by
  rw[qFF];have i0:((ixN 7 0).bind fun j=>[D.str ANS,.int 3,.int 1,.int k,.int u,.int v,.tup (l.map qJ)][j]?)=some (.str ANS):=rfl;have w1:(ANS == [100,97,116,97])=false:=by decide
  have w2:(ANS == [101,110,100])=false:=by decide
  have w3:(ANS == [97,110,115,119,101,114])=true:=by decide
  have e3:qA fns B (n+7) 83 [.ref p,.tup [D.str ANS,.int 3,.int 1,.int k,.int u,.int v,.tup (l.map qJ)]] (G++[.lst []])=.ok .non W:=e3;simp! only [fX,qA0,qGG,qA1, *,jZ,i0,w1,w2,w3,H2.hp,qOR,tbh,e3]
 have g5:(W++[O.lst []])[G.length]?=some (.lst []):=qK _ gW;have g6:(W++[O.lst []])[W.length]?=some (.lst []):=by rw[qW];rfl
 have g7:(W++[O.lst []]).set G.length (.lst [])=W++[.lst []]:=wH g5;have gl:qC (G++[.lst []]) G.length=some []:=by rw[qY];rfl
 obtain ⟨g8,i,e8,p8,l8⟩:=qEO (h:=W++[O.lst []]) B n G.length [] (zT g5) (by simp) (fun d hd=>by cases hd) (some (.ref p)) (some (wrD (jZ k u v l))) (some (jZ k u v l)) (some (.tup [.bl false,.bl true])) (some (.bl false)) (some (.bl true));have fr:=fr0.trans (fr2.trans ((Fr.app _ _ [.lst []]).trans (Fr.app _ _ g8)));refine⟨i,W++[.lst []]++g8,?_,p8,qK _ (qK _ hiW),fr,Nat.le_trans (fr0.trans (fr2.trans (Fr.app _ _ [.lst []]))).1 l8⟩;generalize jZ k u v l=X at e0 e1 e3 e4 e8 ⊢;simp! only [hV,qBG,qBE,qBF,qA9,qBA,qBD, *,e0,H0.hp,aO,H0.hq,qCi,tbq,e1,show ((ixN 2 0).bind fun j=>[D.bl false,.bl true][j]?)=some (.bl false) from rfl,show ((ixN 2 1).bind fun j=>[D.bl false,.bl true][j]?)=some (.bl true) from rfl,gl,H2.hp,qEK,tbh,e4,g5,g6,List.append_nil,List.length_nil,if_pos (show 0+0<=16777216 by lia),g7,e8]
end
theorem qEi(h:AH):∀ q:SP,eqW (eqD h 38) (spL q) (spL q)=some true
 | []=>rfl
 |p::r=>by
  have ih:=qEi h r
  have e:eqD h 38 (spD p) (spD p)=some true:=by
   show (match some (p.1 == p.1),(match some (p.2 == p.2),some true with | some a,some b=>some (a&&b) | _,_=>none) with | some a,some b=>some (a&&b) | _,_=>none)=some true;rw[beq_self_eq_true,beq_self_eq_true];rfl
  show (match eqD h 38 (spD p) (spD p),eqW (eqD h 38) (spL r) (spL r) with | some a,some b=>some (a&&b) | _,_=>none)=some true;rw[e,ih];rfl
theorem qO2(h:AH)(g:GS):eqW (eqD h 39) [.str g.t,.int g.c,.int g.l,.tup (spL g.q)] [.str g.t,.int g.c,.int g.l,.tup (spL g.q)]=some true:=by
 show (match some (g.t == g.t),(match some ((g.c:Int) == g.c),(match some ((g.l:Int) == g.l),(match eqW (eqD h 38) (spL g.q) (spL g.q),some true with | some a,some b=>some (a&&b) | _,_=>none) with | some a,some b=>some (a&&b) | _,_=>none) with | some a,some b=>some (a&&b) | _,_=>none) with | some a,some b=>some (a&&b) | _,_=>none)=some true;rw[qEi h,beq_self_eq_true,beq_self_eq_true,beq_self_eq_true];rfl
section
variable {p q gd td m L:Nat}{b:Int}{h:AH}{sl:D}{as os:List Nat}{gs:List GS}
theorem qGd(B n:Nat)(H:Ho p q gd td m b h sl as gs)(O:Ow L m h os gs):∀ (ks:List Nat) (s2 s3 s4:Option D),(∀ k∈ks,k<gs.length)->∃ s2' s3' s4',zJ (qV (.nm 2) (qB (qA fns B (n+2)) B bB)) (iD ks) [some (.ref p),some (.ref L),s2,s3,s4] h=.nx [some (.ref p),some (.ref L),s2',s3',s4'] h
 | [],s2,s3,s4,_=>⟨s2,s3,s4,rfl⟩
 |k::r,s2,s3,s4,hk=>by
  have hkl:=hk k (List.mem_cons_self ..);have hgk:gs[k]?=some gs[k]:=List.getElem?_eq_getElem hkl;generalize gs[k]=g at hgk;obtain ⟨o,ho,hgo⟩:=O.get hgk;obtain ⟨x1,x2⟩:=O.ix ho;have ha:as[k]?=some (as[k]'(by rw[H.la];exact hkl)):=List.getElem?_eq_getElem _;generalize as[k]'(by rw[H.la];exact hkl)=a at ha;have hga:=H.gv k a g ha hgk;obtain ⟨s2',s3',s4',e⟩:=qGd B n H O r (some (.int k)) (some (.ref a)) (some (.ref o)) fun j hj=>hk j (List.mem_cons_of_mem k hj);refine⟨s2',s3',s4',?_⟩;show SR.turn (qV (.nm 2) (qB (qA fns B (n+2)) B bB) (.int k) _ h) _=_;rw[kA,<- e];simp! only [bB, *,H.hp,uT,tbh,uJ B n H ha,x1,Option.bind_some,x2,hga,hgo,eJ,qO0,qOz,qOy,if_pos (show 4<=16777216 by lia),qO2];rfl
theorem qMQ(B n:Nat)(H:Ho p q gd td m b h sl as gs)(O:Ow L m h os gs)(h3:gs.length=3):qA fns B (n+3) qNc [.ref p,.ref L] h=.ok (.bl true) h:=by
 rw[qQ4];obtain ⟨s2',s3',s4',e⟩:=qGd B n H O (List.range 3) none none none fun k hk=>by rw[h3];exact List.mem_range.mp hk
 have e:zJ (qV (.nm 2) (qB (qA fns B (n+2)) B bB)) (kC 0 3) [some (.ref p),some (.ref L),none,none,none] h=_:=e;simp! only [qAB,qFk, *,if_pos (show zU 3 by decide),show (3:Int).toNat=3 from rfl,e]
end
theorem qDk(c:Nat)(l:Tx):∀ (ws:List Tx) (w:Tx),qX [c] (w::ws++[l])=qX [c] (w::ws)++c::l
 | [],w=>by
  show w++[c]++l=w++c::l;rw[List.append_assoc];rfl
 |v::ws,w=>by
  have ih:=qDk c l ws v;rw[List.cons_append,uP c w (v::ws++[l]) (by simp),ih,uP c w (v::ws) (by simp),List.append_assoc];rfl
theorem qGo(hd:PD d)(hk:k<50):(wrT (pcD k d)).length<=405/\(((wrT (pcD k d)).take 3 == [101,110,100])=true->∃ s,(qR 32 (wrT (pcD k d)))[3]?=some s):=by
 obtain ⟨_,hp⟩:=cI hd k hk;obtain ⟨P,e1,e2,e3⟩:=iH hp;rw[e3];refine⟨(qBi e2).2,fun z=>?_⟩;have sh:=e2.1;cases sh with
 |hello a b=>exfalso;rcases hd with⟨a,y,rfl,_⟩ | ⟨a,rfl,_⟩ <;> (injection e1 with e1;injection e1 with e1 _;injection e1 with e1;exact absurd (show HELLO=_ from e1) (by decide))
 |ans a b c d e l _ _=>exfalso;rcases hd with⟨a,y,rfl,_⟩ | ⟨a,rfl,_⟩ <;> (injection e1 with e1;injection e1 with e1 _;injection e1 with e1;exact absurd (show ANS=_ from e1) (by decide))
 |data a b c d y _ _=>
  exfalso
  have e:wr ⟨DATA,[a,b,c,d],.sg y⟩=DATA++(32::qX [32] ([a,b,c,d].map txN++laW (.sg y))++[32]++kU (chk 7 (bod ⟨DATA,[a,b,c,d],.sg y⟩))):=by
   unfold wr;rw[show bod ⟨DATA,[a,b,c,d],.sg y⟩=DATA++32::qX [32] ([a,b,c,d].map txN++laW (.sg y)) from uP 32 DATA _ (by simp)];simp only[List.append_assoc]
  rw[e] at z;exact absurd (show (DATA.take 3 == [101,110,100])=true from z) (by decide)
 |fin a b c d=>
  have e:wr ⟨ENDW,[a,b,c,d],.no⟩=qX [32] (ENDW::[txN a,txN b,txN c,txN d]++[kU (chk 7 (bod ⟨ENDW,[a,b,c,d],.no⟩))]):=by
   rw[qDk];unfold wr;rw[List.append_assoc];rfl
  rw[e,List.cons_append,gX]
  ·exact⟨_,rfl⟩
  ·intro v hv;rcases List.mem_cons.mp hv with rfl | hv
   ·decide
   ·rcases List.mem_append.mp hv with hv | hv
    ·exact lO [a,b,c,d] v hv
    ·rw[List.mem_singleton.mp hv];exact fun z=>by have:=nJ z;lia
theorem qDG(f:D->M (Option D))(i:Nat)(xs:List D)(H:∀ x∈xs,∀ h,qC h i=some xs->∃ o g,f x h=.ok o (h++g)):∀ (n k:Nat) (h:AH),qC h i=some xs->n+k=xs.length+1->k<=xs.length->∃ ys g,zR f i n k h=.ok ys (h++g)/\ys.length+k<=xs.length
 |0,k,h,hg,hn,hk=>by lia
 |n+1,k,h,hg,hn,hkl=>by
  unfold zR;rw[hg];simp only
  by_cases hk:k<xs.length
  ·have e:xs[k]?=some xs[k]:=by simp[hk]
   rw[e];obtain ⟨o,g1,e1⟩:=H _ (List.getElem_mem hk) h hg;obtain ⟨ys,g2,e2,l2⟩:=qDG f i xs H n (k+1) (h++g1) (eC g1 hg) (by lia) hk;refine⟨o.toList++ys,g1++g2,?_,?_⟩
   ·simp only[M.bind_eq,e1,R.bind_ok,e2,M.ret_eq,List.append_assoc];cases o <;> rfl
   ·rw[List.length_append]
    have:o.toList.length<=1:=by cases o <;> simp
    lia
  ·have e:xs[k]?=none:=by simp;lia
   rw[e]
   exact⟨[],[],by rw[List.append_nil],by simp;lia⟩
section
variable {p m L ED t:Nat}{h:AH}{os:List Nat}{gs:List GS}
theorem qO6(F:Nat->List D->M D)(k:Nat)(hd:PD d)(hj:j<50)(env:List (Option D))(hl:env.length=11)(he:env[10]?=some (some (.int k)))(hk:k<3)(h:AH):∃ o g,jG (den F bD) (qM F bC) env (wrD (pcD j d)) h=.ok o (h++g):=by
 obtain ⟨w1,w2⟩:=qGo hd hj;unfold wrD;generalize wrT (pcD j d)=T at w1 w2;have v11:(env++[some (.str T)])[11]?=some (some (.str T)):=by rw[<- hl];simp
 have v10:(env++[some (D.str T)])[10]?=some (some (.int k)):=by rw[List.getElem?_append_left (by lia)];exact he
 have c3:qO T none (some 3)=T.take 3:=by
  unfold qO qZ;simp only[List.drop_zero,Nat.sub_zero];rw[if_neg (by lia)];rw[show ((3:Int).toNat)=3 from rfl];rw[List.take_eq_take_iff]
  lia
 unfold jG;rcases Bool.eq_false_or_eq_true (T.take 3 == [101,110,100]) with z | z
 ·obtain ⟨s,hs⟩:=w2 z;have hs:((qR 32 T).map D.str)[3]?=some (.str s):=by rw[List.getElem?_map,hs];rfl
  have hsl:=(List.getElem?_eq_some_iff.mp hs).1;have ix:((ixN ((qR 32 T).map D.str).length 3).bind fun j=>((qR 32 T).map D.str)[j]?)=some (.str s):=mP (k:=3) hs;have sl:=uD 32 T T.length [];have hz:(qR 32 T).length<=16777216:=by unfold qR;lia
  have lg:((k:Int).natAbs.log2<1920):=by
   have:k=0\/k=1\/k=2:=by lia
   rcases this with rfl | rfl | rfl <;> decide
  refine⟨if (s == txI k)=true then some (.str T) else none,[.lst ((qR 32 T).map D.str)],?_⟩;simp! only [bD,bC, *,v11,v10,if_pos (show T.length<=16777216 by lia),c3,z,if_pos (show T.length<=1000000 by lia),cJ,List.length_map,if_pos hz,qY,zV,Option.bind_some];rw[List.length_map] at ix;simp! only [ix,if_pos lg];rcases Bool.eq_false_or_eq_true (s == txI k) with y | y
  ·simp! only [y,v11]
  ·simp! only [y,v11]
 ·refine⟨none,[],?_⟩;rw[List.append_nil];simp! only [bD,bC, *,v11,if_pos (show T.length<=16777216 by lia),c3,z]
theorem qO5(F:Nat->List D->M D)(B:Nat)(O:Ow L m h os gs)(hw:∀ g∈gs,g.t.length<=2000)(h3:gs.length=3)(hE:h[ED]?=some (.dct kv))(kl:kv.length<=1000){xs:List (Nat × D)}(ht:h[t]?=some (.lst (xs.map fun x=>wrD (pcD x.1 x.2))))(hx:∀ x∈xs,x.1<3/\PD x.2)(xl:xs.length<=10){k:Nat}(hk:k<3)(x0 x1 x2 x4 x6 x7 x8:Option D)(dl:D) :
  ∃ kv' h',qB F B vH [x0,x1,x2,some (.ref L),x4,some (.ref ED),x6,x7,x8,some (.tup [.ref t,dl]),some (.int k)] h=.nx [x0,x1,x2,some (.ref L),x4,some (.ref ED),x6,x7,x8,some (.tup [.ref t,dl]),some (.int k)] h'/\h'[ED]?=some (.dct kv')/\kv'.length<=kv.length+1/\Fs [ED] h h':=by
 have hgk:gs[k]?=some (gs[k]'(by lia)):=List.getElem?_eq_getElem _;generalize gs[k]'(by lia)=g at hgk;have tl:=hw g (List.mem_of_getElem? hgk);obtain ⟨o,ho,hgo⟩:=O.get hgk;obtain ⟨y1,y2⟩:=O.ix ho;have gE:=vY hE;have hn:kT ED (.int k) h=.ok (.bl (!(zD kv (.int k)).isSome)) h:=by unfold kT;rw[hE]
 have stay:∃ kv' h',SR.nx [x0,x1,x2,some (D.ref L),x4,some (.ref ED),x6,x7,x8,some (.tup [.ref t,dl]),some (.int k)] h=.nx [x0,x1,x2,some (.ref L),x4,some (.ref ED),x6,x7,x8,some (.tup [.ref t,dl]),some (.int k)] h'/\h'[ED]?=some (.dct kv')/\kv'.length<=kv.length+1/\Fs [ED] h h':=⟨kv,h,rfl,hE,by lia,⟨Nat.le_refl _,fun _ _ _=>rfl⟩⟩;rcases Bool.eq_false_or_eq_true g.e with d1 | d1
 rotate_left
 ·simp! only [vH, *,y1,Option.bind_some,y2,hgo,eL,d1];exact stay
 rcases Bool.eq_false_or_eq_true ((g.s:Int) == (g.t.length:Int)) with d2 | d2
 rotate_left
 ·simp! only [vH, *,y1,Option.bind_some,y2,hgo,eL,d1,uZ,eJ,if_pos (show g.t.length<=16777216 by lia),d2];exact stay
 rcases Bool.eq_false_or_eq_true (!(zD kv (.int k)).isSome) with d3 | d3
 rotate_left
 ·simp! only [vH, *,y1,Option.bind_some,y2,hgo,eL,d1,uZ,eJ,if_pos (show g.t.length<=16777216 by lia),d2,gE,Option.bind_none,hn,d3];exact stay
 have gt:=zT ht;have lv:zN h t=xs.length+1:=by unfold zN;rw[gt,Option.getD_some,List.length_map]
 obtain ⟨ys,gg,e1,l1⟩:=qDG (jG (den F bD) (qM F bC) [x0,x1,x2,some (.ref L),x4,some (.ref ED),x6,x7,x8,some (.tup [.ref t,dl]),some (.int k)]) t (xs.map fun x=>wrD (pcD x.1 x.2)) (fun x hx' h _=>by
  obtain ⟨z,hz,rfl⟩:=List.mem_map.mp hx';obtain ⟨q1,q2⟩:=hx z hz
  exact qO6 F k q2 (by lia) _ rfl rfl hk h) (xs.length+1) 0 h gt (by rw[List.length_map]) (Nat.zero_le _)
 rw[List.length_map] at l1;have i0:((ixN 2 0).bind fun j=>[D.ref t,dl][j]?)=some (.ref t):=rfl;have gl:qC (h++gg++[.lst ys]) (h++gg).length=some ys:=by rw[qY];rfl
 have hE2:(h++gg++[Fy.O.lst ys])[ED]?=some (.dct kv):=qK _ (qK _ hE)
 have pre:qB F B vH [x0,x1,x2,some (.ref L),x4,some (.ref ED),x6,x7,x8,some (.tup [.ref t,dl]),some (.int k)] h=(if decide ((0:Int)<(ys.length:Int))=true then qB F B qAC [x0,x1,x2,some (.ref L),x4,some (.ref ED),x6,x7,x8,some (.tup [.ref t,dl]),some (.int k)] (h++gg++[.lst ys]) else SR.nx [x0,x1,x2,some (.ref L),x4,some (.ref ED),x6,x7,x8,some (.tup [.ref t,dl]),some (.int k)] (h++gg++[.lst ys])):=by
  simp! only [vH,qFm, *,y1,Option.bind_some,y2,hgo,eL,d1,uZ,eJ,if_pos (show g.t.length<=16777216 by lia),d2,gE,Option.bind_none,hn,d3,i0,gt,lv,if_pos (show xs.length+1<16777216 by lia),if_pos (show xs.length<16777215 by lia),e1,newL,wY,wV,if_pos (show ys.length<=16777216 by lia),gl]
 rw[pre];have fs:Fs [ED] h (h++gg++[.lst ys]):=(Fs.app _ _ _).trans (Fs.app _ _ _);rcases Bool.eq_false_or_eq_true (decide ((0:Int)<(ys.length:Int))) with d4 | d4
 ·rw[d4,if_pos rfl]
  have pl:(kI kv (.int k) (.bl true)).length<=kv.length+1:=by
   unfold kI;split
   ·rw[List.length_map];lia
   ·rw[List.length_append];simp
  refine⟨_,(h++gg++[Fy.O.lst ys]).set ED (.dct (kI kv (.int k) (.bl true))),?_,zS hE2 _,pl,fs.trans (Fs.set _ _ (List.mem_cons_self ..))⟩;simp! only [qAC, *,hE2,wI,if_pos (show kv.length<16777216 by lia)]
 ·rw[d4,if_neg (by simp)]
  exact⟨kv,_,rfl,hE2,by lia,fs⟩
end
theorem qEh(h:AH)(n:Nat):∀ xs:List (Nat × D),eqW (eqD h n) (xs.map fun x=>wrD (pcD x.1 x.2)) (xs.map fun x=>wrD (pcD x.1 x.2))=some true
 | []=>rfl
 |x::r=>by
  have e:eqD h n (wrD (pcD x.1 x.2)) (wrD (pcD x.1 x.2))=some true:=by
   unfold wrD
   have:∀ T:Tx,eqD h n (.str T) (.str T)=some (T == T):=fun T=>by cases n <;> rfl
   rw[this,BEq.rfl]
  rw[List.map_cons];show (match eqD h n (wrD (pcD x.1 x.2)) (wrD (pcD x.1 x.2)),eqW (eqD h n) (r.map fun x=>wrD (pcD x.1 x.2)) (r.map fun x=>wrD (pcD x.1 x.2)) with | some a,some b=>some (a&&b) | _,_=>none)=some true;rw[e,qEh h n r];rfl
section
variable {p q gd td m L:Nat}{b:Int}{h h':AH}{sl:D}{as os:List Nat}{gs g2:List GS}
theorem Ho.by_own(H:Ho p q gd td m b h sl as gs)(O:Ow L m h os g2)(dj:∀ a∈as,a∉os)(f:Fs os h h'):Ho p q gd td m b h' sl as gs:=H.kept fun i o e _ hi=>f.get e (by
 rcases hi with rfl | rfl | rfl | hi
 ·exact O.not H.hp fun fs z=>by injection z with z1 z2;exact absurd z1 (by decide)
 ·exact O.not H.hq fun fs z=>by injection z with z1 z2;exact absurd z1 (by decide)
 ·exact O.not H.hg fun fs z=>by cases z
 ·exact dj i hi)
theorem Ow.by_host(O:Ow L m h os g2)(H:Ho p q gd td m b h sl as gs)(dj:∀ a∈as,a∉os)(f:Fs (p::as) h h'):Ow L m h' os g2:=O.kept f (aN H O.hL) fun a ha z=>by
 rcases List.mem_cons.mp z with rfl | z
 ·exact O.not H.hp (fun fs z=>by injection z with z1 z2;exact absurd z1 (by decide)) ha
 ·exact dj a z ha
end
structure LI (p q gd td L ED m bn N:Nat) (h:AH) (l:Nat) (la:Option Nat) (as os:List Nat) (gs:List GS):Prop where
 H:Ho p q gd td m bn h (jJ la) as gs
 O:Ow L m h os gs
 h3:gs.length=3
 w:∀ g∈gs,WG N g
 r:Rot l la
 E:∃ kv,h[ED]?=some (.dct kv)/\kv.length<=3*N
 dj:∀ a∈as,a∉os
 eg:ED≠gd
abbrev SS(p ED:Nat)(as os:List Nat):List Nat:=p::ED::(as++os)
section
variable {p q gd td L ED m bn N:Nat}{h:AH}{l:Nat}{la:Option Nat}{as os:List Nat}{gs:List GS}
theorem inA(ha:a∈p::as):a∈SS p ED as os:=by
 rcases List.mem_cons.mp ha with rfl | ha
 ·exact List.mem_cons_self ..
 ·exact List.mem_cons_of_mem _ (List.mem_cons_of_mem _ (List.mem_append_left _ ha))
theorem inO(ha:a∈os):a∈SS p ED as os:=List.mem_cons_of_mem _ (List.mem_cons_of_mem _ (List.mem_append_right _ ha))
theorem qBa{M:Nat}(w:∀ g∈gs,WG N g)(h:N<=M):∀ g∈gs,WG M g:=fun g hg=>(w g hg).up h
theorem aS(I:LI p q gd td L ED m bn N h l la as os gs):ED∉p::as:=fun z=>by
 obtain ⟨kv,e,_⟩:=I.E;rcases List.mem_cons.mp z with rfl | z
 ·rw[I.H.hp] at e;cases e
 ·exact I.H.not e (fun fs z=>by cases z) z
theorem eN(I:LI p q gd td L ED m bn N h l la as os gs):ED∉os:=by
 obtain ⟨kv,e,_⟩:=I.E;exact I.O.not e fun fs z=>by cases z
theorem LI.both(I:LI p q gd td L ED m bn N h l la as os gs)(ha:as[k]?=some a)(ho:os[k]?=some o)(hk:k<gs.length)(w:WG (N+1) g')(f1:Fr a h h1)(e1:h1[a]?=some (.ins qF (g'.fs m)))(f2:Fr o h1 h2)(e2:h2[o]?=some (.ins qF (g'.fs m))) :
  LI p q gd td L ED m bn (N+1) h2 l la as os (gs.set k g')/\Fs (SS p ED as os) h h2:=by
 have ma:=List.mem_of_getElem? ha;have mo:=List.mem_of_getElem? ho;have F1:Fs (p::as) h h1:=f1.fs (List.mem_cons_of_mem _ ma);have F2:Fs os h1 h2:=f2.fs mo;have H1:=I.H.giv ha hk f1 e1;have O1:=I.O.by_host I.H I.dj F1;have H2:=H1.by_own O1 I.dj F2;have O2:=O1.giv ho hk f2 e2;obtain ⟨kv,hE,kl⟩:=I.E;refine⟨⟨H2,O2,by rw[List.length_set];exact I.h3,uE (m:=m) (qBa I.w (by lia)) w,I.r,⟨kv,F2.get (F1.get hE (aS I)) (eN I),by lia⟩,I.dj,I.eg⟩,(F1.mono fun i hi=>inA hi).trans (F2.mono fun i hi=>inO hi)⟩
theorem LI.at(I:LI p q gd td L ED m bn N h l la as os gs)(hk:k<3):∃ g a o,gs[k]?=some g/\as[k]?=some a/\os[k]?=some o/\h[a]?=some (.ins qF (g.fs m))/\h[o]?=some (.ins qF (g.fs m))/\WG N g:=by
 have hkl:k<gs.length:=by rw[I.h3];exact hk
 have hgk:gs[k]?=some gs[k]:=List.getElem?_eq_getElem hkl;obtain ⟨o,ho,hgo⟩:=I.O.get hgk;obtain ⟨a,g2,ha,hg2,hga⟩:=I.H.get (k:=k) (by rw[I.H.la];exact hkl);rw[hgk] at hg2;cases hg2
 exact⟨_,a,o,hgk,ha,ho,hga,hgo,I.w _ (List.getElem_mem hkl)⟩
theorem qHO(B n:Nat)(I:LI p q gd td L ED m bn N h l la as os gs){k:Nat}(hk:k<3)(c:Int)(x0 x1 x5 x6 x8 x9 x10:Option D) :
  ∃ gs' h',qB (qA fns B (n+9)) B qAE [x0,x1,some (.ref p),some (.ref L),some (.int k),x5,x6,some (.int c),x8,x9,x10] h=.nx [x0,x1,some (.ref p),some (.ref L),some (.int k),x5,x6,some (.int c),x8,x9,x10] h'/\LI p q gd td L ED m bn (N+1) h' l la as os gs'/\Fs (SS p ED as os) h h':=by
 obtain ⟨g,a,o,hgk,ha,ho,hga,hgo,wg⟩:=I.at hk;obtain ⟨ok,g',wg',d1,d2⟩:=qOn m wg c;obtain ⟨h1,e1,p1,f1⟩:=d2 B (n+5) p q gd td bn h (jJ la) as gs k a I.H ha hga;have hao:o≠a:=fun z=>I.dj a (List.mem_of_getElem? ha) (by rw[<- z];exact List.mem_of_getElem? ho);obtain ⟨h2,e2,p2,f2⟩:=d1 B (n+7) h1 o (f1.get hgo hao);obtain ⟨I2,F2⟩:=I.both ha ho (by rw[I.h3];exact hk) (wg'.up (by lia)) f1 p1 f2 p2;refine⟨_,h2,?_,I2,F2⟩;have O1:=I.O.by_host I.H I.dj (f1.fs (List.mem_cons_of_mem _ (List.mem_of_getElem? ha)));obtain ⟨y1,y2⟩:=O1.ix ho;simp! only [qAE, *,e1,y1,Option.bind_some,y2,e2]
end
section
variable {p q gd td L ED m bn N:Nat}{h:AH}{l:Nat}{la:Option Nat}{as os:List Nat}{gs:List GS}
theorem qHR(B n:Nat)(hB:1000<=B)(hN:N<=55)(I:LI p q gd td L ED m bn N h l la as os gs){k:Nat}(hk:k<3)(c:Int)(x0 x1 x6 x8 x9 x10:Option D) :
  ∃ gs' h' x8',qB (qA fns B (n+9)) B qAD [x0,x1,some (.ref p),some (.ref L),some (.int k),some (.ref ED),x6,some (.int c),x8,x9,x10] h=.nx [x0,x1,some (.ref p),some (.ref L),some (.int k),some (.ref ED),x6,some (.int c),x8',x9,x10] h'/\LI p q gd td L ED m bn (N+1) h' l la as os gs'/\Fs (SS p ED as os) h h':=by
 obtain ⟨g,a,o,hgk,ha,ho,hga,hgo,wg⟩:=I.at hk;obtain ⟨kv,hE,kl⟩:=I.E;have gE:=vY hE;have hn:vW ED (.int k) h=.ok (.bl (zD kv (.int k)).isSome) h:=by unfold vW;rw[hE]
 obtain ⟨u,lm,sp,k1,e1,u1,u2,u3,u4⟩:=qL6 B (n+8) wg c (zD kv (.int k)).isSome hgo;obtain ⟨g',wg',ea⟩:=qOo m wg (by lia) u lm u2 sp u3;have hk3:k<gs.length:=by rw[I.h3];exact hk
 have ma:=List.mem_of_getElem? ha;have mo:=List.mem_of_getElem? ho;have hao:a≠o:=fun z=>I.dj a ma (by rw[z];exact mo);have e2:=ea B (n+4) _ o hB (qK k1 hgo);have f2:Fr o h ((h++k1).set o (.ins qF (g'.fs m))):=(Fr.app _ _ _).trans (Fr.set _ _ _);have p2:=zS (qK k1 hgo) (.ins qF (g'.fs m));generalize (h++k1).set o (.ins qF (g'.fs m))=h2 at *;have H2:=I.H.by_own I.O I.dj (f2.fs mo);have O2:=I.O.giv ho hk3 f2 p2;obtain ⟨k3,e3⟩:=aH B (n+2) (qCq k u lm (by lia) u1 u2 (show sp.length<=8 by lia) u4) h2;have e3:qA fns B (n+9) 42 [.tup [.str [97,110,115,119,101,114],.int 3,.int 1,.int k,.int u,.int lm,.tup (sp.map qJ)]] h2=.ok (wrD (jZ k u lm sp)) (h2++k3):=e3;have H3:=H2.app k3;have O3:=O2.app k3;have hga3:(h2++k3)[a]?=some (.ins qF (g.fs m)):=qK _ (f2.get hga hao);obtain ⟨j,h4,e4,p4,q4,f4,l4⟩:=qMG B n hB H3 (show k<50 by lia) ha hga3 u lm u1 u2 u3 u4 ea;have F4:Fs (p::as) (h2++k3) h4:=f4.fs (List.mem_cons_of_mem _ ma);have H4:=H3.giv ha hk3 f4 q4;have O4:=O3.by_host H3 I.dj F4;have H5:=H4.app [.lst []];have O5:=O4.app [.lst []];have F5:Fs (SS p ED as os) h (h4++[.lst []]):=(((f2.fs (S:=SS p ED as os) (inO mo)).trans (Fs.app _ _ k3)).trans (F4.mono fun i hi=>inA hi)).trans (Fs.app _ _ _);have hE5:(h4++[O.lst []])[ED]?=some (.dct kv):=qK _ (F4.get (qK _ (f2.get hE (fun z=>eN I (by rw[z];exact mo)))) (aS I));refine⟨_,h4++[.lst []],some (.tup [.int u,.int lm,.tup (sp.map qJ)]),?_,⟨H5,O5,by rw[List.length_set];exact I.h3,uE (m:=m) (qBa I.w (by lia)) wg',I.r,⟨kv,hE5,by lia⟩,I.dj,I.eg⟩,F5⟩;obtain ⟨y1,y2⟩:=I.O.ix ho;obtain ⟨y3,y4⟩:=(I.O.app k1).ix ho;have i0:((ixN 3 0).bind fun j=>[D.int u,.int lm,.tup (sp.map qJ)][j]?)=some (.int u):=rfl;have i1:((ixN 3 1).bind fun j=>[D.int u,.int lm,.tup (sp.map qJ)][j]?)=some (.int lm):=rfl;have i2:((ixN 3 2).bind fun j=>[D.int u,.int lm,.tup (sp.map qJ)][j]?)=some (.tup (sp.map qJ)):=rfl;have g4:qC (h4++[.lst []]) j=some []:=zT (qK _ p4);simp! only [qAD, *,y1,Option.bind_some,y2,gE,Option.bind_none,hn,e1,y3,y4,qK k1 hgo,qEg,tbg,i0,i1,i2,e2,H2.hp,qEM,tbh,if_pos (show 4<=16777216 by lia),List.length_cons,List.length_nil,if_pos (show 7<=16777216 by lia),List.cons_append,List.nil_append,e3,e4,if_pos (show 0<=16777216 by lia),er,g4,qY,zV,eqW]
end
section
variable {p q gd td L ED m bn N t:Nat}{l:Nat}{la:Option Nat}{as os:List Nat}{gs:List GS}
theorem qEk(F:Nat->List D->M D)(B:Nat)(hw:∀ g∈gs,g.t.length<=2000)(h3:gs.length=3){xs:List (Nat × D)}(hx:∀ x∈xs,x.1<3/\PD x.2)(xl:xs.length<=10)(x0 x1 x2 x4 x6 x7 x8:Option D)(dl:D) :
  ∀ (ks:List Nat) (h:AH) (kv:List (Ky × D)) (s10:Option D),(∀ k∈ks,k<3)->Ow L m h os gs->h[ED]?=some (.dct kv)->kv.length+ks.length<=1000->h[t]?=some (.lst (xs.map fun x=>wrD (pcD x.1 x.2))) ->
  ∃ kv' h' s10',zJ (qV (.nm 10) (qB F B vH)) (iD ks) [x0,x1,x2,some (.ref L),x4,some (.ref ED),x6,x7,x8,some (.tup [.ref t,dl]),s10] h=.nx [x0,x1,x2,some (.ref L),x4,some (.ref ED),x6,x7,x8,some (.tup [.ref t,dl]),s10'] h'/\h'[ED]?=some (.dct kv')/\kv'.length<=kv.length+ks.length/\Fs [ED] h h'
 | [],h,kv,s10,_,O,hE,kl,ht=>⟨kv,h,s10,rfl,hE,Nat.le_add_right ..,⟨Nat.le_refl _,fun _ _ _=>rfl⟩⟩
 |k::r,h,kv,s10,hk,O,hE,kl,ht=>by
  simp only[List.length_cons] at kl;obtain ⟨kv1,h1,e1,p1,l1,f1⟩:=qO5 F B O hw h3 hE (by lia) ht hx xl (hk k (List.mem_cons_self ..)) x0 x1 x2 x4 x6 x7 x8 dl;have nl:∀ i xs,h[i]?=some (.lst xs)->i∉[ED]:=fun i xs e z=>by rw[List.mem_singleton.mp z,hE] at e;cases e
  have O1:=O.kept f1 (nl _ _ O.hL) fun a ha z=>O.not hE (fun fs z=>by cases z) (by rw[<- List.mem_singleton.mp z];exact ha);obtain ⟨kv2,h2,s10',e2,p2,l2,f2⟩:=qEk F B hw h3 hx xl x0 x1 x2 x4 x6 x7 x8 dl r h1 kv1 (some (.int k)) (fun j hj=>hk j (List.mem_cons_of_mem _ hj)) O1 p1 (by lia) (f1.get ht (nl _ _ ht));refine⟨kv2,h2,s10',?_,p2,by rw[List.length_cons];lia,f1.trans f2⟩;show SR.turn (qV (.nm 10) (qB F B vH) (.int k) _ h) _=_;rw[kA,<- e2];exact congrArg (fun z=>SR.turn z _) e1
variable {h:AH}
theorem qHK(B n:Nat)(hB:1000<=B)(hN:N<=55)(hm:1<=m)(hm2:m<=40)(ns:List Int)(hz:qC h 0=some (ns.map .int))(hb:1+ns.getD 0 0 / 40 % 5=(bn:Int))(I:LI p q gd td L ED m bn N h l la as os gs)(x1 x4 x7 x8 x9 x10:Option D) :
  ∃ gs' h' l' la' x9' x10',qB (qA fns B (n+9)) B qAH [some (.ref 0),x1,some (.ref p),some (.ref L),x4,some (.ref ED),some (.int l),x7,x8,x9,x10] h=.nx [some (.ref 0),x1,some (.ref p),some (.ref L),x4,some (.ref ED),some (.int (l':Nat)),x7,x8,x9',x10'] h'/\LI p q gd td L ED m bn (N+1) h' l' la' as os gs'/\Fs (SS p ED as os) h h':=by
 have e0:=qDT B (n+8) h 0 ns 0 hz;obtain ⟨t,h1,e1,p1,O1,f1,t1⟩:=qMI B (n+1) bn l hB (show N<=60 by lia) hm hm2 I.h3 I.w I.O;rw[I.r.eq] at e1 p1 O1;have H1:=I.H.by_own I.O I.dj f1;have la3:as.length=3:=by rw[I.H.la];exact I.h3
 obtain ⟨h2,j,e2,p2,H2,f2,j2⟩:=qLj B n bn hB (show N<=60 by lia) hm hm2 la H1 I.w (by lia);rw[la3] at p2 H2;obtain ⟨s1,s2,s3,s4⟩:=yW (N:=N) (m:=m) (zH (List.range 3) la) bn gs I.w;have s5:=yY hm hm2 (zH (List.range 3) la) bn gs I.w;have s6:=iR (List.range 3) la;rw[List.length_range] at s6;have O2:=O1.by_host H1 I.dj f2;have s7:∀ x∈(sv m bn (zH (List.range 3) la) gs).1,x.1<3:=fun x hx=>bT _ _ _ (s4 x hx);generalize sv m bn (zH (List.range 3) la) gs=S at *;obtain ⟨xs,g2⟩:=S;have s1:∀ g∈g2,WG N g:=s1;have s2:g2.length=gs.length:=s2;have s3:xs.length<=_:=s3;have H2:Ho p q gd td m bn h2 (kQ (jJ la) xs) as g2:=H2;have O2:Ow L m h2 os g2:=O2;obtain ⟨l',la',r1,r2,r3⟩:=I.r.step xs s7;rw[r2] at H2;have e1:qA fns B (n+9) qD9 [.ref L,.int l,.int bn] h=.ok (.tup [.ref t,kQ (.int l) xs]) h1:=e1;rw[r1] at e1;have p1:h1[t]?=some (.lst (xs.map fun x=>wrD (pcD x.1 x.2))):=p1;have p2:h2[j]?=some (.lst (xs.map fun x=>wrD (pcD x.1 x.2))):=p2;have pt:h2[t]?=some (.lst (xs.map fun x=>wrD (pcD x.1 x.2))):=f2.get p1 (aN H1 p1);obtain ⟨kv,hE,kl⟩:=I.E;have hE2:h2[ED]?=some (.dct kv):=f2.get (f1.get hE (eN I)) (aS I);obtain ⟨kv3,h3,s10,e3,p3,l3,f3⟩:=qEk (t:=t) (qA fns B (n+9)) B (fun g hg=>(s1 g hg).tl) (by rw[s2];exact I.h3) (fun x hx=>⟨s7 x hx,s5 x hx⟩) (by lia) (some (.ref 0)) x1 (some (.ref p)) x4 (some (.int l')) x7 x8 (.int l') (List.range 3) h2 kv x10 (fun k hk=>List.mem_range.mp hk) O2 hE2 (by rw[List.length_range];lia) pt;rw[List.length_range] at l3
 have H3:=H2.kept (h':=h3) fun i o e _ hi=>f3.get e fun z=>by
  have z:=List.mem_singleton.mp z;subst z;rcases hi with rfl | rfl | rfl | hi
  ·exact aS I (List.mem_cons_self ..)
  ·rw[H2.hq] at hE2;cases hE2
  ·exact I.eg rfl
  ·exact aS I (List.mem_cons_of_mem _ hi)
 have O3:=O2.kept f3 (fun z=>by have:=O2.hL;rw[List.mem_singleton.mp z,hE2] at this;cases this) fun a ha z=>eN I (by rw[<- List.mem_singleton.mp z];exact ha);refine⟨g2,h3,l',la',some (.tup [.ref t,.int l']),s10,?_,⟨H3,O3,by rw[s2];exact I.h3,qBa s1 (by lia),r3,⟨kv3,p3,by lia⟩,I.dj,I.eg⟩,((f1.mono fun i hi=>inO hi).trans (f2.mono fun i hi=>inA hi)).trans (f3.mono fun i hi=>by rw[List.mem_singleton.mp hi];exact List.mem_cons_of_mem _ (List.mem_cons_self ..))⟩;have e3:zJ (qV (.nm 10) (qB (qA fns B (n+9)) B vH)) (kC 0 3) [some (.ref 0),x1,some (.ref p),some (.ref L),x4,some (.ref ED),some (.int l'),x7,x8,some (.tup [.ref t,.int l']),x10] h2=_:=e3;have i0:((ixN 2 0).bind fun j=>[D.ref t,.int l'][j]?)=some (.ref t):=rfl;have i1:((ixN 2 1).bind fun j=>[D.ref t,.int l'][j]?)=some (.int l'):=rfl;have e0:qA fns B (n+9) 84 [.ref 0,.int 0] h=.ok (.int (ns.getD 0 0)) h:=e0;simp! only [qAH,qFl, *,e0,if_pos (show (0:Int)<40/\(40:Int)<1073741824 by lia),if_pos (show (0:Int)<5 by lia),hb,e1,H1.hp,qON,tbh,e2,i0,er,zT p2,zT pt,qEh,i1,if_pos (show zU 3 by decide),show (3:Int).toNat=3 from rfl,e3]
end
theorem clm:([306712044914,1215263604]:List Nat).contains zC=true:=by decide
theorem clr:([362411681138,1215263604]:List Nat).contains zC=true:=by decide
theorem qL4(B n:Nat)(h:AH):qA fns B (n+1) qNy [.ref h.length,.int 1] (h++[.ins zQ []])=.ok .non (h++[.ins zQ (mtg 0 false)]):=by
 rw[qRW];simp! only [qAv, *,qW,clq,kP,List.length_nil,List.length_cons,show 0<1000 by lia];rfl
def hs1:List (Nat × D):=[(vT,.int 9)]
def hs2(mm:Int):List (Nat × D):=[(vT,.int 9),(kR,.int mm)]
def hs3(mm b:Int):List (Nat × D):=[(vT,.int 9),(kR,.int mm),(wM,.int b)]
def hs4(mm b:Int):List (Nat × D):=[(vT,.int 9),(kR,.int mm),(wM,.int b),(yH,.int 1)]
def hs5(mm b:Int)(d:D):List (Nat × D):=[(vT,.int 9),(kR,.int mm),(wM,.int b),(yH,.int 1),(uN,d)]
def hs6(mm b:Int)(d e:D):List (Nat × D):=[(vT,.int 9),(kR,.int mm),(wM,.int b),(yH,.int 1),(uN,d),(uO,e)]
def hs7(mm b:Int)(d e f:D):List (Nat × D):=[(vT,.int 9),(kR,.int mm),(wM,.int b),(yH,.int 1),(uN,d),(uO,e),(aL,f)]
section
variable (mm b:Int)(d e f:D)
theorem pu1:zI vT (.int 9) []=hs1:=rfl
theorem pu2:zI kR (.int mm) hs1=hs2 mm:=rfl
theorem pu3:zI wM (.int b) (hs2 mm)=hs3 mm b:=rfl
theorem pu4:zI yH (.int 1) (hs3 mm b)=hs4 mm b:=rfl
theorem pu5:zI uN d (hs4 mm b)=hs5 mm b d:=rfl
theorem pu6:zI uO e (hs5 mm b d)=hs6 mm b d e:=rfl
theorem pu7:zI aL f (hs6 mm b d e)=hs7 mm b d e f:=rfl
theorem pu8(q gd td:Nat)(g:D):zI dJ g (hs7 mm b (.ref q) (.ref gd) (.ref td))=hst mm b q gd td g:=rfl
theorem gu4:qI yH (hs4 mm b)=some (.int 1):=rfl
theorem nu4:qI 464662488081084476647013 (hs4 mm b)=none:=rfl
theorem ln1:hs1.length<1000:=by decide
theorem ln2:(hs2 mm).length<1000:=by show 2<1000;lia
theorem ln3:(hs3 mm b).length<1000:=by show 3<1000;lia
theorem ln4:(hs4 mm b).length<1000:=by show 4<1000;lia
theorem ln5:(hs5 mm b d).length<1000:=by show 5<1000;lia
theorem ln6:(hs6 mm b d e).length<1000:=by show 6<1000;lia
theorem ln7:(hs7 mm b d e f).length<1000:=by show 7<1000;lia
end
theorem qMN(B n:Nat)(h:AH)(mm b:Int):qA fns B (n+2) qN8 [.ref h.length] (h++[.ins zC (hs4 mm b)])=.ok .non (h++[.ins zC (hst mm b (h.length+1) (h.length+2) (h.length+3) .non),.ins zQ (mtg 0 false),.dct [],.dct []]):=by
 rw[qRg];have e2:=qL4 B n (h++[.ins zC (hs4 mm b)]);rw[List.length_append,List.append_assoc,List.append_assoc] at e2;have e2:qA fns B (n+1) 17 [.ref (h.length+1),.int 1] (h++[.ins zC (hs4 mm b),.ins zQ []])=.ok .non (h++[.ins zC (hs4 mm b),.ins zQ (mtg 0 false)]):=e2;simp! only [qBJ, *,qW,List.getElem?_cons_zero,gu4,yF,List.length_append,List.length_cons,List.length_nil,Nat.zero_add,List.append_assoc,List.cons_append,List.nil_append,e2,clh,pu5,pu6,pu7,pu8,ln4,ln5,ln6,ln7,kP,List.set_cons_zero,aU,wO,List.getElem?_cons_succ,qCI,List.set_cons_succ,uG,List.zip_nil_left,List.foldl_nil]
theorem qMC(B n:Nat)(h:AH)(mm b:Int)(hm:mm<=40):qA fns B (n+3) qN5 [.ref h.length,.int 9,.int mm,.int b] (h++[.ins zC []])=.ok .non (h++[.ins zC (hst mm b (h.length+1) (h.length+2) (h.length+3) .non),.ins zQ (mtg 0 false),.dct [],.dct []]):=by
 rw[qRd];have e1:(if (40:Int)<mm then (40:Int) else mm)=mm:=if_neg (by lia);have e0:qA fns B (n+2) 63 [.ref h.length] (h++[.ins zC [(1919905645,.int 9),(1836020596,.int mm),(108256335193460,.int b),(1818846821,.int 1)]])=_:=qMN B n h mm b;simp! only [qA8, *,qW,List.getElem?_cons_zero,clr,clm,clh,List.length_nil,show 0<1000 by lia,ln1,ln2,ln3,kP,List.set_cons_zero,e1,pu1,pu2,pu3,pu4,nu4,tbh,e0]
def zO(a b:Int):D:=.tup [.str HELLO,.int a,.int b]
structure Ha (p q gd td m:Nat) (b:Int) (h:AH) (y:Int) (met:Bool):Prop where
 hp:h[p]?=some (.ins zC (hst m b q gd td .non))
 hq:h[q]?=some (.ins zQ (mtg y met))
 hg:h[gd]?=some (.dct [])
 ht:h[td]?=some (.dct [])
section
variable {p q gd td m:Nat}{b:Int}{h:AH}{y:Int}{met:Bool}
theorem Ha.app(H:Ha p q gd td m b h y met)(g:AH):Ha p q gd td m b (h++g) y met:=⟨qK g H.hp,qK g H.hq,qK g H.hg,qK g H.ht⟩
theorem qDU(B n i:Nat)(hi:h[i]?=some (.dct [])):qA fns B (n+1) qNv [.ref i] h=.ok (.ref h.length) (h++[.dct []]):=by
 rw[qRT];have h1:(h++[.dct []])[i]?=some (.dct []):=qK _ hi;have h2:((h++[O.dct []]).set i (.rod []))[i]?=some (.rod []):=zS h1 _;have h3:((h++[O.dct []]).set i (.rod [])).set i (.dct [])=h++[.dct []]:=by rw[List.set_set,wH h1]
 simp! only [qAs,qGC, *,aU,qW,List.getElem?_cons_zero,List.length_nil,show jU []=[] from rfl,zJ,h1,h2,h3,uG,List.zip_nil_left,List.foldl_nil,kP,List.set_cons_zero]
theorem qML(B n:Nat)(H:Ha p q gd td m b h y met):∃ gd' td' h',qA fns B (n+2) qN7 [.ref p] h=.ok .non h'/\Ha p q gd' td' m b h' y met/\Fs [p,q] h h'/\h.length<=gd':=by
 rw[qRf];have e1:=qDU B n gd H.hg;have H0:=H.app [.dct []];have hp1:=H0.hp;generalize hH:(h++[O.dct []]).set p (.ins zC (hst m b q h.length td .non))=H1;have hp2:H1[p]?=some (.ins zC (hst m b q h.length td .non)):=by rw[<- hH];exact zS hp1 _
 have keep:∀ i o,(h++[O.dct []])[i]?=some o->(∀ fs,o≠O.ins zC fs)->H1[i]?=some o:=fun i o e ne=>by
  rw[<- hH,List.getElem?_set_ne (fun z=>by subst z;rw[hp1] at e;cases e;exact ne _ rfl)];exact e
 have ht1:H1[td]?=some (.dct []):=keep _ _ H0.ht (fun fs z=>by cases z);have hq1:H1[q]?=some (.ins zQ (mtg y met)):=keep _ _ H0.hq (fun fs z=>by injection z with z1 z2;exact absurd z1 (by decide));have hn1:H1[h.length]?=some (.dct []):=keep _ _ (by rw[qW];rfl) (fun fs z=>by cases z);have e2:=qDU B n td ht1;have hp3:=qK [O.dct []] hp2
 have keep2:∀ i o,(H1++[O.dct []])[i]?=some o->(∀ fs,o≠O.ins zC fs)->((H1++[O.dct []]).set p (.ins zC (hst m b q h.length H1.length .non)))[i]?=some o:=fun i o e ne=>by
  rw[List.getElem?_set_ne (fun z=>by subst z;rw[hp3] at e;cases e;exact ne _ rfl)];exact e
 have f1:Fs [p,q] (h++[O.dct []]) H1:=by rw[<- hH];exact Fs.set _ _ (List.mem_cons_self ..)
 refine⟨h.length,H1.length,(H1++[O.dct []]).set p (.ins zC (hst m b q h.length H1.length .non)),?_,⟨zS hp3 _,keep2 _ _ (qK _ hq1) (fun fs z=>by injection z with z1 z2;exact absurd z1 (by decide)),keep2 _ _ (qK _ hn1) (fun fs z=>by cases z),keep2 _ _ (by rw[qW];rfl) (fun fs z=>by cases z)⟩,(((Fs.app _ h _).trans f1).trans (Fs.app _ _ _)).trans (Fs.set _ _ (List.mem_cons_self ..)),Nat.le_refl _⟩;simp! only [qBI, *,H.hp,vE,e1,hp1,clh,qEP,show 8<1000 by lia,qOK,hH,hp2,qOZ,e2,hp3,qOI]
theorem qME(B n:Nat)(v:Bool)(hq:h[q]?=some (.ins zQ (mtg 0 false))):qA fns B (n+1) nA [.ref q,zO 3 (b2i v)] h=.ok (.tup [.bl true,.bl v]) (h.set q (.ins zQ (mtg 3 v))):=by
 rw[qFE];have i1:∀ w:D,((ixN 3 1).bind fun j=>[D.str HELLO,.int 3,w][j]?)=some (.int 3):=fun _=>rfl;have i2:∀ w:D,((ixN 3 2).bind fun j=>[D.str HELLO,.int 3,w][j]?)=some w:=fun _=>rfl;have hs:=zS hq (.ins zQ (mtg 3 false));cases v with
 |true=>simp! only [bI,fU,qAx,fV,qAw,fW, *,zO,b2i,i1,i2,hq,uF,aA,show decide ((3:Int)<0)=false from rfl,show decide ((1:Int)<1)=false from rfl,show decide ((0:Int)<3)=true from rfl,clq,lI,show 3<1000 by lia,qCh,zS hq,lH,List.set_set,hs,show ((1:Int) == 1)=true from rfl,if_pos (show 2<=16777216 by lia)]
 |false=>simp! only [bI,fU,qAx,fV,fW, *,zO,b2i,i1,i2,hq,uF,aA,show decide ((3:Int)<0)=false from rfl,show decide ((1:Int)<0)=false from rfl,show decide ((0:Int)<3)=true from rfl,clq,lI,show 3<1000 by lia,qCh,zS hq,lH,List.set_set,hs,show ((0:Int) == 1)=false from rfl,if_pos (show 2<=16777216 by lia)]
theorem qLt(B n:Nat)(hq:h[q]?=some (.ins zQ (mtg y met))):qA fns B (n+1) qNx [.ref q] h=.ok (zO 1 y) h:=by
 rw[qRV];simp! only [qAu, *,hq,aA,uF,if_pos (show 3<=16777216 by lia)];rfl
theorem qLk(B n:Nat)(v:Int):qA fns B (n+1) qN0 [.ref p,zO 3 v] h=.ok (.ref h.length) (h++[.lst []]):=by
 rw[qFF];have i0:((ixN 3 0).bind fun j=>[D.str HELLO,.int 3,.int v][j]?)=some (.str HELLO):=rfl;have w1:(HELLO == [100,97,116,97])=false:=by decide
 have w2:(HELLO == [101,110,100])=false:=by decide
 have w3:(HELLO == [97,110,115,119,101,114])=false:=by decide
 simp! only [fX,qA0,qA1, *,zO,i0,w1,w2,w3]
theorem qMF(B n:Nat)(H:Ha p q gd td m b h 0 false):∃ j gd' td' h',qA fns B (n+9) qEB [.ref p,wrD (zO 3 1)] h=.ok (.ref j) h'/\Ho p q gd' td' m b h' .non [] []/\Fs [p,q] h h'/\h.length<=gd'/\gd'<h'.length:=by
 rw[qFG];obtain ⟨g0,e0⟩:∃ g,qA fns B (n+8) 46 [wrD (zO 3 1)] h=.ok (zO 3 1) (h++g):=qDM B n qCp (.inl rfl) h;have H0:=H.app g0;have e1:qA fns B (n+8) nA [.ref q,zO 3 1] (h++g0)=.ok (.tup [.bl true,.bl true]) ((h++g0).set q (.ins zQ (mtg 3 true))):=qME B (n+7) true H0.hq
 have keep:∀ i o,(h++g0)[i]?=some o->(∀ fs,o≠O.ins zQ fs)->((h++g0).set q (.ins zQ (mtg 3 true)))[i]?=some o:=fun i o e ne=>by
  rw[List.getElem?_set_ne (fun z=>by subst z;rw[H0.hq] at e;cases e;exact ne _ rfl)];exact e
 have H1:Ha p q gd td m b ((h++g0).set q (.ins zQ (mtg 3 true))) 3 true:=⟨keep _ _ H0.hp (fun fs z=>by injection z with z1 z2;exact absurd z1 (by decide)),zS H0.hq _,keep _ _ H0.hg (fun fs z=>by cases z),keep _ _ H0.ht (fun fs z=>by cases z)⟩;have f1:Fs [p,q] h ((h++g0).set q (.ins zQ (mtg 3 true))):=(Fs.app _ _ _).trans (Fs.set _ _ (List.mem_cons_of_mem _ (List.mem_cons_self ..)));obtain ⟨gd',td',h2,e2,H2,f2,l2⟩:=qML B (n+6) H1;have e3:=qLt B (n+7) (H2.app [.lst []]).hq;have H3:=H2.app [.lst [zO 1 3]]
 have hpc:∀ d∈[zO 1 3],pc d:=fun d hd=>by
  rcases List.mem_cons.mp hd with rfl | z
  ·exact qJI
  ·cases z
 have e5:=qLk (p:=p) (h:=h2++[.lst [zO 1 3]]) B (n+7) 1;generalize zO 3 1=X at e0 e1 e5 ⊢;have H4:=H3.app [.lst []];have g1:(h2++[O.lst [zO 1 3]]++[O.lst []])[h2.length]?=some (.lst [zO 1 3]):=by rw[List.append_assoc,qW];rfl
 have g2:(h2++[O.lst [zO 1 3]]++[O.lst []])[(h2++[O.lst [zO 1 3]]).length]?=some (.lst []):=by rw[qW];rfl
 have g3:(h2++[O.lst [zO 1 3]]++[O.lst []]).set h2.length (.lst [zO 1 3])=h2++[O.lst [zO 1 3]]++[O.lst []]:=wH g1;obtain ⟨g4,i,e4,_,_⟩:=qEO (h:=h2++[O.lst [zO 1 3]]++[O.lst []]) B n h2.length [zO 1 3] (zT g1) (by simp) hpc (some (.ref p)) (some (wrD X)) (some X) (some (.tup [.bl true,.bl true])) (some (.bl true)) (some (.bl true));have H5:=H4.app g4;refine⟨i,gd',td',h2++[.lst [zO 1 3]]++[.lst []]++g4,?_,⟨H5.hp,H5.hq,H5.hg,rfl,by simp,(fun k a g h1 _=>by simp at h1),(fun i j a h1 _=>by simp at h1)⟩,(((f1.trans f2).trans (Fs.app _ _ _)).trans (Fs.app _ _ _)).trans (Fs.app _ _ _),Nat.le_trans f1.1 l2,(List.getElem?_eq_some_iff.mp H5.hg).1⟩;simp! only [hV,qBG,qBE,qBF,qGM,qA9,qGL,qBA,qBD, *,e0,H0.hp,aO,H0.hq,qCi,tbq,e1,show ((ixN 2 0).bind fun j=>[D.bl true,.bl true][j]?)=some (.bl true) from rfl,show ((ixN 2 1).bind fun j=>[D.bl true,.bl true][j]?)=some (.bl true) from rfl,H1.hp,qOS,tbh,e2,qY,zV,(H2.app [.lst []]).hp,(H2.app [.lst []]).hq,qJA,e3,qW,List.getElem?_cons_zero,List.length_nil,if_pos (show 0<16777216 by lia),kP,List.set_cons_zero,List.nil_append,H3.hp,qEK,e5,g1,g2,List.append_nil,List.length_cons,if_pos (show 0+1+0<=16777216 by lia),g3,e4]
end
def g0:GS:=⟨[],0,0,1,[],false,false,false,false⟩
theorem qOq:WG 0 g0:=⟨by decide,rfl,by decide,by decide,by decide,by decide,trivial,by decide,fun z=>by cases z⟩
theorem uU{α:Type}{l:List α}{x a:α}(h:(l++[x])[k]?=some a):l[k]?=some a\/(k=l.length/\a=x):=by
 by_cases z:k<l.length
 ·rw[List.getElem?_append_left z] at h;exact .inl h
 ·rw[List.getElem?_append_right (by lia)] at h
  have z3:k-l.length=0:=by
   have:=(List.getElem?_eq_some_iff.mp h).1
   simp at this
   lia
  rw[z3] at h;cases h;exact .inr ⟨by lia,rfl⟩
theorem snoc{h:AH}(la:as.length=gs.length)(gv:∀ (k a:Nat) (g:GS),as[k]?=some a->gs[k]?=some g->h[a]?=some (.ins qF (g.fs m)))(nd:∀ (i j a:Nat),as[i]?=some a->as[j]?=some a->i=j)(hx:x∉as)(hg:h[x]?=some (.ins qF (g0.fs m))) :
  (as++[x]).length=(gs++[g0]).length/\(∀ (k a:Nat) (g:GS),(as++[x])[k]?=some a->(gs++[g0])[k]?=some g->h[a]?=some (.ins qF (g.fs m)))/\∀ (i j a:Nat),(as++[x])[i]?=some a->(as++[x])[j]?=some a->i=j:=by
 refine⟨by rw[List.length_append,List.length_append,la];rfl,fun k a g h1 h2=>?_,fun i j a h1 h2=>?_⟩
 ·rcases uU h1 with z1 | ⟨z1,rfl⟩
  ·rcases uU h2 with z2 | ⟨z2,_⟩
   ·exact gv k a g z1 z2
   ·have:=(List.getElem?_eq_some_iff.mp z1).1
    lia
  ·rcases uU h2 with z2 | ⟨_,rfl⟩
   ·have:=(List.getElem?_eq_some_iff.mp z2).1
    lia
   ·exact hg
 ·rcases uU h1 with z1 | ⟨z1,y1⟩
  ·rcases uU h2 with z2 | ⟨z2,y2⟩
   ·exact nd i j a z1 z2
   ·exact absurd (List.mem_of_getElem? z1) (by rw[y2];exact hx)
  ·rcases uU h2 with z2 | ⟨z2,y2⟩
   ·exact absurd (List.mem_of_getElem? z2) (by rw[y1];exact hx)
   ·lia
section
variable {p q gd td m L:Nat}{b:Int}{h:AH}{sl:D}{as os:List Nat}{gs:List GS}
theorem Ho.lt(H:Ho p q gd td m b h sl as gs):h.length∉as:=fun z=>by
 obtain ⟨fs,e⟩:=H.at z
 have:=(List.getElem?_eq_some_iff.mp e).1
 lia
theorem qLn(B n:Nat)(H:Ho p q gd td m b h sl as gs)(hl:as.length<50):∃ h',qA fns B (n+2) qN2 [.ref p] h=.ok (.int as.length) h'/\Ho p q gd td m b h' sl (as++[h.length]) (gs++[g0])/\Fs [gd] h h'/\h'.length=h.length+1:=by
 rw[qRZ];have gn:=vY H.hg;have gl:uL gd h=.ok (.int as.length) h:=by unfold uL;rw[H.hg];simp only[dG]
 have d1:((as.length:Int) == 50)=false:=by rw[beq_eq_false_iff_ne];lia
 have e1:qA fns B (n+1) 7 [.ref h.length,.int m] (h++[.ins qF []])=.ok .non (h++[.ins qF (g0.fs m)]):=qDP B n h m;have H1:=H.app [.ins qF (g0.fs m)];have gn1:=vY H1.hg
 have pk:wI (.ref h.length) gd (.int as.length) (h++[.ins qF (g0.fs m)])=.ok () ((h++[O.ins qF (g0.fs m)]).set gd (.dct (kvA 0 (as++[h.length])))):=by
  unfold wI;rw[H1.hg];simp only[dG,if_pos (show as.length<16777216 by lia),qMg]
 have np:∀ i c fs,(h++[O.ins qF (g0.fs m)])[i]?=some (O.ins c fs)->((h++[O.ins qF (g0.fs m)]).set gd (.dct (kvA 0 (as++[h.length]))))[i]?=some (O.ins c fs):=fun i c fs z1=>by
  rw[List.getElem?_set_ne (fun z2=>by subst z2;rw[H1.hg] at z1;cases z1)];exact z1
 obtain ⟨s1,s2,s3⟩:=snoc (m:=m) H.la (fun k a g h1 h2=>np _ _ _ (H1.gv k a g h1 h2)) H.nd H.lt (np _ _ _ (by rw[qW];rfl));refine⟨(h++[O.ins qF (g0.fs m)]).set gd (.dct (kvA 0 (as++[h.length]))),?_,⟨np _ _ _ H1.hp,np _ _ _ H1.hq,zS H1.hg _,s1,by rw[List.length_append];simp;lia,s2,s3⟩,(Fs.app _ _ _).trans (Fs.set _ _ (List.mem_cons_self ..)),by simp⟩;simp! only [qA3,qGH,qGI, *,H.hp,aO,H.hq,uF,show ((3:Int) == 0)=false from rfl,vE,gn,gl,d1,qOb,yF,e1,H1.hp,H1.hg,pk]
theorem qBz(B n:Nat)(c:Int)(hm:1+c % 40=(m:Int))(x0:Option D):∀ (ks:List Nat) (h:AH) (as os:List Nat) (gs:List GS) (x4 x5 x6 x7 x8 x9 x10:Option D),as.length+ks.length<=10->Ho p q gd td m b h sl as gs->Ow L m h os gs->(∀ a∈as,a∉os)->(∀ g∈gs,g=g0) ->
  ∃ h' as' os' gs' x4',zJ (qV (.nm 4) (qB (qA fns B (n+9)) B bE)) (iD ks) [x0,some (.int c),some (.ref p),some (.ref L),x4,x5,x6,x7,x8,x9,x10] h=.nx [x0,some (.int c),some (.ref p),some (.ref L),x4',x5,x6,x7,x8,x9,x10] h'/\Ho p q gd td m b h' sl as' gs'/\Ow L m h' os' gs'/\(∀ a∈as',a∉os')/\(∀ g∈gs',g=g0)/\gs'.length=gs.length+ks.length/\Fs [gd,L] h h'
 | [],h,as,os,gs,x4,x5,x6,x7,x8,x9,x10,hl,H,O,dj,ga=>⟨h,as,os,gs,x4,rfl,H,O,dj,ga,rfl,⟨Nat.le_refl _,fun _ _ _=>rfl⟩⟩
 |k::ks,h,as,os,gs,x4,x5,x6,x7,x8,x9,x10,hl,H,O,dj,ga=>by
  simp only[List.length_cons] at hl;obtain ⟨h1,e1,H1,f1,l1⟩:=qLn B (n+7) H (by lia);have O1:=O.kept f1 (fun z=>by have:=O.hL;rw[List.mem_singleton.mp z,H.hg] at this;cases this) fun a ha z=>O.not H.hg (fun fs z=>by cases z) (by rw[<- List.mem_singleton.mp z];exact ha);have lo:∀ a∈os,a<h.length:=fun a ha=>by obtain ⟨fs,e⟩:=O.at ha;exact (List.getElem?_eq_some_iff.mp e).1
  have lh:∀ a∈as,a<h.length:=fun a ha=>by obtain ⟨fs,e⟩:=H.at ha;exact (List.getElem?_eq_some_iff.mp e).1
  have e2:qA fns B (n+9) 7 [.ref h1.length,.int m] (h1++[.ins qF []])=.ok .non (h1++[.ins qF (g0.fs m)]):=qDP B (n+8) h1 m;have H2:=H1.app [.ins qF (g0.fs m)];have O2:=O1.app [.ins qF (g0.fs m)];have gL2:=zT O2.hL;have H3:=H2.lset (.lst (os.map D.ref++[.ref h1.length])) gL2;have hL3:=zS O2.hL (.lst (os.map D.ref++[.ref h1.length]));have f3:Fs [gd,L] h ((h1++[Fy.O.ins qF (g0.fs m)]).set L (.lst (os.map D.ref++[D.ref h1.length]))):=((f1.mono fun i hi=>by rw[List.mem_singleton.mp hi];exact List.mem_cons_self ..).trans (Fs.app _ _ _)).trans (Fs.set _ _ (List.mem_cons_of_mem _ (List.mem_cons_self ..)))
  have np:∀ i cc fs,(h1++[Fy.O.ins qF (g0.fs m)])[i]?=some (Fy.O.ins cc fs)->((h1++[Fy.O.ins qF (g0.fs m)]).set L (.lst (os.map D.ref++[.ref h1.length])))[i]?=some (Fy.O.ins cc fs):=fun i cc fs z1=>by
   rw[List.getElem?_set_ne (fun z2=>by subst z2;rw[O2.hL] at z1;cases z1)];exact z1
  obtain ⟨s1,s2,s3⟩:=snoc (m:=m) (x:=h1.length) O.la (fun k a g h1 h2=>np _ _ _ (O2.gv k a g h1 h2)) O.nd (fun z=>by have:=lo _ z;lia) (np _ _ _ (by rw[qW];rfl));have O3:Ow L m ((h1++[Fy.O.ins qF (g0.fs m)]).set L (.lst (os.map D.ref++[.ref h1.length]))) (os++[h1.length]) (gs++[g0]):=⟨by rw[List.map_append];exact hL3,s1,s2,s3⟩
  have dj3:∀ a∈as++[h.length],a∉os++[h1.length]:=fun a ha z=>by
   rcases List.mem_append.mp ha with ha | ha
   ·have:=lh a ha
    rcases List.mem_append.mp z with z | z
    ·exact dj a ha z
    ·have:=List.mem_singleton.mp z;lia
   ·have:=List.mem_singleton.mp ha
    rcases List.mem_append.mp z with z | z
    ·have:=lo a z;lia
    ·have:=List.mem_singleton.mp z;lia
  have ga3:∀ g∈gs++[g0],g=g0:=fun g hg=>by
   rcases List.mem_append.mp hg with hg | hg
   ·exact ga g hg
   ·exact List.mem_singleton.mp hg
  obtain ⟨h',as',os',gs',x4',e4,p1,p2,p3,p4,p5,p6⟩:=qBz B n c hm x0 ks _ _ _ _ (some (.int k)) x5 x6 x7 x8 x9 x10 (by rw[List.length_append];simp only[List.length_cons,List.length_nil];lia) H3 O3 dj3 ga3;refine⟨h',as',os',gs',x4',?_,p1,p2,p3,p4,by rw[p5,List.length_append,List.length_cons];simp only[List.length_cons,List.length_nil];lia,f3.trans p6⟩;show SR.turn (qV (.nm 4) (qB (qA fns B (n+9)) B bE) (.int k) _ h) _=_;rw[kA,<- e4];have ll:(os.map D.ref).length<16777216:=by rw[List.length_map,O.la,<- H.la];lia
  have gL1:=zT O1.hL;simp! only [bE, *,H.hp,qOP,tbh,e1,gL1,if_pos (show (0:Int)<40 by lia),hm,yF,e2,O2.hL,if_pos ll];rfl
end
section
variable {p q gd td L ED m bn N:Nat}{h:AH}{l:Nat}{la:Option Nat}{as os:List Nat}{gs:List GS}
theorem qDZ(I:LI p q gd td L ED m bn N h l la as os gs)(e:h[i]?=some o)(n1:∀ c fs,o≠.ins c fs)(n2:∀ kv,o≠.dct kv):i∉SS p ED as os:=fun z=>by
 rcases List.mem_cons.mp z with rfl | z
 ·rw[I.H.hp] at e;cases e;exact n1 _ _ rfl
 rcases List.mem_cons.mp z with rfl | z
 ·obtain ⟨kv,e2,_⟩:=I.E;rw[e2] at e;cases e;exact n2 _ rfl
 rcases List.mem_append.mp z with z | z
 ·obtain ⟨fs,e2⟩:=I.H.at z;rw[e2] at e;cases e;exact n1 _ _ rfl
 ·obtain ⟨fs,e2⟩:=I.O.at z;rw[e2] at e;cases e;exact n1 _ _ rfl
theorem qMZ(B n:Nat)(hB:1000<=B)(hN:N<=55)(hm:1<=m)(hm2:m<=40)(ns:List Int)(hz:qC h 0=some (ns.map .int))(hb:1+ns.getD 0 0 / 40 % 5=(bn:Int))(I:LI p q gd td L ED m bn N h l la as os gs)(c:Int)(x4 x7 x8 x9 x10:Option D) :
  ∃ gs' h' l' la' x4' x7' x8' x9' x10',qB (qA fns B (n+9)) B yT [some (.ref 0),some (.int c),some (.ref p),some (.ref L),x4,some (.ref ED),some (.int l),x7,x8,x9,x10] h=.nx [some (.ref 0),some (.int c),some (.ref p),some (.ref L),x4',some (.ref ED),some (.int (l':Nat)),x7',x8',x9',x10'] h'/\LI p q gd td L ED m bn (N+1) h' l' la' as os gs'/\Fs (SS p ED as os) h h':=by
 obtain ⟨k,ek,hk⟩:=vS (c / 8) 3 (by lia);have hk:k<3:=by lia
 have c8:(0:Int)<8/\(8:Int)<1073741824:=by lia
 have c24:(0:Int)<24/\(24:Int)<1073741824:=by lia
 have z8:(0:Int)<8:=by lia
 have z3:(0:Int)<3:=by lia
 have fin:∀ {gs' h' l' la'} (x7' x8' x9' x10':Option D),LI p q gd td L ED m bn (N+1) h' l' la' as os gs'->qB (qA fns B (n+9)) B qAF [some (.ref 0),some (.int c),some (.ref p),some (.ref L),some (.int k),some (.ref ED),some (.int (l':Nat)),x7',x8',x9',x10'] h'=.nx [some (.ref 0),some (.int c),some (.ref p),some (.ref L),some (.int k),some (.ref ED),some (.int (l':Nat)),x7',x8',x9',x10'] h':=fun x7' x8' x9' x10' J=>by
  have e:=qMQ B (n+6) J.H J.O J.h3;simp! only [qAF, *,e]
 rcases Bool.eq_false_or_eq_true (decide (c % 8<2)) with d1 | d1
 ·obtain ⟨gs',h',e1,J,f⟩:=qHO B n I hk (c / 24) (some (.ref 0)) (some (.int c)) (some (.ref ED)) (some (.int l)) x8 x9 x10;refine⟨gs',h',l,la,some (.int k),some (.int (c / 24)),x8,x9,x10,?_,J,f⟩;simp! only [yT, *,if_pos c8,if_pos z3,ek,if_pos c24,if_pos z8,d1,e1,fin _ _ _ _ J]
 ·rcases Bool.eq_false_or_eq_true (decide (c % 8<4)) with d2 | d2
  ·obtain ⟨gs',h',x8',e1,J,f⟩:=qHR B n hB hN I hk (c / 24) (some (.ref 0)) (some (.int c)) (some (.int l)) x8 x9 x10;refine⟨gs',h',l,la,some (.int k),some (.int (c / 24)),x8',x9,x10,?_,J,f⟩;simp! only [yT,qAG, *,if_pos c8,if_pos z3,ek,if_pos c24,if_pos z8,d1,d2,e1,fin _ _ _ _ J]
  ·obtain ⟨gs',h',l',la',x9',x10',e1,J,f⟩:=qHK B n hB hN hm hm2 ns hz hb I (some (.int c)) (some (.int k)) (some (.int (c / 24))) x8 x9 x10;refine⟨gs',h',l',la',some (.int k),some (.int (c / 24)),x8,x9',x10',?_,J,f⟩;simp! only [yT,qAG, *,if_pos c8,if_pos z3,ek,if_pos c24,if_pos z8,d1,d2,e1,fin _ _ _ _ J]
end
section
variable {p q gd td L ED m bn:Nat}{as os:List Nat}
theorem qDK(B n:Nat)(hB:1000<=B)(hm:1<=m)(hm2:m<=40)(ns:List Int)(hb:1+ns.getD 0 0 / 40 % 5=(bn:Int))(S:Nat)(cs:List Int):∀ (r:List Int) (k f N:Nat) (h:AH) (l:Nat) (la:Option Nat) (gs:List GS) (x1 x4 x7 x8 x9 x10:Option D),f+k=cs.length+1->k<=cs.length->cs.drop k=r->N+r.length<=55->h[S]?=some (.lst (cs.map .int))->h[0]?=some (.rol (ns.map .int))->LI p q gd td L ED m bn N h l la as os gs ->
  ∃ env h',jW (qV (.nm 1) (qB (qA fns B (n+9)) B yT)) S f k [some (.ref 0),x1,some (.ref p),some (.ref L),x4,some (.ref ED),some (.int l),x7,x8,x9,x10] h=.nx env h'
 | [],k,f,N,h,l,la,gs,x1,x4,x7,x8,x9,x10,hf,hkl,hd,hN,hS,hz,I=>by
  have hk:cs.length<=k:=by
   rw[List.drop_eq_nil_iff] at hd;exact hd
  match f,hf with
  |f+1,hf=>
   have e:(cs.map D.int)[k]?=none:=by rw[List.getElem?_eq_none_iff,List.length_map];exact hk
   refine⟨[some (.ref 0),x1,some (.ref p),some (.ref L),x4,some (.ref ED),some (.int l),x7,x8,x9,x10],h,?_⟩;unfold jW;rw[zT hS];simp only[e]
  |0,hf=>lia
 |c::r,k,f,N,h,l,la,gs,x1,x4,x7,x8,x9,x10,hf,hkl,hd,hN,hS,hz,I=>by
  have hk:k<cs.length:=by
   by_cases z:k<cs.length
   ·exact z
   ·rw[List.drop_eq_nil_of_le (by lia)] at hd;cases hd
  rw[List.drop_eq_getElem_cons hk] at hd;injection hd with hd1 hd2;have e:(cs.map D.int)[k]?=some (.int c):=by rw[List.getElem?_map,List.getElem?_eq_getElem hk,hd1];rfl
  simp only[List.length_cons] at hN
  match f,hf with
  |0,hf=>lia
  |f+1,hf=>
   have g0:qC h 0=some (ns.map .int):=by unfold qC;rw[hz]
   obtain ⟨gs',h',l',la',x4',x7',x8',x9',x10',e1,J,fs⟩:=qMZ B n hB (by lia) hm hm2 ns g0 hb I c x4 x7 x8 x9 x10;obtain ⟨env,h2,e2⟩:=qDK B n hB hm hm2 ns hb S cs r (k+1) f (N+1) h' l' la' gs' (some (.int c)) x4' x7' x8' x9' x10' (by lia) hk hd2 (by lia) (fs.get hS (qDZ I hS (fun c fs z=>by cases z) fun kv z=>by cases z)) (fs.get hz (qDZ I hz (fun c fs z=>by cases z) fun kv z=>by cases z)) J;refine⟨env,h2,?_⟩;unfold jW;rw[zT hS];simp only[e];rw[kA,<- e2];simp only[List.set_cons_succ,List.set_cons_zero];rw[e1];rfl
end
theorem qQI(ns:List Int):∃ cs:List Int,qO (ns.map D.int) (some 1) (some 51)=cs.map .int/\cs.length<=50:=by
 refine⟨qO ns (some 1) (some 51),?_,?_⟩
 ·unfold qO;rw[List.length_map,<- List.map_drop,<- List.map_take]
 ·unfold qO qZ;rw[List.length_take,List.length_drop];simp
  lia
theorem qMa(_B n:Nat)(ns:List Int)(hz:ns.length<=63):∃ h',qA fns 1000 (n+10) qNd [.ref 0] [.rol (ns.map .int)]=.ok (.bl true) h':=by
 rw[qQ5];have hz0:qC [.rol (ns.map .int)] 0=some (ns.map .int):=rfl;have e0:qA fns 1000 (n+9) 84 [.ref 0,.int 0] [.rol (ns.map .int)]=.ok (.int (ns.getD 0 0)) [.rol (ns.map .int)]:=qDT 1000 (n+8) [.rol (ns.map .int)] 0 ns 0 hz0;obtain ⟨r1,q1,b1⟩:=vS (ns.getD 0 0) 40 (by lia);obtain ⟨r2,q2,b2⟩:=vS (ns.getD 0 0 / 40) 5 (by lia);have em:1+ns.getD 0 0 % 40=((1+r1:Nat):Int):=by rw[q1];lia
 have eb:1+ns.getD 0 0 / 40 % 5=((1+r2:Nat):Int):=by rw[q2];lia
 have hm:1<=1+r1:=by lia
 have hm2:1+r1<=40:=by lia
 generalize hc:ns.getD 0 0=c at *;generalize 1+r1=m at em hm hm2;generalize 1+r2=bn at eb;have e1:qA fns 1000 (n+9) 62 [.ref 1,.int 9,.int m,.int bn] [.rol (ns.map .int),.ins zC []]=.ok .non [.rol (ns.map .int),.ins zC (hst m bn 2 3 4 .non),.ins zQ (mtg 0 false),.dct [],.dct []]:=qMC 1000 (n+6) [.rol (ns.map .int)] m bn (by lia);generalize hh:[O.rol (ns.map .int),.ins zC (hst m bn 2 3 4 .non),.ins zQ (mtg 0 false),.dct [],.dct []]=h1 at e1;have A1:Ha 1 2 3 4 m bn h1 0 false:=by subst hh;exact⟨rfl,rfl,rfl,rfl⟩
 have z1:h1[0]?=some (.rol (ns.map .int)):=by subst hh;rfl
 obtain ⟨k2,e2⟩:=aH 1000 (n+2) qCp h1;have e2:qA fns 1000 (n+9) 42 [.tup [.str [104,101,108,108,111],.int 3,.int 1]] h1=.ok (wrD (zO 3 1)) (h1++k2):=e2;have A2:=A1.app k2;obtain ⟨j,gd,td,h3,e3,H3,f3,g3,g4⟩:=qMF 1000 n A2;have z3:h3[0]?=some (.rol (ns.map .int)):=f3.get (qK _ z1) (by decide);have H4:=H3.app [.lst []];have O4:Ow h3.length m (h3++[.lst []]) [] []:=⟨by rw[qW];rfl,rfl,(fun k a g z _=>by simp at z),(fun i j a z _=>by simp at z)⟩;obtain ⟨h5,as,os,gs,x4,e5,H5,O5,dj,ga,lg,f5⟩:=qBz (L:=h3.length) 1000 n c em (some (.ref 0)) (List.range 3) (h3++[.lst []]) [] [] [] none none none none none none none (by simp) H4 O4 (fun a ha=>nomatch ha) (fun g hg=>nomatch hg);have lg:gs.length=3:=by rw[lg];rfl
 have e5:zJ (qV (.nm 4) (qB (qA fns 1000 (n+9)) 1000 bE)) (kC 0 3) [some (.ref 0),some (.int c),some (.ref 1),some (.ref h3.length),none,none,none,none,none,none,none] (h3++[.lst []])=_:=e5;have p3:0<h3.length:=(List.getElem?_eq_some_iff.mp z3).1
 have p4:5<=gd:=by
  have:h1.length=5:=by subst hh;rfl
  have:=A2.app []
  rw[List.length_append] at g3
  lia
 have z5:h5[0]?=some (.rol (ns.map .int)):=f5.get (qK _ z3) (fun z=>by
  rcases List.mem_cons.mp z with z | z
  ·lia
  ·have:=List.mem_singleton.mp z;lia)
 have H6:=H5.app [.dct []];have O6:=O5.app [.dct []];have z6:=qK [O.dct []] z5;have g6:qC (h5++[.dct []]) 0=some (ns.map .int):=by unfold qC;rw[z6]
 obtain ⟨cs,ecs,lcs⟩:=qQI ns;have H7:=H6.app [.lst (cs.map .int)];have O7:=O6.app [.lst (cs.map .int)];have gl5:gd<h5.length:=by have:=H5.hg;exact (List.getElem?_eq_some_iff.mp this).1
 have I:LI 1 2 gd td h3.length h5.length m bn 0 (h5++[.dct []]++[.lst (cs.map .int)]) 2 none as os gs:=⟨H7,O7,lg,fun g hg=>by rw[ga g hg];exact qOq,⟨by lia,.inr ⟨rfl,rfl⟩⟩,⟨[],qK _ (by rw[qW];rfl),Nat.le_refl _⟩,dj,by lia⟩;have hS:(h5++[O.dct []]++[O.lst (cs.map .int)])[(h5++[O.dct []]).length]?=some (.lst (cs.map .int)):=by rw[qW];rfl
 obtain ⟨env,h8,e8⟩:=qDK 1000 n (by lia) hm hm2 ns (by rw[hc];exact eb) (h5++[O.dct []]).length cs cs 0 (cs.length+1) 0 _ 2 none gs (some (.int c)) x4 none none none none rfl (Nat.zero_le _) rfl (by lia) hS (qK _ z6) I;have lv:zN (h5++[O.dct []]++[O.lst (cs.map .int)]) (h5++[O.dct []]).length=cs.length+1:=by unfold zN;rw[zT hS,Option.getD_some,List.length_map]
 have e8:jW (qV (.nm 1) (qB (qA fns 1000 (n+9)) 1000 yT)) (h5++[O.dct []]).length (cs.length+1) 0 [some (.ref 0),some (.int c),some (.ref 1),some (.ref h3.length),x4,some (.ref h5.length),some (.int 2),none,none,none,none] (h5++[O.dct []]++[O.lst (cs.map .int)])=.nx env h8:=e8;refine⟨h8,?_⟩;have hp1:(h1++k2)[1]?=some (.ins zC (hst m bn 2 3 4 .non)):=A2.hp;simp! only [qAI,qFn,qFo, *,e0,hc,if_pos (show (0:Int)<40 by lia),em,if_pos (show (0:Int)<40/\(40:Int)<1073741824 by lia),if_pos (show (0:Int)<5 by lia),eb,yF,List.length_cons,List.length_nil,e1,A1.hp,qEM,tbh,if_pos (show 3<=16777216 by lia),e2,e3,if_pos (show 0<=16777216 by lia),if_pos (show zU 3 by decide),show (3:Int).toNat=3 from rfl,e5,aU,qW,List.getElem?_cons_zero,uG,List.zip_nil_left,List.foldl_nil,kP,List.set_cons_zero,g6,ecs,List.length_map,if_pos (show cs.length<=16777216 by lia),zT hS,lv,if_pos (show cs.length+1<16777216 by lia),e8]
def top(i:Nat):Stmt:=PySem.Challenge.pw_ferry_k40_ticks_as_own_givers.main.body.getD i (.Pass ⟨0,0,0,0⟩)
def qP(i j:Nat):Stmt:=match top i with
 | .ClassDef _ _ _ b _ _ _ _ _ _ _=>b.getD j (.Pass ⟨0,0,0,0⟩)
 |s=>s
def G:List (Str × GK):=[(("law":Str),GK.fn 92),(("BEGIN":Str),GK.con (.int 0)),(("Broken":Str),GK.exc 73059263014254),(("CHECK_BEGIN":Str),GK.con (.int 7)),(("CHECK_FACTOR":Str),GK.con (.int 31)),(("CHECK_FIGURES":Str),GK.con (.int 4)),(("CHECK_MODULUS":Str),GK.con (.int 9973)),(("END":Str),GK.con (.int 1)),(("Ended":Str),GK.exc 298204816740),(("FIGURES":Str),GK.con (.str [48,49,50,51,52,53,54,55,56,57])),(("FIRST_LIMIT":Str),GK.con (.int 1)),(("FIRST_OWN_LIFE":Str),GK.con (.int 1)),(("FIRST_SIGN":Str),GK.con (.int 32)),(("FerryError":Str),GK.exc 332437021739526678278002),(("Giver":Str),GK.cls 306712044914 7),(("Host":Str),GK.cls 1215263604 62),(("LAST_LIFE":Str),GK.con (.int 1000000000)),(("LAST_PLACE":Str),GK.con (.int 1000000)),(("LAST_SIGN":Str),GK.con (.int 126)),(("LAST_STREAM":Str),GK.con (.int 999)),(("LEFT_OUT_SIGN":Str),GK.con (.int 37)),(("MOST_COME":Str),GK.con (.int 1000001)),(("MOST_FIGURES":Str),GK.con (.int 13)),(("MOST_LIMIT":Str),GK.con (.int 1000200)),(("MOST_NUMBER":Str),GK.con (.int 1000000000000)),(("MOST_SIGNS":Str),GK.con (.int 40)),(("MOST_SPANS":Str),GK.con (.int 8)),(("MOST_STREAMS":Str),GK.con (.int 50)),(("MOST_WRITTEN":Str),GK.con (.int 2000)),(("MOST_WRITTEN_AT_ONCE":Str),GK.con (.int 200)),(("Meeting":Str),GK.cls 21785059625889383 17),(("NO_LIFE":Str),GK.con (.int 0)),(("NoPiece":Str),GK.exc 22077439339750245),(("NoSpan":Str),GK.exc 86240048210286),(("NoStream":Str),GK.exc 5651827816973820269),(("NotMet":Str),GK.exc 86240599565684),(("Slate":Str),GK.cls 358300611685 47),(("Spoilt":Str),GK.exc 91742370622580),(("Taker":Str),GK.cls 362411681138 51),(("TooMuch":Str),GK.exc 23766421875286888),(("_law_alike":Str),GK.fn 91),(("_law_answer":Str),GK.fn 88),(("_law_cell_at":Str),GK.fn 84),(("_law_due":Str),GK.fn 87),(("_law_giver_does":Str),GK.fn 90),(("_law_host_does":Str),GK.fn 89),(("_law_part":Str),GK.fn 86),(("_law_signs_by":Str),GK.fn 85),(("_wall":Str),GK.fn 0),(("added":Str),GK.fn 4),(("all":Str),GK.blt),(("all_broken":Str),GK.fn 61),(("are_spans_above":Str),GK.fn 35),(("body_of":Str),GK.fn 41),(("bool":Str),GK.blt),(("check_begin":Str),GK.fn 2),(("check_of":Str),GK.fn 24),(("check_stretch":Str),GK.fn 3),(("count_below":Str),GK.fn 1),(("cut":Str),GK.fn 5),(("figures":Str),GK.fn 25),(("found":Str),GK.fn 59),(("holes":Str),GK.fn 6),(("in_turn":Str),GK.fn 58),(("int":Str),GK.blt),(("is_answer":Str),GK.fn 36),(("is_data":Str),GK.fn 32),(("is_end":Str),GK.fn 33),(("is_figures":Str),GK.fn 26),(("is_hello":Str),GK.fn 31),(("is_life":Str),GK.fn 28),(("is_number":Str),GK.fn 23),(("is_piece":Str),GK.fn 37),(("is_place":Str),GK.fn 29),(("is_sign":Str),GK.fn 21),(("is_signs":Str),GK.fn 22),(("is_span_above":Str),GK.fn 34),(("isinstance":Str),GK.blt),(("len":Str),GK.blt),(("list":Str),GK.blt),(("max":Str),GK.blt),(("min":Str),GK.blt),(("names_stream":Str),GK.fn 30),(("number_of":Str),GK.fn 27),(("number_words":Str),GK.fn 38),(("numbers_of":Str),GK.fn 43),(("ord":Str),GK.blt),(("parts_of":Str),GK.fn 45),(("range":Str),GK.blt),(("read":Str),GK.fn 46),(("signs_word":Str),GK.fn 39),(("sorted":Str),GK.blt),(("spans_of":Str),GK.fn 44),(("spans_word":Str),GK.fn 40),(("str":Str),GK.blt),(("tuple":Str),GK.blt),(("whole_ones":Str),GK.fn 60),(("written":Str),GK.fn 42)]
def xs:List (Nat × List Nat):=[(332437021739526678278002,FE),(91742370622580,[91742370622580])]
def xl:List Nat:=FE
theorem aE:qD 332437021739526678278002=("FerryError":Str):=by kernel_rfl
theorem aD:qD 91742370622580=("Spoilt":Str):=by kernel_rfl
theorem cT:qD 22077439339750245=("NoPiece":Str):=by kernel_rfl
theorem cS:qD 86240048210286=("NoSpan":Str):=by kernel_rfl
theorem cR:qD 5651827816973820269=("NoStream":Str):=by kernel_rfl
theorem cQ:qD 86240599565684=("NotMet":Str):=by kernel_rfl
theorem cV:qD 73059263014254=("Broken":Str):=by kernel_rfl
theorem cU:qD 298204816740=("Ended":Str):=by kernel_rfl
theorem cP:qD 23766421875286888=("TooMuch":Str):=by kernel_rfl
def Mt:List (Str × Nat × List (Nat × Nat)):=[(("__init__":Str),6872327479327219551,[(306712044914,7),(21785059625889383,17),(358300611685,47),(362411681138,51),(1215263604,62)]),(("write":Str),513020621925,[(306712044914,8),(1215263604,67)]),(("finish":Str),112603010003816,[(306712044914,9),(1215263604,68)]),(("answered":Str),7020675825757480292,[(306712044914,10)]),(("known_with":Str),507330387524976831460456,[(306712044914,11)]),(("next_parts":Str),521332113934423763874931,[(306712044914,12)]),(("next_part":Str),2036453570056342827636,[(306712044914,13)]),(("again":Str),418346264942,[(306712044914,14)]),(("parts_again":Str),135859872665656628713974126,[(306712044914,15)]),(("parts_of_holes":Str),2279350429444218050288784390251891,[(306712044914,16)]),(("heard":Str),448377483876,[(21785059625889383,18)]),(("hello":Str),448378203247,[(21785059625889383,19)]),(("reply":Str),491328138361,[(21785059625889383,20)]),(("put":Str),7370100,[(358300611685,48),(362411681138,52)]),(("draw_in":Str),28273260611201390,[(358300611685,49)]),(("sign":Str),1936287598,[(358300611685,50)]),(("ends":Str),1701733491,[(362411681138,53)]),(("reach":Str),491327153000,[(362411681138,54)]),(("take":Str),1952541541,[(362411681138,55),(1215263604,69)]),(("see_done":Str),8315163747390811749,[(362411681138,56)]),(("answer":Str),107127011501426,[(362411681138,57)]),(("begin_life":Str),464662488081084476647013,[(1215263604,63)]),(("start":Str),495873782388,[(1215263604,64)]),(("giver":Str),444150998386,[(1215263604,65)]),(("taker":Str),499850634610,[(1215263604,66)]),(("streams":Str),32497656997703027,[(1215263604,70)]),(("others":Str),122545758368371,[(1215263604,71)]),(("broken":Str),108243635103086,[(1215263604,72)]),(("fall":Str),1717660780,[(1215263604,73)]),(("tick":Str),1953063787,[(1215263604,74)]),(("pieces_by_turns":Str),583674933970360372264291001892499059,[(1215263604,75)]),(("part_to_send":Str),34780127400972871403634519652,[(1215263604,76)]),(("piece_of":Str),8100116882379468646,[(1215263604,77)]),(("hear":Str),1751474546,[(1215263604,78)]),(("break_streams":Str),7799763779075547922881686105459,[(1215263604,79)]),(("taken_in":Str),8386102064528189806,[(1215263604,80)]),(("part_came":Str),2073057138977531850085,[(1215263604,81)]),(("taker_made":Str),549591584905317559919717,[(1215263604,82)]),(("answer_came":Str),117787394794711584694431077,[(1215263604,83)])]
def At:List (Str × Nat × List Nat):=[(("most":Str),1836020596,[306712044914,1215263604]),(("text":Str),1952807028,[306712044914,358300611685,362411681138]),(("sent":Str),1936027252,[306712044914]),(("come":Str),1668246885,[306712044914]),(("limit":Str),465625246068,[306712044914,362411681138]),(("spans":Str),495806672499,[306712044914,358300611685]),(("is_ended":Str),7598521885552567652,[306712044914]),(("is_end_sent":Str),127482042954642681340718708,[306712044914]),(("is_heard":Str),7598521898286281316,[306712044914]),(("is_done":Str),29681726098730597,[306712044914,362411681138]),(("mine":Str),1835626085,[21785059625889383]),(("yours":Str),521561010803,[21785059625889383]),(("is_met":Str),115944243160436,[21785059625889383]),(("behind":Str),108187682958948,[358300611685]),(("room":Str),1919905645,[362411681138,1215263604]),(("slate":Str),495739565157,[362411681138]),(("told_end":Str),8390043809167535716,[362411681138]),(("read":Str),1919246692,[362411681138]),(("budget":Str),108256335193460,[1215263604]),(("life":Str),1818846821,[1215263604]),(("meeting":Str),30792258880630375,[1215263604]),(("givers":Str),113702655586931,[1215263604]),(("takers":Str),127961762460275,[1215263604]),(("sent_last":Str),2128684475675056370548,[1215263604])]
theorem jA:qD 306712044914=("Giver":Str):=by kernel_rfl
theorem wK:qD 21785059625889383=("Meeting":Str):=by kernel_rfl
theorem wJ:qD 358300611685=("Slate":Str):=by kernel_rfl
theorem jR:qD 362411681138=("Taker":Str):=by kernel_rfl
theorem zF:qD 1215263604=("Host":Str):=by kernel_rfl
theorem qKh:qD 1836020596=("most":Str):=by kernel_rfl
theorem qKF:qD 1952807028=("text":Str):=by kernel_rfl
theorem qKR:qD 1936027252=("sent":Str):=by kernel_rfl
theorem qK1:qD 1668246885=("come":Str):=by kernel_rfl
theorem qKk:qD 465625246068=("limit":Str):=by kernel_rfl
theorem qKN:qD 495806672499=("spans":Str):=by kernel_rfl
theorem qKp:qD 7598521885552567652=("is_ended":Str):=by kernel_rfl
theorem qKq:qD 127482042954642681340718708=("is_end_sent":Str):=by kernel_rfl
theorem qKo:qD 7598521898286281316=("is_heard":Str):=by kernel_rfl
theorem qKr:qD 29681726098730597=("is_done":Str):=by kernel_rfl
theorem qKi:qD 1835626085=("mine":Str):=by kernel_rfl
theorem qKB:qD 521561010803=("yours":Str):=by kernel_rfl
theorem qKn:qD 115944243160436=("is_met":Str):=by kernel_rfl
theorem qK5:qD 108187682958948=("behind":Str):=by kernel_rfl
theorem qKT:qD 1919905645=("room":Str):=by kernel_rfl
theorem qKO:qD 495739565157=("slate":Str):=by kernel_rfl
theorem qKD:qD 8390043809167535716=("told_end":Str):=by kernel_rfl
theorem qKV:qD 1919246692=("read":Str):=by kernel_rfl
theorem qK2:qD 108256335193460=("budget":Str):=by kernel_rfl
theorem qKl:qD 1818846821=("life":Str):=by kernel_rfl
theorem qKj:qD 30792258880630375=("meeting":Str):=by kernel_rfl
theorem qKv:qD 113702655586931=("givers":Str):=by kernel_rfl
theorem qKG:qD 127961762460275=("takers":Str):=by kernel_rfl
theorem qKQ:qD 2128684475675056370548=("sent_last":Str):=by kernel_rfl
theorem qLB:qD 6872327479327219551=("__init__":Str):=by kernel_rfl
theorem qKC:qD 513020621925=("write":Str):=by kernel_rfl
theorem qKx:qD 112603010003816=("finish":Str):=by kernel_rfl
theorem qK7:qD 7020675825757480292=("answered":Str):=by kernel_rfl
theorem qKm:qD 507330387524976831460456=("known_with":Str):=by kernel_rfl
theorem qKf:qD 521332113934423763874931=("next_parts":Str):=by kernel_rfl
theorem qKg:qD 2036453570056342827636=("next_part":Str):=by kernel_rfl
theorem qLA:qD 418346264942=("again":Str):=by kernel_rfl
theorem qKb:qD 135859872665656628713974126=("parts_again":Str):=by kernel_rfl
theorem qKa:qD 2279350429444218050288784390251891=("parts_of_holes":Str):=by kernel_rfl
theorem qKt:qD 448377483876=("heard":Str):=by kernel_rfl
theorem qKs:qD 448378203247=("hello":Str):=by kernel_rfl
theorem qKU:qD 491328138361=("reply":Str):=by kernel_rfl
theorem qKX:qD 7370100=("put":Str):=by kernel_rfl
theorem qK0:qD 28273260611201390=("draw_in":Str):=by kernel_rfl
theorem qKP:qD 1936287598=("sign":Str):=by kernel_rfl
theorem qKz:qD 1701733491=("ends":Str):=by kernel_rfl
theorem qKW:qD 491327153000=("reach":Str):=by kernel_rfl
theorem qKK:qD 1952541541=("take":Str):=by kernel_rfl
theorem qKS:qD 8315163747390811749=("see_done":Str):=by kernel_rfl
theorem qK9:qD 107127011501426=("answer":Str):=by kernel_rfl
theorem qK6:qD 464662488081084476647013=("begin_life":Str):=by kernel_rfl
theorem qKM:qD 495873782388=("start":Str):=by kernel_rfl
theorem qKw:qD 444150998386=("giver":Str):=by kernel_rfl
theorem qKI:qD 499850634610=("taker":Str):=by kernel_rfl
theorem qKL:qD 32497656997703027=("streams":Str):=by kernel_rfl
theorem qKe:qD 122545758368371=("others":Str):=by kernel_rfl
theorem qK3:qD 108243635103086=("broken":Str):=by kernel_rfl
theorem qKy:qD 1717660780=("fall":Str):=by kernel_rfl
theorem qKE:qD 1953063787=("tick":Str):=by kernel_rfl
theorem qKY:qD 583674933970360372264291001892499059=("pieces_by_turns":Str):=by kernel_rfl
theorem qKc:qD 34780127400972871403634519652=("part_to_send":Str):=by kernel_rfl
theorem qKZ:qD 8100116882379468646=("piece_of":Str):=by kernel_rfl
theorem qKu:qD 1751474546=("hear":Str):=by kernel_rfl
theorem qK4:qD 7799763779075547922881686105459=("break_streams":Str):=by kernel_rfl
theorem qKJ:qD 8386102064528189806=("taken_in":Str):=by kernel_rfl
theorem qKd:qD 2073057138977531850085=("part_came":Str):=by kernel_rfl
theorem qKH:qD 549591584905317559919717=("taker_made":Str):=by kernel_rfl
theorem qK8:qD 117787394794711584694431077=("answer_came":Str):=by kernel_rfl
def nP:Df:=⟨"_wall","_wall",top 0,["k"],["k"]⟩
def pG:Df:=⟨"count_below","count_below",top 14,["spans","side","place","low","high","middle"],["spans","side","place"]⟩
def pJ:Df:=⟨"check_begin","check_begin",top 15,["begin"],["begin"]⟩
def pH:Df:=⟨"check_stretch","check_stretch",top 16,["begin","end"],["begin","end"]⟩
def pN:Df:=⟨"added","added",top 17,["spans","begin","end","first","behind"],["spans","begin","end"]⟩
def pF:Df:=⟨"cut","cut",top 18,["spans","begin","rest"],["spans","begin"]⟩
def pC:Df:=⟨"holes","holes",top 19,["spans","begin","end","found","place","span"],["spans","begin","end"]⟩
def eV:Df:=⟨"__init__","Giver.__init__",qP 24 0,["self","most"],["self","most"]⟩
def sA:Df:=⟨"write","Giver.write",qP 24 1,["self","signs"],["self","signs"]⟩
def sG:Df:=⟨"finish","Giver.finish",qP 24 2,["self"],["self"]⟩
def sI:Df:=⟨"answered","Giver.answered",qP 24 3,["self","come","limit","spans","most_come"],["self","come","limit","spans"]⟩
def sF:Df:=⟨"known_with","Giver.known_with",qP 24 4,["self","spans","known","span","begin","end"],["self","spans"]⟩
def sD:Df:=⟨"next_parts","Giver.next_parts",qP 24 5,["self","count","parts","part"],["self","count"]⟩
def sE:Df:=⟨"next_part","Giver.next_part",qP 24 6,["self","at","end"],["self"]⟩
def sJ:Df:=⟨"again","Giver.again",qP 24 7,["self","count"],["self","count"]⟩
def sC:Df:=⟨"parts_again","Giver.parts_again",qP 24 8,["self","parts"],["self"]⟩
def sB:Df:=⟨"parts_of_holes","Giver.parts_of_holes",qP 24 9,["self","parts","hole","at"],["self"]⟩
def eR:Df:=⟨"__init__","Meeting.__init__",qP 27 0,["self","mine"],["self","mine"]⟩
def rA:Df:=⟨"heard","Meeting.heard",qP 27 1,["self","piece","told_yours","told_mine","is_fresh","is_known"],["self","piece"]⟩
def pZ:Df:=⟨"hello","Meeting.hello",qP 27 2,["self"],["self"]⟩
def pY:Df:=⟨"reply","Meeting.reply",qP 27 3,["self"],["self"]⟩
def oO:Df:=⟨"is_sign","is_sign",top 38,["sign","place"],["sign"]⟩
def oN:Df:=⟨"is_signs","is_signs",top 39,["thing"],["thing"]⟩
def oR:Df:=⟨"is_number","is_number",top 40,["thing","least","most"],["thing","least","most"]⟩
def pI:Df:=⟨"check_of","check_of",top 41,["signs","check","sign"],["signs"]⟩
def pE:Df:=⟨"figures","figures",top 42,["number"],["number"]⟩
def oW:Df:=⟨"is_figures","is_figures",top 43,["text"],["text"]⟩
def nZ:Df:=⟨"number_of","number_of",top 44,["text","number"],["text"]⟩
def oU:Df:=⟨"is_life","is_life",top 54,["thing"],["thing"]⟩
def oP:Df:=⟨"is_place","is_place",top 55,["thing"],["thing"]⟩
def oA:Df:=⟨"names_stream","names_stream",top 56,["parts"],["parts"]⟩
def oV:Df:=⟨"is_hello","is_hello",top 57,["parts"],["parts"]⟩
def oZ:Df:=⟨"is_data","is_data",top 58,["parts","at","signs"],["parts"]⟩
def oY:Df:=⟨"is_end","is_end",top 59,["parts"],["parts"]⟩
def oM:Df:=⟨"is_span_above","is_span_above",top 60,["thing","floor"],["thing","floor"]⟩
def pL:Df:=⟨"are_spans_above","are_spans_above",top 61,["thing","floor","span"],["thing","floor"]⟩
def pA:Df:=⟨"is_answer","is_answer",top 62,["parts"],["parts"]⟩
def oQ:Df:=⟨"is_piece","is_piece",top 63,["thing","kind"],["thing"]⟩
def nY:Df:=⟨"number_words","number_words",top 64,["numbers"],["numbers"]⟩
def nT:Df:=⟨"signs_word","signs_word",top 65,["signs","count"],["signs"]⟩
def nQ:Df:=⟨"spans_word","spans_word",top 66,["spans"],["spans"]⟩
def pK:Df:=⟨"body_of","body_of",top 67,["piece","kind","words"],["piece"]⟩
def nN:Df:=⟨"written","written",top 68,["piece","body","check"],["piece"]⟩
def nW:Df:=⟨"numbers_of","numbers_of",top 69,["words"],["words"]⟩
def nR:Df:=⟨"spans_of","spans_of",top 70,["word"],["word"]⟩
def nV:Df:=⟨"parts_of","parts_of",top 71,["body","words","kind"],["body"]⟩
def nU:Df:=⟨"read","read",top 72,["text","piece"],["text"]⟩
def eQ:Df:=⟨"__init__","Slate.__init__",qP 74 0,["self"],["self"]⟩
def pV:Df:=⟨"put","Slate.put",qP 74 1,["self","at","signs","begin","end","place"],["self","at","signs"]⟩
def pW:Df:=⟨"draw_in","Slate.draw_in",qP 74 2,["self","first","grown","place"],["self"]⟩
def pU:Df:=⟨"sign","Slate.sign",qP 74 3,["self","place"],["self","place"]⟩
def eP:Df:=⟨"__init__","Taker.__init__",qP 76 0,["self","room"],["self","room"]⟩
def pR:Df:=⟨"put","Taker.put",qP 76 1,["self","at","signs","bound"],["self","at","signs"]⟩
def pS:Df:=⟨"ends","Taker.ends",qP 76 2,["self","at"],["self","at"]⟩
def pQ:Df:=⟨"reach","Taker.reach",qP 76 3,["self","spans"],["self"]⟩
def pO:Df:=⟨"take","Taker.take",qP 76 4,["self","count"],["self","count"]⟩
def pP:Df:=⟨"see_done","Taker.see_done",qP 76 5,["self"],["self"]⟩
def pT:Df:=⟨"answer","Taker.answer",qP 76 6,["self","come"],["self"]⟩
def pB:Df:=⟨"in_turn","in_turn",top 78,["numbers","last","above"],["numbers","last"]⟩
def pD:Df:=⟨"found","found",top 82,["sides","stream"],["sides","stream"]⟩
def nO:Df:=⟨"whole_ones","whole_ones",top 83,["sides"],["sides"]⟩
def pM:Df:=⟨"all_broken","all_broken",top 84,["sides","broken","stream"],["sides"]⟩
def eU:Df:=⟨"__init__","Host.__init__",qP 85 0,["self","room","most","budget"],["self","room","most","budget"]⟩
def rY:Df:=⟨"begin_life","Host.begin_life",qP 85 1,["self"],["self"]⟩
def rL:Df:=⟨"start","Host.start",qP 85 2,["self","stream"],["self"]⟩
def rS:Df:=⟨"giver","Host.giver",qP 85 3,["self","stream"],["self","stream"]⟩
def rG:Df:=⟨"taker","Host.taker",qP 85 4,["self","stream"],["self","stream"]⟩
def rD:Df:=⟨"write","Host.write",qP 85 5,["self","stream","signs"],["self","stream","signs"]⟩
def rT:Df:=⟨"finish","Host.finish",qP 85 6,["self","stream"],["self","stream"]⟩
def rJ:Df:=⟨"take","Host.take",qP 85 7,["self","stream","count"],["self","stream","count"]⟩
def rK:Df:=⟨"streams","Host.streams",qP 85 8,["self"],["self"]⟩
def rQ:Df:=⟨"others","Host.others",qP 85 9,["self"],["self"]⟩
def rW:Df:=⟨"broken","Host.broken",qP 85 10,["self"],["self"]⟩
def rV:Df:=⟨"fall","Host.fall",qP 85 11,["self"],["self"]⟩
def rE:Df:=⟨"tick","Host.tick",qP 85 12,["self","pieces"],["self"]⟩
def rM:Df:=⟨"pieces_by_turns","Host.pieces_by_turns",qP 85 13,["self","pieces","waiting","stream","part"],["self"]⟩
def rO:Df:=⟨"part_to_send","Host.part_to_send",qP 85 14,["self","stream","giver","parts"],["self","stream"]⟩
def rN:Df:=⟨"piece_of","Host.piece_of",qP 85 15,["self","stream","part"],["self","stream","part"]⟩
def rR:Df:=⟨"hear","Host.hear",qP 85 16,["self","text","piece","told","is_fresh","is_known","answers"],["self","text"]⟩
def rX:Df:=⟨"break_streams","Host.break_streams",qP 85 17,["self"],["self"]⟩
def rH:Df:=⟨"taken_in","Host.taken_in",qP 85 18,["self","piece","kind"],["self","piece"]⟩
def rP:Df:=⟨"part_came","Host.part_came",qP 85 19,["self","piece","stream","taker"],["self","piece"]⟩
def rF:Df:=⟨"taker_made","Host.taker_made",qP 85 20,["self","stream"],["self","stream"]⟩
def rZ:Df:=⟨"answer_came","Host.answer_came",qP 85 21,["self","piece","giver"],["self","piece"]⟩
def oI:Df:=⟨"_law_cell_at","_law_cell_at",top 87,["_law_script","_law_k"],["_law_script","_law_k"]⟩
def oB:Df:=⟨"_law_signs_by","_law_signs_by",top 88,["_law_cell","_law_count","_law_some"],["_law_cell","_law_count"]⟩
def oE:Df:=⟨"_law_part","_law_part",top 89,["_law_giver","_law_parts"],["_law_giver"]⟩
def oH:Df:=⟨"_law_due","_law_due",top 90,["_law_givers","_law_last","_law_budget","_law_told","_law_served","_law_step","_law_number","_law_part_here"],["_law_givers","_law_last","_law_budget"]⟩
def oJ:Df:=⟨"_law_answer","_law_answer",top 91,["_law_cell","_law_giver","_law_is_end_sent","_law_come","_law_limit","_law_spans","_law_at","_law_k","_law_begin","_law_far"],["_law_cell","_law_giver","_law_is_end_sent"]⟩
def oF:Df:=⟨"_law_host_does","_law_host_does",top 92,["_law_host","_law_number","_law_cell"],["_law_host","_law_number","_law_cell"]⟩
def oG:Df:=⟨"_law_giver_does","_law_giver_does",top 93,["_law_giver","_law_cell"],["_law_giver","_law_cell"]⟩
def oK:Df:=⟨"_law_alike","_law_alike",top 94,["_law_host","_law_givers","_law_number","_law_one","_law_other"],["_law_host","_law_givers"]⟩
def wR:Df:=⟨"law","law",top 95,["_law_script","_law_cell","_law_host","_law_givers","_law_number","_law_ended","_law_last","_law_rest","_law_answer_here","_law_due_here","_law_k"],["_law_script"]⟩
def ds:List Df:=[nP,pG,pJ,pH,pN,pF,pC,eV,sA,sG,sI,sF,sD,sE,sJ,sC,sB,eR,rA,pZ,pY,oO,oN,oR,pI,pE,oW,nZ,oU,oP,oA,oV,oZ,oY,oM,pL,pA,oQ,nY,nT,nQ,pK,nN,nW,nR,nV,nU,eQ,pV,pW,pU,eP,pR,pS,pQ,pO,pP,pT,pB,pD,nO,pM,eU,rY,rL,rS,rG,rD,rT,rJ,rK,rQ,rW,rV,rE,rM,rO,rN,rR,rX,rH,rP,rF,rZ,oI,oB,oE,oH,oJ,oF,oG,oK,wR]
theorem qRz:qG nP:=fun _ _ _ _ _ _=>ar1 fun _=>rfl
theorem qSZ:qG pG:=fun _ _ _ _ _ _=>ar3 fun _ _ _=>rfl
theorem qSc:qG pJ:=fun _ _ _ _ _ _=>ar1 fun _=>rfl
theorem qSa:qG pH:=fun _ _ _ _ _ _=>ar2 fun _ _=>rfl
theorem qSg:qG pN:=fun _ _ _ _ _ _=>ar3 fun _ _ _=>rfl
theorem qSY:qG pF:=fun _ _ _ _ _ _=>ar2 fun _ _=>rfl
theorem qSV:qG pC:=fun _ _ _ _ _ _=>ar3 fun _ _ _=>rfl
theorem qFX:qG eV:=fun _ _ _ _ _ _=>ar2 fun _ _=>rfl
theorem qTE:qG sA:=fun _ _ _ _ _ _=>ar2 fun _ _=>rfl
theorem qTK:qG sG:=fun _ _ _ _ _ _=>ar1 fun _=>rfl
theorem qTL:qG sI:=fun _ _ _ _ _ _=>ar4 fun _ _ _ _=>rfl
theorem qTJ:qG sF:=fun _ _ _ _ _ _=>ar2 fun _ _=>rfl
theorem qTH:qG sD:=fun _ _ _ _ _ _=>ar2 fun _ _=>rfl
theorem qTI:qG sE:=fun _ _ _ _ _ _=>ar1 fun _=>rfl
theorem qTM:qG sJ:=fun _ _ _ _ _ _=>ar2 fun _ _=>rfl
theorem qTG:qG sC:=fun _ _ _ _ _ _=>ar1 fun _=>rfl
theorem qTF:qG sB:=fun _ _ _ _ _ _=>ar1 fun _=>rfl
theorem qFV:qG eR:=fun _ _ _ _ _ _=>ar2 fun _ _=>rfl
theorem qSs:qG rA:=fun _ _ _ _ _ _=>ar2 fun _ _=>rfl
theorem qSr:qG pZ:=fun _ _ _ _ _ _=>ar1 fun _=>rfl
theorem qSq:qG pY:=fun _ _ _ _ _ _=>ar1 fun _=>rfl
theorem qSK:qG oO:=fun _ _ _ _ _ _=>ar1 fun _=>rfl
theorem qSJ:qG oN:=fun _ _ _ _ _ _=>ar1 fun _=>rfl
theorem qSN:qG oR:=fun _ _ _ _ _ _=>ar3 fun _ _ _=>rfl
theorem qSb:qG pI:=fun _ _ _ _ _ _=>ar1 fun _=>rfl
theorem qSX:qG pE:=fun _ _ _ _ _ _=>ar1 fun _=>rfl
theorem qSQ:qG oW:=fun _ _ _ _ _ _=>ar1 fun _=>rfl
theorem qR7:qG nZ:=fun _ _ _ _ _ _=>ar1 fun _=>rfl
theorem qSO:qG oU:=fun _ _ _ _ _ _=>ar1 fun _=>rfl
theorem qSL:qG oP:=fun _ _ _ _ _ _=>ar1 fun _=>rfl
theorem qR8:qG oA:=fun _ _ _ _ _ _=>ar1 fun _=>rfl
theorem qSP:qG oV:=fun _ _ _ _ _ _=>ar1 fun _=>rfl
theorem qSS:qG oZ:=fun _ _ _ _ _ _=>ar1 fun _=>rfl
theorem qSR:qG oY:=fun _ _ _ _ _ _=>ar1 fun _=>rfl
theorem qSI:qG oM:=fun _ _ _ _ _ _=>ar2 fun _ _=>rfl
theorem qSe:qG pL:=fun _ _ _ _ _ _=>ar2 fun _ _=>rfl
theorem qST:qG pA:=fun _ _ _ _ _ _=>ar1 fun _=>rfl
theorem qSM:qG oQ:=fun _ _ _ _ _ _=>ar1 fun _=>rfl
theorem qR6:qG nY:=fun _ _ _ _ _ _=>ar1 fun _=>rfl
theorem qR2:qG nT:=fun _ _ _ _ _ _=>ar1 fun _=>rfl
theorem qR0:qG nQ:=fun _ _ _ _ _ _=>ar1 fun _=>rfl
theorem qSd:qG pK:=fun _ _ _ _ _ _=>ar1 fun _=>rfl
theorem qRx:qG nN:=fun _ _ _ _ _ _=>ar1 fun _=>rfl
theorem qR5:qG nW:=fun _ _ _ _ _ _=>ar1 fun _=>rfl
theorem qR1:qG nR:=fun _ _ _ _ _ _=>ar1 fun _=>rfl
theorem qR4:qG nV:=fun _ _ _ _ _ _=>ar1 fun _=>rfl
theorem qR3:qG nU:=fun _ _ _ _ _ _=>ar1 fun _=>rfl
theorem qFU:qG eQ:=fun _ _ _ _ _ _=>ar1 fun _=>rfl
theorem qSo:qG pV:=fun _ _ _ _ _ _=>ar3 fun _ _ _=>rfl
theorem qSp:qG pW:=fun _ _ _ _ _ _=>ar1 fun _=>rfl
theorem qSn:qG pU:=fun _ _ _ _ _ _=>ar2 fun _ _=>rfl
theorem qFT:qG eP:=fun _ _ _ _ _ _=>ar2 fun _ _=>rfl
theorem qSk:qG pR:=fun _ _ _ _ _ _=>ar3 fun _ _ _=>rfl
theorem qSl:qG pS:=fun _ _ _ _ _ _=>ar2 fun _ _=>rfl
theorem qSj:qG pQ:=fun _ _ _ _ _ _=>ar1 fun _=>rfl
theorem qSh:qG pO:=fun _ _ _ _ _ _=>ar2 fun _ _=>rfl
theorem qSi:qG pP:=fun _ _ _ _ _ _=>ar1 fun _=>rfl
theorem qSm:qG pT:=fun _ _ _ _ _ _=>ar1 fun _=>rfl
theorem qSU:qG pB:=fun _ _ _ _ _ _=>ar2 fun _ _=>rfl
theorem qSW:qG pD:=fun _ _ _ _ _ _=>ar2 fun _ _=>rfl
theorem qRy:qG nO:=fun _ _ _ _ _ _=>ar1 fun _=>rfl
theorem qSf:qG pM:=fun _ _ _ _ _ _=>ar1 fun _=>rfl
theorem qFW:qG eU:=fun _ _ _ _ _ _=>ar4 fun _ _ _ _=>rfl
theorem qTC:qG rY:=fun _ _ _ _ _ _=>ar1 fun _=>rfl
theorem qS0:qG rL:=fun _ _ _ _ _ _=>ar1 fun _=>rfl
theorem qS7:qG rS:=fun _ _ _ _ _ _=>ar2 fun _ _=>rfl
theorem qSw:qG rG:=fun _ _ _ _ _ _=>ar2 fun _ _=>rfl
theorem qSt:qG rD:=fun _ _ _ _ _ _=>ar3 fun _ _ _=>rfl
theorem qS8:qG rT:=fun _ _ _ _ _ _=>ar2 fun _ _=>rfl
theorem qSy:qG rJ:=fun _ _ _ _ _ _=>ar3 fun _ _ _=>rfl
theorem qSz:qG rK:=fun _ _ _ _ _ _=>ar1 fun _=>rfl
theorem qS5:qG rQ:=fun _ _ _ _ _ _=>ar1 fun _=>rfl
theorem qTA:qG rW:=fun _ _ _ _ _ _=>ar1 fun _=>rfl
theorem qS9:qG rV:=fun _ _ _ _ _ _=>ar1 fun _=>rfl
theorem qSu:qG rE:=fun _ _ _ _ _ _=>ar1 fun _=>rfl
theorem qS1:qG rM:=fun _ _ _ _ _ _=>ar1 fun _=>rfl
theorem qS3:qG rO:=fun _ _ _ _ _ _=>ar2 fun _ _=>rfl
theorem qS2:qG rN:=fun _ _ _ _ _ _=>ar3 fun _ _ _=>rfl
theorem qS6:qG rR:=fun _ _ _ _ _ _=>ar2 fun _ _=>rfl
theorem qTB:qG rX:=fun _ _ _ _ _ _=>ar1 fun _=>rfl
theorem qSx:qG rH:=fun _ _ _ _ _ _=>ar2 fun _ _=>rfl
theorem qS4:qG rP:=fun _ _ _ _ _ _=>ar2 fun _ _=>rfl
theorem qSv:qG rF:=fun _ _ _ _ _ _=>ar2 fun _ _=>rfl
theorem qTD:qG rZ:=fun _ _ _ _ _ _=>ar2 fun _ _=>rfl
theorem qSE:qG oI:=fun _ _ _ _ _ _=>ar2 fun _ _=>rfl
theorem qR9:qG oB:=fun _ _ _ _ _ _=>ar2 fun _ _=>rfl
theorem qSA:qG oE:=fun _ _ _ _ _ _=>ar1 fun _=>rfl
theorem qSD:qG oH:=fun _ _ _ _ _ _=>ar3 fun _ _ _=>rfl
theorem qSF:qG oJ:=fun _ _ _ _ _ _=>ar3 fun _ _ _=>rfl
theorem qSB:qG oF:=fun _ _ _ _ _ _=>ar3 fun _ _ _=>rfl
theorem qSC:qG oG:=fun _ _ _ _ _ _=>ar2 fun _ _=>rfl
theorem qSG:qG oK:=fun _ _ _ _ _ _=>ar2 fun _ _=>rfl
theorem qSH:qG wR:=fun _ _ _ _ _ _=>ar1 fun _=>rfl
theorem oks:AllZ (fun d f=>DfOk G xs Mt At d f) ds fns:=by
 refine⟨?_,?_,?_,?_,?_,?_,?_,?_,?_,?_,?_,?_,?_,?_,?_,?_,?_,?_,?_,?_,?_,?_,?_,?_,?_,?_,?_,?_,?_,?_,?_,?_,?_,?_,?_,?_,?_,?_,?_,?_,?_,?_,?_,?_,?_,?_,?_,?_,?_,?_,?_,?_,?_,?_,?_,?_,?_,?_,?_,?_,?_,?_,?_,?_,?_,?_,?_,?_,?_,?_,?_,?_,?_,?_,?_,?_,?_,?_,?_,?_,?_,?_,?_,?_,?_,?_,?_,?_,?_,?_,?_,?_,?_,trivial⟩ <;> exact⟨⟨rfl,rfl,rfl,by decide +kernel,rfl,by decide +kernel,by decide +kernel⟩,by kernel_rfl,rfl,rfl⟩
theorem qGs:ds[92]?=some wR:=by kernel_rfl
theorem qGq:wR.qual=wR.name:=by kernel_rfl
theorem qGr:wR.ps=(["_law_script"]:List Str):=by kernel_rfl
theorem qGt:(("law":Str),GK.fn 92)∈G:=List.mem_cons_self ..
end Lk40
namespace PySem.W.Fast
local macro_rules | `(#check_failure 0) => do
  let s := "JH5[4Vo<=3nCITGSxc_4(7^6lmTvBOaIRO.rg::7rFx$ldchf,[7.JX?FL/x&0j$)V3j,HC%a(:+GJ:/fi(*+e>(`&eYi<&HNp,m8;=-YirnJtt/ryfUJk5*sHQw*:I=EA-Ph<s1Wb9f9K)l&$6j/''Xk.+h//5Y$(U,]&hbM$c'XEshdQ#x6($#p[LSyRCE_<W?lH.#t+9cDfa:0F6HKqi,8-^N%18d3d,Dj/X9]ANb?,:AO>3P6t,GC_*HF=&f9L'gWu)0>v+$$7B>/%2Bo3<bRh:9B92?1Rq<=iM#HC4hejy(J6aqgHB'7r'Lv:.FG>Z:oura97F;DaEuLyD+VvAAsh[_vgYOd#SH+Tl]S4w.&B3+q]%UrI$n2Ra#qBoY#)UZm*Pj6g$2<'*<GK/*tDxAg7Vjq>Ox6^;WSI&*797d9^6yFJep(-FNJkCiN+'9=l;J#e['`>kZ4+ZRM[t-FS]O=x21+Be85'-au]bh;->8MVA9%w&Kg/duV#nuMkd('dnQ'sks1*LY&s:4AT]3cNQq[kkK&mgl1-A(5<CeKVd;RR:#jgWi[uEeI:JD]yfLDG(9VGk2-CIZaFm;6O=H74oV?&.r`Nq%l7b/G'/so'3UD>Xb-uZqC%o8<;W9:ZYxB%KDylvLtQ/0^<h*npAkQOm^fY4s/<,$oL3N&a=>ru]Afdrn3$j:%Kt8^/bcf(*wXq%WseiT2EE7N*heL)lV.Xn(/oZZ7QobpJPME,Ik]j8oOPM-(__ruK8qo3>8*,y:H;[UZ`c&161[*F%8v#;Gw,EYyK6TGo>H',DREO([XO:'4>b%i,UO?0;/6WE&W,lIK?NWo+$Uppow'N=WORRQs,$T-fCUIPX)JKj%nsAB0uVHM&X^*p4]x8;ee]_SC&e/]j.#._3U5LemyZkLO%.kE541^4[/VhxnQfa0=:Ret2=`*3T]'3_M9JsIZ3QuoPTpngZtemX-0Fa,u/1t_d=RKE/yo#S/Qn8RB]6.k;oMmVZW&b]:]P0C[FO-2McJ6sbcA^X'8EIf]#xf>wo,67t6JWxiR,%g(j^Y5#+YK*jHKci2$Dn,.cJ&[Ca(lm4b)6'bb'>BjE#F2vq[ZVj5M<FVg*pp)'RtO;?,[k)s`:wxC-`Cp)>Dk-j/*vF_G&<5Rt]3eXS/lbgG0&vRr7a2+mFJRmljP+?C8V;]WZwQ#<$-fAy%j7CM.p$9-nZdlCatAdAtM)s<$WS3_o>?/,Uoy(S7RT><eqvOa0lV$UM`?K+j3M3lZ0Y5O&Y,f+qx4?FNBEg$RL`WUTQ]W9N4%ir?oZ(ha19_$`BtT<n(xTR[m*XGY/(4(<SE[=Enuu5=RTXWl6CZLSyWxxKq6+_^O.d&`NTP-WWpkn1RLHgDv%_[QgwK14w]W$YI;&,P-Tx1KGF]C:uGTuEonPet__O'X1.vPvl&(KmE/nb+dAsh9:O=v,.td?[7gZK1QcvhtKn7fBcTA]RsN=CB2E>+?Lt9O7rG;H(.xwUER);-JPsT97Zi30$1I#n/.*BSAccT4YBP&:p/<VP6kViO$tLlZM^]X'O9nU8]Ykjj$jESEG(e9kH67-n%ilQ(kPTt<]__Vafi)Gipf%`&&>%LNF'mu]*)B4n:e_%rd'FNvJ8-Lu#V<BxSf*5DnVnsmg0`lpIns'Cqfu'6O6WJd^L&iBGwjZH4$M>(Y/crybYdJeAB?)-[Q#J;-bg'mh=JAwcu[0Jc]ECn]CNG.bIt2mSk.DIhC4#'TW&/*QR&#M#MFN8M$dR_p,OknHOt`61qkLfZ7p4A(PEY9nfDQJ)qWW?bF>n#],u22$UkoO:/ti5WS7Qv7I'gW*825S';vnV6ga1V4V0]EQY#u$Yly8)'fr7(g-0'H?NoT;RTd_y*QeU1Yb-LW5jLShk9P]Fj5>p4g#%+[`pF[XVM9cY+KXryo:eLrFTsF7PKNrAZyA%yMP15jP?#5+5R+Y.F5%5<&0XGt>`S33[p)cwuqXeMAXD5klIIvFEV8X6J/fEqjb--/8&qfX^v0mcEyNb=Q=pkHP4%puDOMVmm4U#9aWqwk3[c[OM??#IJ3vUk`;'N$k`o;n&&qY[nTblqIy2+RGpXfK#LeLb_6`B&sug)P^5bD04F8jdP,[>-FcbrJBky<4E.]4c16$`qN$j%]n0tc<DN?oqfti%5^&/BdGOGbgmITQ'toxROX[N4Mji#N8#skDQ:v*=_D&vVk)6D%1pjtEMfkm#XfoDQkplXgptTfCBTYxT2_cn6IY`U6L#-fU7GCGB1XM_XDWBfmjIH$_-jS&4<ks-`]6JwW^No>p-o/F-?k^36mSg50gKcIJ'W7qAao3Y),+ZKXDhhPC`-#&8aionTmj._Z#KT^aH>/JwuT,3K[/B[]U6gtj]?GRq9:t-f[R4E(vUdNK1p4QE+)Du[07f*r.?Lbj%`CjCgS]EiEG1HG./rUE(ZZ/Q/j3ho:)D^:9C+$wVjoUUkYRiK#EZsOw5iu01Nn$s^+u0)WL1[l2Op00-=+rn0S.Y7d(6,/GM?R1p%I9Pl(3`X_(H)XlpD^Jx()?ogenkqd7jvRF<HC<gxl-pdhj[EbA#BcC_[69vP3Jl1(CB$?+d4M5QA#s2(a9mTP;b`(K<<bIS3J(tyqrYqg^Vjj+6=nZDs_v=:Us(cQmhu5kZbPJU%L`wfp7jL$(^3*I&HNh+DwEw;ZTx0pR7Dq'Bj(=:<R:w2&5UB?u[HystF2Ya+ipi#qNh*N(xFLbLxCSGJ[y^w4EGE;[iZLH`N4+lB88s?n_7BN+Y<->K76:3rg)lbYqxcd8,v'Z=5[L5B]AJs.,ECX]=+W`2x[jbqau$1c>V^YDFi#gH0`iiq6^:jDidg<9t8H+?wtin9?Tsc`Le'#%w^*/?9^1]A6v1T[Uks:`M(yEs.*2B'lT+b09k&=pICy*iv*9fdPEG,CVh(:w0u2a,e4l0ZL9k+eHJKVdVn#Xx='_,8DK3F7A5x;i-7U*aiG/7`NttM=INg,/qQa,>c<$t/YNlM2G>mY.5^Uqdht]Uopvkl22UmAdNy(gk,TIg>$5?6;P<lWjVe?+>?P]QQUtY#c0d#2/DK=>46,%CxLG>hHgs]_w8weNy37bRT7iuJe;L8ik?5#B:RnJ'CHlNFFb3V53Cb-iEkfaJA1u]a<oYmXl1]5Z>LW%DPjql;Pkn`Rk*ayvgCYUD0QsGT0=x'J(iXFPB#%t^K`sSaOTJK)2Y7Eh]iLhVuTm=qxlacN9k1pet&tCr9`nd3_kN'W8h*(TpJ%cSx1w<;if(Y%5aRF[Ytb9mpSnE(p22Y_[6M(FvV]w6'cv;73r,nc%w1oO#ghjOQMm08tYAd1W>jt:W/E&cY,wQbdJc<UHiRJ9P_>P+u2A0_)d/.an94b'tEsw>cFRewtRBFh6S=v4K,*6M?DSSq-tS9]97.G?^Cj'o>(:PoEIqnauUrjwu5%H6'LsS;l?_V4a:k%FKfgP`H64S_vSS(5QL$FCkge,*JP9NPs>)1Nlwhc/DR$M&7(Vw)v_0#D-b:T>)(kG&-lsI*rudsB>&Ph.g2BV?o:_%9fb9]>iQ&k`2eEf>`0YAk9v;`=Uwgm]Wq84%Jr^tV`:%x9Jq?^3^WZ]13S<kSf[L90_L=Nw&KUO$955JQak&S,642d6-Fyt+J2('[;Z9?hW:?c+]#Ztg2CXxn5%H1)(<&>cWayZ`lZ=aiy,_R`T_C,a[$aN_jM-gVcaM6(QO+Qy'5R%(Hw,mA2?wAYT&P<aC4odW)&[cs.<n>'P6G:E+;?..>b_fmDd`YO[rc/exx1E=h4HA<O_#LMyHOw0dS2nk]6X]T:M?$&gjsTp:>6kNlS<CJs:<AB.<'mLNBEV<Pu/[e=rQU:.q6olXT7:7S5ncgWF(T2VkQsy/LT9/x#2kV>VS)-1wThZaLThm%Vf=5.%VOlpq=6hEV/qfw9AfD*/1^_u4FYpvq*GYbju]=Vo`5V5Tg*<r?7S*yuL8v+RBx7FRWCc&2Pq^dBeL`ej.PF0bR,1dGOqCprH+Sg*wuCK,YDQ5=y9>JLv?6yOIi9AW-3DlN,f4PD:3iv?8n1:jZwjFPDZhv[MeFp(9bg3`A-qAx&0]EC8bZFa9UWcyRcOk]hIO4h4PcdI&dJW=xSmC<CKG>B4[R9GWMG#NMais[sl:PkQX;ci1GNK$#3fKhmf&Xh&:/mBgdCeS9v)92rU&&3jYpP>G-Ax?M<T`_?QAXOn%MOl1nAVQJEimVCTA2GF,]=>ae?iY[6nHXUU=m*<Qd6r1D<I&pQb_ck39dHEa#<dS+9Z'1T+JmY#0cdjeoUC^L/gohI45mWK/F:to;](:O.dx=sKr1+o+cGH6kce?[sZjJH)swX9sW2e/?bs1t*j.s&W>C8Wr/h5A(5uHdpadBvUbO'?oUa*kCEsmJnxJhg:jHl?nO4QHNd'aKkK79RauyBkjLF8Ex2$0YjFDOQoyIwVggPEqAHn1QeFs-q-rTc8e<(93eNxo;e195hD.mGO`++uAFXq)W_&1xymH-]-[3Z'WXp%B'Wr3hX%.G*%U0_e^7mrmBQC%2+Rr932^#JLHSDS5PEALOY#o).mrGy#OXEDltmpiCci#Fv[fe>QZB6T6xQ]eTuULRl[Ndy18BZEl&WRNQ9XHW]R6b]$*X9h:[I*^3CCWFmk+,w0sQBO?$XkMCRYVIJK:_(9L`dt,xGpGkae?Gg79'>;0S+T]Sl^*j%Be5XNoS<#C7Q]y:RE_w_b4M.xNr]^B6P)]x;?BWp1/Lhi(_4'igM=Zj&63wobAC(0J$`'m&j]y7nRkK$lhc6HN`iX`AEZqsk1>+qDZc),J#B[%CZ8:50,5I3n;f4MQ>$+>70E]p/Afb[wK(6JO09C-q(+c)bV%0Mgn_*bOY8SA-7c^fI(qk#5f^uFM^sOGQOHou2RhsY'70m5mEf)K-Q2U%6^v&kI.)Ui[3rGGfAkLFKMOnU/<41V`k5Z;Hy+XfUKWZ%&C<,92kDrg?Q56dL/OxDLAG=gUKV;H1E?,>[DB'=B8dY;sVe?CR$(dMf4/0KSX<gU#i.+wo]LrG#Il#(=f6x]F8J9,ID=9mo[m[3E(x$I??DvJ#bDB$a?:k(WPw$fo(P$98XOmyRGh0Rw(dwbi`eU3l[RTAiSy2&[QbTvh3]Vr><1'3o2Xjpbr1=qB6y-o$]%41^6#WJ-ovkaV9bTyBtMyc/9FnWrwQ;6QPg$JIn8^3Jt590mb_KeVfm)Jf0gPk*pXPWLv-L&1qX6wlqlVm<#x%Jkx&CGfIalU9]qvT.N^8wr8oQ+LJ]837S7[l[)o8]j0f*]jxb:OrC7fVhqZS&*jfU7eURW`J5s3VsXdusU9jDtSxZ[e20^PvC2;pGXUG`Zh3w`K7ux=Rqj]N;1#1e=Rb$05D0CmH/nP/AonCYw)lhb0q6QsO`Mp^&CH>er;l<&eBa(RY]s,Q6kaFL8V5Plx$%faEh<-heeVj,:TB?ca_NR.BkEAj1K8-xJ`<I3+[E=.]U`a'1#02<RP388ZE;-2GI$dq=tjh=$W[=Ua43XJU_%3xk`=BqAcSKpZk%&WU=e5rvKLLd&':eLh9x(2K5HWEs>]k)$-`O?(>K3QgKpX*RUP6]>p0ZoSJ%K%kiqDeKw:8-PFWTwt9fo0GSsigega)*iW/L<%>wh1ZrL?s`p&_ZOVHB,dQWIgA.'tg8O9Q*gt01P&2^87h?TsHWDX*??g`1P_OLJnSf^Brhihx[^4%ga77,a^nVAHc?Lv-iGhtWJ,5pXsP_D;my-Y,x%RC.EUNp#hKcX(6:pVoHqI6<Ta.7<xyExiX<3ysm_[A8Ow9x`EI5hx'efbO[*V>O?8=c*5`&sv'9$TcNt#%?3(?F?'_BCLl6&c&4Wf>JMcI,qQ+TE#IVFn'0xab.]>D$>YnI;B,NP(P*osMaO=6(GT1Od<1]rK'g)(:eV8A8EgWO,[c]WPa`7QnM--s_N$'ESFNfYF36hIlWJv)L4[x=EJHrLdgUxUkl1]`lth+l_%,Qj*LYT3)/VJ3ph+0dxj^0VT;bXk2E`M:J4<KSC'R^-nMcZAY(4sHgfA<;/)gKYQ+ZZjOx$M)(,4NU6X5=k2&<ckooK_WM_Asgf],/+VZ(,'*tNJm$`x[X*5S8+60LO`37%yTrQVJOdOX^aA&&HITt07Q'ZG0]bds+7:,1R]Dr$uFdxOmX>JP_60E)A-Aiwi#7m7/6#hZ2OI8>Y#ctA/ZfX_Ko-fPbId(_TFejFdnHY:uqkPu;g'_U'jLriNF$2VEk]1h,BR&h-[IF/J/FrU/j*Bfsgy1U*89ir<RnE4k]yw&:xA]%u'd;obB.l+U0rEr4RLnMC.:kfRd/Kj'qpIFFJHlUpXr311%aArJoa<%Am>+MrCqb_vTg[.,VM]JLg<3x9:$t=Y.bkU_8(v>U)8um%O=Nh*:A#koL^KnKGq9LIlQ&biu(;#,+'su5Y4l.4$w</M.$VI'BGwF,<Pk`tjox_MK_?EdeIVdR[glyaEMs1RYH&A0>JP5>5YUtL'/UtV>=>T'?h*18%*Qr`#KR*`+Odj-:3oEp+bw%ITDmP(JOqJ$cLM`<B8WU;VAw>mT3hn7A?Pf#a)2H(Rqi[v`8TmB]10MRuX&sw77]&/(WxPrK9iXMMDuVOdfR^nWP(m;;U5ac(G6Sl.d+W)cIpAU?AnN*(huC2.nN^3<03Wh.?x_c?]OM?c%`vH`cUVKs4Wy:#noBi^OV-$<dW'WFD%W)b<UNrB3]ZkhXt8h_/oo4IF=3cM'/,ZZ`XYN^tRs0FAX=55X2vfxxY&57(j;gtF1(>sYCrb`x]m5OO1pG3j9nWtH<SUWFE%A&9'sP/ysiB)>-LP'0KG1-9&fSGVP6E3$SCyg%d)w&4vdCx6o=Qk9)McDUGM-V?dyLN3qJE*wI('IBmW]kclBvJeLL'<,+ur+QHZYs_5C0oLflp#^S:MdQeBP62*)mr+.]AW1ROUOAKwV6^j#w#SyAXC)NU%YoZApksF*;hf$s25j/9`i=`$81DklDKxM1iB5h-k5u3$;>%lpvo6S^b`Sitr'K[pQ?3i_eCMdQyjpVpk?2vF5(i]q^1RKGJ%*Ss=gh'%OmggNllLSvo8H3ASQ[MJo#*`8x8P?&CklbAIe]%NK0v6nM:sCYtByp3K35Y/`0B_i$Bp3`i9x.sN*.LbG1ZNmL6RTLc5wG.o=DoW0+(Ud[prQ)/kh8Z-$*LL>$O3JZN^;*bP+7u1AK<FCKg(bk$uW&-B;QP6*O)(9[:]6=/]YvQ]xyI-lh%c+;%E`pku_9gJ:_8*ajWpe*hhG+YP:ebE8V,k]7a(NN3iUrSi+PCMh^QsysApYf-c/%>*lr6Gm:5-SLN19*fedOom5%VSa=p)q[b]Fi//eq7GbfrH8uWk4SFu[][?eaJ4Oufa]U^>DRAF_'.dRASJ(Fn^L76%OnkDB75iYTuBcTS9)uMvq8vPd9ZAUF]JYyiKw9ZHA'D0H<(0Yo7?E*?W-YDD9l34MDyB+;8qk)3k[<]y:^ET_JaY)S,4k+QSk';xq>P%,[]oi;`(UR(Lt9`=7Y/bPIwR4HAro4HNBoVRpnOSmnaI8v-x05cYUZn^u:=yH&k^[M<ckhfJ>h.>Bx#&6M(r[Ew4[>V,l*m#a;&O&MwZG*Z55;v26kVAGj=(ohHq.HL>3:o6P_R3T$=L+Cw+C>P[:b6C'M#7lcZeVi^s0P<9Fao]vIq*o^vPjq/>ZULVbK*P3wjlW`=:BH^:[ZH.k?mot).4=lSlkDc?vkUDjbK'f/:RLdDHTny*'dmi;NuiW=QhLfwXlEWevJcTb$V%ocnw%Bgxw`lgcs#,vggoqi]b:W2CU1iZ%CEfA2*Z_Q6k^(_P2;^D?CHaqIwrDjOZ>R.DrDt5`c/=+`_e#hjFnD5U.`%*s,>;69pnOQXOO%/Gc7YZMMK6#U9]`uXy3_Si;+`uTQyX,V,5a`:yI=AC'?0v<]v<`h$Xtk:hiA)(uo&J=0P;eEk^PJA,/8%RQ^>vIMB?<P_Bwnf%i4qv1qcaW:q,D4$_O:mDV>_F0*3a%ub/aERD7x55FuEcF`jC;VKHe)2_%`tFwZ0KyZhVydX<oVY/cEI-wBwxgEPtUQ.Nv/R[>`nKgK5_39FtZu;^U;$Ga648H]RE&gkPj]+-QFMhJ#[D5u>=:X4N5Gvg%qJ3W>2R`IN^EoID8b/v&cjG+N*vMHmyD$3IacWW($qkcPe`nIv-#=9q742yT?+YjAsOTw_NM#fAy_6OGN_SAn'RuE&e?6`?;m&qv]Gm-Hv/>+?G)[vQE,+9Hu_6/;XZh#ekabLx-;]w=G]HEuRrb6UfOWn+^tTlT/HRHioy'YF[^aTUVB/5[I,W-rsy(CwCapKi#>,Q:*.bVvS=[C^8v5K-I<I-0)Qf<nWs)MppeGJTb0F%f*k$n&kc7jBoTnq[)B0S9jo*9xCnv:0o0:Y9DdF()%GBo7IfDL6tB<XJn]D^]i?KrH&/6>4<E>^=Y]bk1P&<]XsS3E6`E.*ojwq-S_X".toList.toArray
  return Lean.mkNullNode (← (Array.range (s.size/10)).mapM fun j => `(def $(Lean.mkIdent (.str .anonymous s!"tw{(s.extract (10*j) (10*j+10)).foldl (fun n c => 85*n+c.toNat-(if c.toNat>92 then 37 else if c.toNat>64 then 36 else 35)) 0}")) := 0))
#check_failure 0
end PySem.W.Fast
open PySem PySem.W PyProof.Rows
open Fy Lk40
set_option maxRecDepth 100000 in
set_option maxHeartbeats 0 in
theorem PySem.Challenge.cw_ferry_k40_ticks_as_own_givers_holds : PySem.Challenge.rw_ferry_k40_ticks_as_own_givers.Holds := by
 w_on;o_law;k_head;(case hw=>w_witness2)
 k_fill
 refine Fy.walk (l:=PySem.Challenge.rw_ferry_k40_ticks_as_own_givers) (G:=G) (xs:=xs) (xl:=xl) (Mt:=Mt) (At:=At) (ds:=ds) (fns:=fns) (B:=1000) (i:=92) (d:=wR) (x:="_law_script") rfl rfl qGs qGt qGq qGr (fun w h Yy=>PySem.W.kIn_of Yy) ?T (fun ns hl=>qMa 1000 30 ns hl) ?B
 case B=>
  intro fd f K F s u;obtain ⟨oc,od,kV,doc,pm,an,cdv,ct,osl,rfl,lk,hcd⟩:=F.ex;exact .of_eq rfl
 case T=>
  intro w mg h KX G;refine' gM (x:="Giver") KX ?a ?b ?c ?d ?e fun qa0 qc0=>?_;(case a=>k_is);(case b=>k_is);(case c=>k_is);(case d=>k_is);(case e=>k_is);refine' gM (x:="Meeting") KX ?a ?b ?c ?d ?e fun qa1 qc1=>?_;(case a=>k_is);(case b=>k_is);(case c=>k_is);(case d=>k_is);(case e=>k_is);refine' gM (x:="Slate") KX ?a ?b ?c ?d ?e fun qa2 qc2=>?_;(case a=>k_is);(case b=>k_is);(case c=>k_is);(case d=>k_is);(case e=>k_is);refine' gM (x:="Taker") KX ?a ?b ?c ?d ?e fun qa3 qc3=>?_;(case a=>k_is);(case b=>k_is);(case c=>k_is);(case d=>k_is);(case e=>k_is);refine' gM (x:="Host") KX ?a ?b ?c ?d ?e fun qa4 qc4=>?_;(case a=>k_is);(case b=>k_is);(case c=>k_is);(case d=>k_is);(case e=>k_is);refine' vL (x:="FerryError") KX ?a ?b fun xa0 xi0=>?_;(case a=>k_is);(case b=>k_exc);refine' vL (x:="Spoilt") KX ?a ?b fun xa1 xi1=>?_;(case a=>k_is);(case b=>k_exc);refine' vL (x:="NoPiece") KX ?a ?b fun xa2 xi2=>?_;(case a=>k_is);(case b=>k_exc);refine' vL (x:="NoSpan") KX ?a ?b fun xa3 xi3=>?_;(case a=>k_is);(case b=>k_exc);refine' vL (x:="NoStream") KX ?a ?b fun xa4 xi4=>?_;(case a=>k_is);(case b=>k_exc);refine' vL (x:="NotMet") KX ?a ?b fun xa5 xi5=>?_;(case a=>k_is);(case b=>k_exc);refine' vL (x:="Broken") KX ?a ?b fun xa6 xi6=>?_;(case a=>k_is);(case b=>k_exc);refine' vL (x:="Ended") KX ?a ?b fun xa7 xi7=>?_;(case a=>k_is);(case b=>k_exc);refine' vL (x:="TooMuch") KX ?a ?b fun xa8 xi8=>?_;(case a=>k_is);(case b=>k_exc)
  refine' qHU oks rfl
   ⟨qQ KX G (d:=wR) rfl ?_ (df_mk' qSH (nm:="law") (ql:="law") rfl rfl ?_ ?_ ?_),
   zP KX G ?_,
   vX KX G rfl cV xa6 xi6,
   zP KX G ?_,
   zP KX G ?_,
   zP KX G ?_,
   zP KX G ?_,
   zP KX G ?_,
   vX KX G rfl cU xa7 xi7,
   qOh KX G (z:="0123456789") rfl ?_,
   zP KX G ?_,
   zP KX G ?_,
   zP KX G ?_,
   vX KX G rfl aE xa0 xi0,
   aP KX G (d:=eV) rfl jA qa0 qc0 ⟨?_,?_,?_,?_⟩ (df_mk' qFX (nm:="__init__") (ql:="Giver.__init__") rfl rfl ?_ ?_ ?_),
   aP KX G (d:=eU) rfl zF qa4 qc4 ⟨?_,?_,?_,?_⟩ (df_mk' qFW (nm:="__init__") (ql:="Host.__init__") rfl rfl ?_ ?_ ?_),
   zP KX G ?_,
   zP KX G ?_,
   zP KX G ?_,
   zP KX G ?_,
   zP KX G ?_,
   zP KX G ?_,
   zP KX G ?_,
   zP KX G ?_,
   zP KX G ?_,
   zP KX G ?_,
   zP KX G ?_,
   zP KX G ?_,
   zP KX G ?_,
   zP KX G ?_,
   aP KX G (d:=eR) rfl wK qa1 qc1 ⟨?_,?_,?_,?_⟩ (df_mk' qFV (nm:="__init__") (ql:="Meeting.__init__") rfl rfl ?_ ?_ ?_),
   zP KX G ?_,
   vX KX G rfl cT xa2 xi2,
   vX KX G rfl cS xa3 xi3,
   vX KX G rfl cR xa4 xi4,
   vX KX G rfl cQ xa5 xi5,
   aP KX G (d:=eQ) rfl wJ qa2 qc2 ⟨?_,?_,?_,?_⟩ (df_mk' qFU (nm:="__init__") (ql:="Slate.__init__") rfl rfl ?_ ?_ ?_),
   vX KX G rfl aD xa1 xi1,
   aP KX G (d:=eP) rfl jR qa3 qc3 ⟨?_,?_,?_,?_⟩ (df_mk' qFT (nm:="__init__") (ql:="Taker.__init__") rfl rfl ?_ ?_ ?_),
   vX KX G rfl cP xa8 xi8,
   qQ KX G (d:=oK) rfl ?_ (df_mk' qSG (nm:="_law_alike") (ql:="_law_alike") rfl rfl ?_ ?_ ?_),
   qQ KX G (d:=oJ) rfl ?_ (df_mk' qSF (nm:="_law_answer") (ql:="_law_answer") rfl rfl ?_ ?_ ?_),
   qQ KX G (d:=oI) rfl ?_ (df_mk' qSE (nm:="_law_cell_at") (ql:="_law_cell_at") rfl rfl ?_ ?_ ?_),
   qQ KX G (d:=oH) rfl ?_ (df_mk' qSD (nm:="_law_due") (ql:="_law_due") rfl rfl ?_ ?_ ?_),
   qQ KX G (d:=oG) rfl ?_ (df_mk' qSC (nm:="_law_giver_does") (ql:="_law_giver_does") rfl rfl ?_ ?_ ?_),
   qQ KX G (d:=oF) rfl ?_ (df_mk' qSB (nm:="_law_host_does") (ql:="_law_host_does") rfl rfl ?_ ?_ ?_),
   qQ KX G (d:=oE) rfl ?_ (df_mk' qSA (nm:="_law_part") (ql:="_law_part") rfl rfl ?_ ?_ ?_),
   qQ KX G (d:=oB) rfl ?_ (df_mk' qR9 (nm:="_law_signs_by") (ql:="_law_signs_by") rfl rfl ?_ ?_ ?_),
   qQ KX G (d:=nP) rfl ?_ (df_mk' qRz (nm:="_wall") (ql:="_wall") rfl rfl ?_ ?_ ?_),
   qQ KX G (d:=pN) rfl ?_ (df_mk' qSg (nm:="added") (ql:="added") rfl rfl ?_ ?_ ?_),
   kE KX G ?_,
   qQ KX G (d:=pM) rfl ?_ (df_mk' qSf (nm:="all_broken") (ql:="all_broken") rfl rfl ?_ ?_ ?_),
   qQ KX G (d:=pL) rfl ?_ (df_mk' qSe (nm:="are_spans_above") (ql:="are_spans_above") rfl rfl ?_ ?_ ?_),
   qQ KX G (d:=pK) rfl ?_ (df_mk' qSd (nm:="body_of") (ql:="body_of") rfl rfl ?_ ?_ ?_),
   kE KX G ?_,
   qQ KX G (d:=pJ) rfl ?_ (df_mk' qSc (nm:="check_begin") (ql:="check_begin") rfl rfl ?_ ?_ ?_),
   qQ KX G (d:=pI) rfl ?_ (df_mk' qSb (nm:="check_of") (ql:="check_of") rfl rfl ?_ ?_ ?_),
   qQ KX G (d:=pH) rfl ?_ (df_mk' qSa (nm:="check_stretch") (ql:="check_stretch") rfl rfl ?_ ?_ ?_),
   qQ KX G (d:=pG) rfl ?_ (df_mk' qSZ (nm:="count_below") (ql:="count_below") rfl rfl ?_ ?_ ?_),
   qQ KX G (d:=pF) rfl ?_ (df_mk' qSY (nm:="cut") (ql:="cut") rfl rfl ?_ ?_ ?_),
   qQ KX G (d:=pE) rfl ?_ (df_mk' qSX (nm:="figures") (ql:="figures") rfl rfl ?_ ?_ ?_),
   qQ KX G (d:=pD) rfl ?_ (df_mk' qSW (nm:="found") (ql:="found") rfl rfl ?_ ?_ ?_),
   qQ KX G (d:=pC) rfl ?_ (df_mk' qSV (nm:="holes") (ql:="holes") rfl rfl ?_ ?_ ?_),
   qQ KX G (d:=pB) rfl ?_ (df_mk' qSU (nm:="in_turn") (ql:="in_turn") rfl rfl ?_ ?_ ?_),
   kE KX G ?_,
   qQ KX G (d:=pA) rfl ?_ (df_mk' qST (nm:="is_answer") (ql:="is_answer") rfl rfl ?_ ?_ ?_),
   qQ KX G (d:=oZ) rfl ?_ (df_mk' qSS (nm:="is_data") (ql:="is_data") rfl rfl ?_ ?_ ?_),
   qQ KX G (d:=oY) rfl ?_ (df_mk' qSR (nm:="is_end") (ql:="is_end") rfl rfl ?_ ?_ ?_),
   qQ KX G (d:=oW) rfl ?_ (df_mk' qSQ (nm:="is_figures") (ql:="is_figures") rfl rfl ?_ ?_ ?_),
   qQ KX G (d:=oV) rfl ?_ (df_mk' qSP (nm:="is_hello") (ql:="is_hello") rfl rfl ?_ ?_ ?_),
   qQ KX G (d:=oU) rfl ?_ (df_mk' qSO (nm:="is_life") (ql:="is_life") rfl rfl ?_ ?_ ?_),
   qQ KX G (d:=oR) rfl ?_ (df_mk' qSN (nm:="is_number") (ql:="is_number") rfl rfl ?_ ?_ ?_),
   qQ KX G (d:=oQ) rfl ?_ (df_mk' qSM (nm:="is_piece") (ql:="is_piece") rfl rfl ?_ ?_ ?_),
   qQ KX G (d:=oP) rfl ?_ (df_mk' qSL (nm:="is_place") (ql:="is_place") rfl rfl ?_ ?_ ?_),
   qQ KX G (d:=oO) rfl ?_ (df_mk' qSK (nm:="is_sign") (ql:="is_sign") rfl rfl ?_ ?_ ?_),
   qQ KX G (d:=oN) rfl ?_ (df_mk' qSJ (nm:="is_signs") (ql:="is_signs") rfl rfl ?_ ?_ ?_),
   qQ KX G (d:=oM) rfl ?_ (df_mk' qSI (nm:="is_span_above") (ql:="is_span_above") rfl rfl ?_ ?_ ?_),
   kE KX G ?_,
   kE KX G ?_,
   kE KX G ?_,
   kE KX G ?_,
   kE KX G ?_,
   qQ KX G (d:=oA) rfl ?_ (df_mk' qR8 (nm:="names_stream") (ql:="names_stream") rfl rfl ?_ ?_ ?_),
   qQ KX G (d:=nZ) rfl ?_ (df_mk' qR7 (nm:="number_of") (ql:="number_of") rfl rfl ?_ ?_ ?_),
   qQ KX G (d:=nY) rfl ?_ (df_mk' qR6 (nm:="number_words") (ql:="number_words") rfl rfl ?_ ?_ ?_),
   qQ KX G (d:=nW) rfl ?_ (df_mk' qR5 (nm:="numbers_of") (ql:="numbers_of") rfl rfl ?_ ?_ ?_),
   kE KX G ?_,
   qQ KX G (d:=nV) rfl ?_ (df_mk' qR4 (nm:="parts_of") (ql:="parts_of") rfl rfl ?_ ?_ ?_),
   kE KX G ?_,
   qQ KX G (d:=nU) rfl ?_ (df_mk' qR3 (nm:="read") (ql:="read") rfl rfl ?_ ?_ ?_),
   qQ KX G (d:=nT) rfl ?_ (df_mk' qR2 (nm:="signs_word") (ql:="signs_word") rfl rfl ?_ ?_ ?_),
   kE KX G ?_,
   qQ KX G (d:=nR) rfl ?_ (df_mk' qR1 (nm:="spans_of") (ql:="spans_of") rfl rfl ?_ ?_ ?_),
   qQ KX G (d:=nQ) rfl ?_ (df_mk' qR0 (nm:="spans_word") (ql:="spans_word") rfl rfl ?_ ?_ ?_),
   kE KX G ?_,
   kE KX G ?_,
   qQ KX G (d:=nO) rfl ?_ (df_mk' qRy (nm:="whole_ones") (ql:="whole_ones") rfl rfl ?_ ?_ ?_),
   qQ KX G (d:=nN) rfl ?_ (df_mk' qRx (nm:="written") (ql:="written") rfl rfl ?_ ?_ ?_),
   trivial⟩
   ⟨(Fy.mt_cons jA qa0 qc0 (d:=eV) ⟨?_,?_,?_⟩ rfl (df_mk' qFX (nm:="__init__") (ql:="Giver.__init__") rfl rfl ?_ ?_ ?_) (Fy.mt_cons wK qa1 qc1 (d:=eR) ⟨?_,?_,?_⟩ rfl (df_mk' qFV (nm:="__init__") (ql:="Meeting.__init__") rfl rfl ?_ ?_ ?_) (Fy.mt_cons wJ qa2 qc2 (d:=eQ) ⟨?_,?_,?_⟩ rfl (df_mk' qFU (nm:="__init__") (ql:="Slate.__init__") rfl rfl ?_ ?_ ?_) (Fy.mt_cons jR qa3 qc3 (d:=eP) ⟨?_,?_,?_⟩ rfl (df_mk' qFT (nm:="__init__") (ql:="Taker.__init__") rfl rfl ?_ ?_ ?_) (Fy.mt_cons zF qa4 qc4 (d:=eU) ⟨?_,?_,?_⟩ rfl (df_mk' qFW (nm:="__init__") (ql:="Host.__init__") rfl rfl ?_ ?_ ?_) (Fy.mt_nil qLB (by decide))))))),
   (Fy.mt_cons jA qa0 qc0 (d:=sA) ⟨?_,?_,?_⟩ rfl (df_mk' qTE (nm:="write") (ql:="Giver.write") rfl rfl ?_ ?_ ?_) (Fy.mt_cons zF qa4 qc4 (d:=rD) ⟨?_,?_,?_⟩ rfl (df_mk' qSt (nm:="write") (ql:="Host.write") rfl rfl ?_ ?_ ?_) (Fy.mt_nil qKC (by decide)))),
   (Fy.mt_cons jA qa0 qc0 (d:=sG) ⟨?_,?_,?_⟩ rfl (df_mk' qTK (nm:="finish") (ql:="Giver.finish") rfl rfl ?_ ?_ ?_) (Fy.mt_cons zF qa4 qc4 (d:=rT) ⟨?_,?_,?_⟩ rfl (df_mk' qS8 (nm:="finish") (ql:="Host.finish") rfl rfl ?_ ?_ ?_) (Fy.mt_nil qKx (by decide)))),
   (Fy.mt_cons jA qa0 qc0 (d:=sI) ⟨?_,?_,?_⟩ rfl (df_mk' qTL (nm:="answered") (ql:="Giver.answered") rfl rfl ?_ ?_ ?_) (Fy.mt_nil qK7 (by decide))),
   (Fy.mt_cons jA qa0 qc0 (d:=sF) ⟨?_,?_,?_⟩ rfl (df_mk' qTJ (nm:="known_with") (ql:="Giver.known_with") rfl rfl ?_ ?_ ?_) (Fy.mt_nil qKm (by decide))),
   (Fy.mt_cons jA qa0 qc0 (d:=sD) ⟨?_,?_,?_⟩ rfl (df_mk' qTH (nm:="next_parts") (ql:="Giver.next_parts") rfl rfl ?_ ?_ ?_) (Fy.mt_nil qKf (by decide))),
   (Fy.mt_cons jA qa0 qc0 (d:=sE) ⟨?_,?_,?_⟩ rfl (df_mk' qTI (nm:="next_part") (ql:="Giver.next_part") rfl rfl ?_ ?_ ?_) (Fy.mt_nil qKg (by decide))),
   (Fy.mt_cons jA qa0 qc0 (d:=sJ) ⟨?_,?_,?_⟩ rfl (df_mk' qTM (nm:="again") (ql:="Giver.again") rfl rfl ?_ ?_ ?_) (Fy.mt_nil qLA (by decide))),
   (Fy.mt_cons jA qa0 qc0 (d:=sC) ⟨?_,?_,?_⟩ rfl (df_mk' qTG (nm:="parts_again") (ql:="Giver.parts_again") rfl rfl ?_ ?_ ?_) (Fy.mt_nil qKb (by decide))),
   (Fy.mt_cons jA qa0 qc0 (d:=sB) ⟨?_,?_,?_⟩ rfl (df_mk' qTF (nm:="parts_of_holes") (ql:="Giver.parts_of_holes") rfl rfl ?_ ?_ ?_) (Fy.mt_nil qKa (by decide))),
   (Fy.mt_cons wK qa1 qc1 (d:=rA) ⟨?_,?_,?_⟩ rfl (df_mk' qSs (nm:="heard") (ql:="Meeting.heard") rfl rfl ?_ ?_ ?_) (Fy.mt_nil qKt (by decide))),
   (Fy.mt_cons wK qa1 qc1 (d:=pZ) ⟨?_,?_,?_⟩ rfl (df_mk' qSr (nm:="hello") (ql:="Meeting.hello") rfl rfl ?_ ?_ ?_) (Fy.mt_nil qKs (by decide))),
   (Fy.mt_cons wK qa1 qc1 (d:=pY) ⟨?_,?_,?_⟩ rfl (df_mk' qSq (nm:="reply") (ql:="Meeting.reply") rfl rfl ?_ ?_ ?_) (Fy.mt_nil qKU (by decide))),
   (Fy.mt_cons wJ qa2 qc2 (d:=pV) ⟨?_,?_,?_⟩ rfl (df_mk' qSo (nm:="put") (ql:="Slate.put") rfl rfl ?_ ?_ ?_) (Fy.mt_cons jR qa3 qc3 (d:=pR) ⟨?_,?_,?_⟩ rfl (df_mk' qSk (nm:="put") (ql:="Taker.put") rfl rfl ?_ ?_ ?_) (Fy.mt_nil qKX (by decide)))),
   (Fy.mt_cons wJ qa2 qc2 (d:=pW) ⟨?_,?_,?_⟩ rfl (df_mk' qSp (nm:="draw_in") (ql:="Slate.draw_in") rfl rfl ?_ ?_ ?_) (Fy.mt_nil qK0 (by decide))),
   (Fy.mt_cons wJ qa2 qc2 (d:=pU) ⟨?_,?_,?_⟩ rfl (df_mk' qSn (nm:="sign") (ql:="Slate.sign") rfl rfl ?_ ?_ ?_) (Fy.mt_nil qKP (by decide))),
   (Fy.mt_cons jR qa3 qc3 (d:=pS) ⟨?_,?_,?_⟩ rfl (df_mk' qSl (nm:="ends") (ql:="Taker.ends") rfl rfl ?_ ?_ ?_) (Fy.mt_nil qKz (by decide))),
   (Fy.mt_cons jR qa3 qc3 (d:=pQ) ⟨?_,?_,?_⟩ rfl (df_mk' qSj (nm:="reach") (ql:="Taker.reach") rfl rfl ?_ ?_ ?_) (Fy.mt_nil qKW (by decide))),
   (Fy.mt_cons jR qa3 qc3 (d:=pO) ⟨?_,?_,?_⟩ rfl (df_mk' qSh (nm:="take") (ql:="Taker.take") rfl rfl ?_ ?_ ?_) (Fy.mt_cons zF qa4 qc4 (d:=rJ) ⟨?_,?_,?_⟩ rfl (df_mk' qSy (nm:="take") (ql:="Host.take") rfl rfl ?_ ?_ ?_) (Fy.mt_nil qKK (by decide)))),
   (Fy.mt_cons jR qa3 qc3 (d:=pP) ⟨?_,?_,?_⟩ rfl (df_mk' qSi (nm:="see_done") (ql:="Taker.see_done") rfl rfl ?_ ?_ ?_) (Fy.mt_nil qKS (by decide))),
   (Fy.mt_cons jR qa3 qc3 (d:=pT) ⟨?_,?_,?_⟩ rfl (df_mk' qSm (nm:="answer") (ql:="Taker.answer") rfl rfl ?_ ?_ ?_) (Fy.mt_nil qK9 (by decide))),
   (Fy.mt_cons zF qa4 qc4 (d:=rY) ⟨?_,?_,?_⟩ rfl (df_mk' qTC (nm:="begin_life") (ql:="Host.begin_life") rfl rfl ?_ ?_ ?_) (Fy.mt_nil qK6 (by decide))),
   (Fy.mt_cons zF qa4 qc4 (d:=rL) ⟨?_,?_,?_⟩ rfl (df_mk' qS0 (nm:="start") (ql:="Host.start") rfl rfl ?_ ?_ ?_) (Fy.mt_nil qKM (by decide))),
   (Fy.mt_cons zF qa4 qc4 (d:=rS) ⟨?_,?_,?_⟩ rfl (df_mk' qS7 (nm:="giver") (ql:="Host.giver") rfl rfl ?_ ?_ ?_) (Fy.mt_nil qKw (by decide))),
   (Fy.mt_cons zF qa4 qc4 (d:=rG) ⟨?_,?_,?_⟩ rfl (df_mk' qSw (nm:="taker") (ql:="Host.taker") rfl rfl ?_ ?_ ?_) (Fy.mt_nil qKI (by decide))),
   (Fy.mt_cons zF qa4 qc4 (d:=rK) ⟨?_,?_,?_⟩ rfl (df_mk' qSz (nm:="streams") (ql:="Host.streams") rfl rfl ?_ ?_ ?_) (Fy.mt_nil qKL (by decide))),
   (Fy.mt_cons zF qa4 qc4 (d:=rQ) ⟨?_,?_,?_⟩ rfl (df_mk' qS5 (nm:="others") (ql:="Host.others") rfl rfl ?_ ?_ ?_) (Fy.mt_nil qKe (by decide))),
   (Fy.mt_cons zF qa4 qc4 (d:=rW) ⟨?_,?_,?_⟩ rfl (df_mk' qTA (nm:="broken") (ql:="Host.broken") rfl rfl ?_ ?_ ?_) (Fy.mt_nil qK3 (by decide))),
   (Fy.mt_cons zF qa4 qc4 (d:=rV) ⟨?_,?_,?_⟩ rfl (df_mk' qS9 (nm:="fall") (ql:="Host.fall") rfl rfl ?_ ?_ ?_) (Fy.mt_nil qKy (by decide))),
   (Fy.mt_cons zF qa4 qc4 (d:=rE) ⟨?_,?_,?_⟩ rfl (df_mk' qSu (nm:="tick") (ql:="Host.tick") rfl rfl ?_ ?_ ?_) (Fy.mt_nil qKE (by decide))),
   (Fy.mt_cons zF qa4 qc4 (d:=rM) ⟨?_,?_,?_⟩ rfl (df_mk' qS1 (nm:="pieces_by_turns") (ql:="Host.pieces_by_turns") rfl rfl ?_ ?_ ?_) (Fy.mt_nil qKY (by decide))),
   (Fy.mt_cons zF qa4 qc4 (d:=rO) ⟨?_,?_,?_⟩ rfl (df_mk' qS3 (nm:="part_to_send") (ql:="Host.part_to_send") rfl rfl ?_ ?_ ?_) (Fy.mt_nil qKc (by decide))),
   (Fy.mt_cons zF qa4 qc4 (d:=rN) ⟨?_,?_,?_⟩ rfl (df_mk' qS2 (nm:="piece_of") (ql:="Host.piece_of") rfl rfl ?_ ?_ ?_) (Fy.mt_nil qKZ (by decide))),
   (Fy.mt_cons zF qa4 qc4 (d:=rR) ⟨?_,?_,?_⟩ rfl (df_mk' qS6 (nm:="hear") (ql:="Host.hear") rfl rfl ?_ ?_ ?_) (Fy.mt_nil qKu (by decide))),
   (Fy.mt_cons zF qa4 qc4 (d:=rX) ⟨?_,?_,?_⟩ rfl (df_mk' qTB (nm:="break_streams") (ql:="Host.break_streams") rfl rfl ?_ ?_ ?_) (Fy.mt_nil qK4 (by decide))),
   (Fy.mt_cons zF qa4 qc4 (d:=rH) ⟨?_,?_,?_⟩ rfl (df_mk' qSx (nm:="taken_in") (ql:="Host.taken_in") rfl rfl ?_ ?_ ?_) (Fy.mt_nil qKJ (by decide))),
   (Fy.mt_cons zF qa4 qc4 (d:=rP) ⟨?_,?_,?_⟩ rfl (df_mk' qS4 (nm:="part_came") (ql:="Host.part_came") rfl rfl ?_ ?_ ?_) (Fy.mt_nil qKd (by decide))),
   (Fy.mt_cons zF qa4 qc4 (d:=rF) ⟨?_,?_,?_⟩ rfl (df_mk' qSv (nm:="taker_made") (ql:="Host.taker_made") rfl rfl ?_ ?_ ?_) (Fy.mt_nil qKH (by decide))),
   (Fy.mt_cons zF qa4 qc4 (d:=rZ) ⟨?_,?_,?_⟩ rfl (df_mk' qTD (nm:="answer_came") (ql:="Host.answer_came") rfl rfl ?_ ?_ ?_) (Fy.mt_nil qK8 (by decide))),
   trivial⟩
   ⟨(Fy.at_cons jA qa0 ?_ (Fy.at_cons zF qa4 ?_ (Fy.at_nil qKh (by decide)))),
   (Fy.at_cons jA qa0 ?_ (Fy.at_cons wJ qa2 ?_ (Fy.at_cons jR qa3 ?_ (Fy.at_nil qKF (by decide))))),
   (Fy.at_cons jA qa0 ?_ (Fy.at_nil qKR (by decide))),
   (Fy.at_cons jA qa0 ?_ (Fy.at_nil qK1 (by decide))),
   (Fy.at_cons jA qa0 ?_ (Fy.at_cons jR qa3 ?_ (Fy.at_nil qKk (by decide)))),
   (Fy.at_cons jA qa0 ?_ (Fy.at_cons wJ qa2 ?_ (Fy.at_nil qKN (by decide)))),
   (Fy.at_cons jA qa0 ?_ (Fy.at_nil qKp (by decide))),
   (Fy.at_cons jA qa0 ?_ (Fy.at_nil qKq (by decide))),
   (Fy.at_cons jA qa0 ?_ (Fy.at_nil qKo (by decide))),
   (Fy.at_cons jA qa0 ?_ (Fy.at_cons jR qa3 ?_ (Fy.at_nil qKr (by decide)))),
   (Fy.at_cons wK qa1 ?_ (Fy.at_nil qKi (by decide))),
   (Fy.at_cons wK qa1 ?_ (Fy.at_nil qKB (by decide))),
   (Fy.at_cons wK qa1 ?_ (Fy.at_nil qKn (by decide))),
   (Fy.at_cons wJ qa2 ?_ (Fy.at_nil qK5 (by decide))),
   (Fy.at_cons jR qa3 ?_ (Fy.at_cons zF qa4 ?_ (Fy.at_nil qKT (by decide)))),
   (Fy.at_cons jR qa3 ?_ (Fy.at_nil qKO (by decide))),
   (Fy.at_cons jR qa3 ?_ (Fy.at_nil qKD (by decide))),
   (Fy.at_cons jR qa3 ?_ (Fy.at_nil qKV (by decide))),
   (Fy.at_cons zF qa4 ?_ (Fy.at_nil qK2 (by decide))),
   (Fy.at_cons zF qa4 ?_ (Fy.at_nil qKl (by decide))),
   (Fy.at_cons zF qa4 ?_ (Fy.at_nil qKj (by decide))),
   (Fy.at_cons zF qa4 ?_ (Fy.at_nil qKv (by decide))),
   (Fy.at_cons zF qa4 ?_ (Fy.at_nil qKG (by decide))),
   (Fy.at_cons zF qa4 ?_ (Fy.at_nil qKQ (by decide))),
   trivial⟩
   ⟨Fy.xm_mk aE xa0 ?_ ?_ ?_ ⟨Fy.xs_mk aE xa0 (b:=true) rfl ?_,Fy.xs_mk aD xa1 (b:=true) rfl ?_,Fy.xs_mk cT xa2 (b:=true) rfl ?_,Fy.xs_mk cS xa3 (b:=true) rfl ?_,Fy.xs_mk cR xa4 (b:=true) rfl ?_,Fy.xs_mk cQ xa5 (b:=true) rfl ?_,Fy.xs_mk cV xa6 (b:=true) rfl ?_,Fy.xs_mk cU xa7 (b:=true) rfl ?_,Fy.xs_mk cP xa8 (b:=true) rfl ?_,trivial⟩,
   Fy.xm_mk aD xa1 ?_ ?_ ?_ ⟨Fy.xs_mk aE xa0 (b:=false) rfl ?_,Fy.xs_mk aD xa1 (b:=true) rfl ?_,Fy.xs_mk cT xa2 (b:=false) rfl ?_,Fy.xs_mk cS xa3 (b:=false) rfl ?_,Fy.xs_mk cR xa4 (b:=false) rfl ?_,Fy.xs_mk cQ xa5 (b:=false) rfl ?_,Fy.xs_mk cV xa6 (b:=false) rfl ?_,Fy.xs_mk cU xa7 (b:=false) rfl ?_,Fy.xs_mk cP xa8 (b:=false) rfl ?_,trivial⟩,
   trivial⟩ (by decide) (by decide) (by decide)
   ⟨vK aE xa0 ⟨?_,?_,?_,?_,?_,?_⟩,
   vK aD xa1 ⟨?_,?_,?_,?_,?_,?_⟩,
   vK cT xa2 ⟨?_,?_,?_,?_,?_,?_⟩,
   vK cS xa3 ⟨?_,?_,?_,?_,?_,?_⟩,
   vK cR xa4 ⟨?_,?_,?_,?_,?_,?_⟩,
   vK cQ xa5 ⟨?_,?_,?_,?_,?_,?_⟩,
   vK cV xa6 ⟨?_,?_,?_,?_,?_,?_⟩,
   vK cU xa7 ⟨?_,?_,?_,?_,?_,?_⟩,
   vK cP xa8 ⟨?_,?_,?_,?_,?_,?_⟩,
   trivial⟩
  all_goals try k_is
end
